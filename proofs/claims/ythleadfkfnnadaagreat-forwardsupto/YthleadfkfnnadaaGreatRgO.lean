/- The document's answer: the arrays of a first place. -/
import Derived.Deep.DeepCutAuto
import Derived.Test.YthleadfkfnnadaaGreatRgG
set_option maxHeartbeats 4000000
set_option maxRecDepth 100000
set_option linter.unusedSimpArgs false
namespace Go.Proofs.YthleadfkfnnadaaGreat
open Go.RowKit
variable {B P g i:Nat} {X:Qg} {p:Rf.Pl} {w w1:World}
def PlW (w:World) (B:Nat) (fv vv cv ov:Value) (p:Rf.Pl):Prop:=0 < p.zH.length/\0 < p.cells.length/\∃xg kB,Xd w B p ⟨fv,vv,cv,ov,xg,kB⟩
def Y6 (p:Rf.Pl) (n:Int) (w:World) (e:Ending) (w':World):Prop:=Below w.heap.size w w'/\∃fv vv cv ov,e=.returned (.tuple #[.agg (jh fv vv cv ov p),.int .i64 n])/\PlW w' w.heap.size fv vv cv ov p
theorem Xd.val (h:Xd w B p X) (W:0 < p.zH.length) (Z:0 < p.cells.length):Bf w X.fv X.vv X.cv X.ov p:=by
 have M:=zN w (.cells (jh X.fv X.vv X.cv X.ov p) 72)
 have d:w.ownsRow 0 130 3 X.fv p.zH.length (frCells X.xg p.zH):=h.own.rows (jy X.fv X.xg p.zH) (by simp[yO])
 have z:w.ownsRow 0 3 1 X.vv p.vars.length (xR p.vars):=h.own.rows (zz X.vv p.vars) (by simp[yO])
 have o:w.ownsRow 0 24 1 X.cv p.cells.length X.kB:=h.own.rows (YF X.cv X.kB p.cells.length) (by simp[yO])
 have A:w.ownsRow 0 3 1 X.ov p.out.length (xR p.out):=h.own.rows (zz X.ov p.out) (by simp[yO])
 have F:∀i (hi:i < p.zH.length),∃av,X.xg[i]?=some av/\w.ownsRow 0 3 1 av p.zH[i].args.length (xR p.zH[i].args):=fun i hi=>by
  have k:i < X.xg.length:=by rw[h.fl];exact hi
  refine⟨X.xg[i],zJ k,h.own.rows (zz X.xg[i] p.zH[i].args) ?_⟩
  unfold yO
  refine zb _ (zY _ ?_)
  have:(List.zipWith zz X.xg (p.zH.map Rf.Fr.args))[i]?=some (zz X.xg[i] p.zH[i].args):=by
   rw[je,zJ k,yt,zJ hi]
   rfl
  exact qF this
 have D:∀i (hi:i < p.cells.length),∃av,X.kB[i]?=some av/\w.ownsRow 0 3 1 av p.cells[i].length (xR p.cells[i]):=fun i hi=>by
  have k:i < X.kB.length:=by rw[h.cl];exact hi
  refine⟨X.kB[i],zJ k,h.own.rows (zz X.kB[i] p.cells[i]) ?_⟩
  unfold yO
  refine zb _ (zb _ ?_)
  have:(List.zipWith zz X.kB p.cells)[i]?=some (zz X.kB[i] p.cells[i]):=by
   rw[je,zJ k,zJ hi]
  exact qF this
 clear M
 obtain⟨g,cap,O,_,_,_⟩:=yD d (YN X.xg p.zH h.fl 0 W).1
 obtain⟨g2,J,I,_,_,_⟩:=yD o (j:=0) (zJ (by rw[h.cl];exact Z))
 refine⟨⟨g,0,cap,O,fun i hi=>?_⟩,YX z,⟨g2,0,J,I,fun i hi=>?_⟩,YX A⟩
 ·obtain⟨av,H,G⟩:=F i hi
  obtain⟨V,N,U⟩:=YN X.xg p.zH h.fl i hi
  rw[<-zJ,H]at N
  obtain⟨g1,c1,f,_,_,L⟩:=yD d V
  obtain⟨g3,c3,y,_,_,T⟩:=yD d N
  obtain⟨g4,c4,x,_,_,R⟩:=yD d U
  rw[O]at f y x
  injection f with f _ _
  injection f with f
  injection f with f
  injection y with y _ _
  injection y with y
  injection y with y
  injection x with x _ _
  injection x with x
  injection x with x
  subst f y x
  rw[xW]
  exact⟨av,L,T,R,YX G⟩
 ·obtain⟨av,H,G⟩:=D i hi
  obtain⟨g1,c1,f,_,_,L⟩:=yD o H
  rw[I]at f
  injection f with f _ _
  injection f with f
  injection f with f
  subst f
  rw[xW]
  exact⟨av,L,YX G⟩
theorem Xd.whole (h:Xd w B p X) (d:0 < p.zH.length) (f:0 < p.cells.length):PlW w B X.fv X.vv X.cv X.ov p:=⟨d,f,X.xg,X.kB,h⟩
theorem Xd.mono {B':Nat} (h:Xd w B p X) (d:B'<=B):Xd w B' p X:=⟨h.own,h.fl,h.cl,fun k hk=>zi d (h.new k hk)⟩
abbrev W7 (w:World) (R:Nat) (a b c d e f g:Value):World:=((((((w.setCell ⟨R,0,none⟩ a).setCell ⟨R,1,none⟩ b).setCell ⟨R,2,none⟩ c).setCell ⟨R,3,none⟩ d).setCell ⟨R,4,none⟩ e).setCell ⟨R,5,none⟩ f).setCell ⟨R,6,none⟩ g
theorem Xd.w7 {w0:World} {N:Nat} {c:Array Value} (h:Xd w B p X) (D:w.heap[N]?=some (.cells c 72 (0,0))) (A:Below B w0 w) (d:B<=N) (y x o k j i f:Value):Xd (W7 w N y x o k j i f) B p X/\Below B w0 (W7 w N y x o k j i f):=by
 have L:=Xd.aside ⟨h,D,A⟩ d 0 y
 have J:=Xd.aside L d 1 x
 have I:=Xd.aside J d 2 o
 have H:=Xd.aside I d 3 k
 have G:=Xd.aside H d 4 j
 have F:=Xd.aside G d 5 i
 have z:=Xd.aside F d 6 f
 exact⟨z.1,z.2.2⟩
theorem seven {R:Nat} {t:TypeId} {a b c d e f g:Value} (h:w.heap[R]?=some (.cells #[a,b,c,d,e,f,g] t (0,0))):w.cell? ⟨R,0,none⟩=some a/\w.cell? ⟨R,1,none⟩=some b/\w.cell? ⟨R,2,none⟩=some c/\w.cell? ⟨R,3,none⟩=some d/\w.cell? ⟨R,4,none⟩=some e/\w.cell? ⟨R,5,none⟩=some f/\w.cell? ⟨R,6,none⟩=some g:=
 ⟨zC h 0 (by simp),zC h 1 (by simp),zC h 2 (by simp),zC h 3 (by simp),zC h 4 (by simp),zC h 5 (by simp),zC h 6 (by simp)⟩
theorem vC.ZX (h:vC w B P p X):∃xa xc ya yc za zc oa oc,X.fv=.slice xa p.zH.length xc/\X.vv=.slice ya p.vars.length yc/\X.cv=.slice za p.cells.length zc/\X.ov=.slice oa p.out.length oc:=by
 obtain⟨xa,xc,i⟩:=zK h.Jq
 obtain⟨ya,yc,f⟩:=zK h.wJ
 obtain⟨za,zc,d⟩:=zK h.eB
 obtain⟨oa,oc,j⟩:=zK h.CQ
 exact⟨xa,xc,ya,yc,za,zc,oa,oc,i,f,d,j⟩
def rR (S g cap:Nat) (ls:List (List ByteArray)) (P:Nat) (p:Rf.Pl) (te:Int) (p1:Rf.Pl) (w0:World) (e:Ending) (w':World):Prop:=e=.returned (.int .i64 te)/\∃X',JW w0 w' S g cap ls P (if te=0 then p1 else p) X'
def Gv (w:World) (S g cap L:Nat) (ls:List (List ByteArray)) (t:List ByteArray) (iv:Value) (p:Rf.Pl) (te nn:Int) (p1:Rf.Pl) (x:ByteArray):Prop:=
 ((x.toList==[115,101,116])=true/\nn=2/\∃p0:Rf.Pl,(te=0->p0.line=(L:Int)+1)/\p1={ p0 with line:=(Rf.jc ls (L+1):Nat) }/\∀(w0 w':World) (P:Nat) (X:Qg) (tv:Value),JW w0 w' S g cap ls P p X->xA w0 tv t->Calls Tryz.prog 96 #[.pointer (some ⟨S,0,none⟩),.pointer (some ⟨P,0,none⟩),tv] w' (rR S g cap ls P p te p0 w0))\/
 (x.toList==[115,101,116])=false/\((x.toList==[99,97,108,108])=true/\nn=1/\(∀(w0 w':World) (P:Nat) (X:Qg) (tv:Value),JW w0 w' S g cap ls P p X->xA w0 tv t->Calls Tryz.prog 97 #[.pointer (some ⟨S,0,none⟩),.pointer (some ⟨P,0,none⟩),tv] w' (rR S g cap ls P p te p1 w0))\/
 (x.toList==[99,97,108,108])=false/\(((x.toList==[114,101,116,117,114,110])=true\/(x.toList==[114,101,116,117,114,110])=false/\(x.toList==[101,110,100])=true)/\nn=1+((Rf.top p).args.length:Int)/\(∀(w0 w':World) (P:Nat) (X:Qg),JW w0 w' S g cap ls P p X->Calls Tryz.prog 98 #[.pointer (some ⟨S,0,none⟩),.pointer (some ⟨P,0,none⟩)] w' (rR S g cap ls P p te p1 w0))\/
 (x.toList==[114,101,116,117,114,110])=false/\(x.toList==[101,110,100])=false/\((x.toList==[112,114,105,110,116])=true/\(x.toList==[114,101,97,100])=false/\nn=2\/(x.toList==[112,114,105,110,116])=false/\((x.toList==[114,101,97,100])=true/\nn=3\/(x.toList==[114,101,97,100])=false/\nn=1))/\∀(w0 w':World) (P:Nat) (X:Qg) (tv:Value),Below w.heap.size w w0->JW w0 w' S g cap ls P p X->xA w0 tv t->Calls Tryz.prog 99 #[.pointer (some ⟨S,0,none⟩),.pointer (some ⟨P,0,none⟩),tv,iv] w' (rR S g cap ls P p te p1 w0)))
theorem QC {S cap L:Nat} {ls:List (List ByteArray)} {fv vv cv ov iv:Value} {t:List ByteArray} (hG:jA w S g cap ls) (hv:Bf w fv vv cv ov p) (hB:PlB p) (f6:Rf.V9 ls p) (hL:Lawful ls) (W:Rf.nested ls=0) (f8:p.line=(L:Int)+1) (g6:L < ls.length) (ht:ls[L]=t) (b7:0 < t.length) (i0:∃a n c,iv=.slice a n c) {te nn:Int} {p1:Rf.Pl} (f5:te=0->0 < p1.zH.length/\0 < p1.cells.length) (hk:Gv w S g cap L ls t iv p te nn p1 t[0]) :
  Calls Tryz.prog 55 #[.pointer (some ⟨S,0,none⟩),.agg (jh fv vv cv ov p),iv] w (Y6 (if te=0 then p1 else { p with fin:=te }) (if te=0 then nn else 1) w):=by
 have HG:=zD hG
 have HV:=zD hv
 have d1:=zD hB
 have a3:=zD f6
 have f9:=hL.len
 have i5:=zD (JM ls L g6 f9 W S g cap)
 have HK:=zD hk
 obtain⟨fb,fo,N,rfl,h8⟩:=hv.zH
 obtain⟨cb,co,O,rfl,h7⟩:=hv.cells
 obtain⟨a4,J,rfl,h6⟩:=hv.vars
 obtain⟨a5,M,rfl,h5⟩:=hv.out
 obtain⟨j7,j6,i6,rfl⟩:=i0
 have i3:=zD f8
 have i1:=zD f5
 have HT:=zD ht
 obtain⟨q,hq⟩:∃q,q=(if te=0 then p1 else ({ p with fin:=te }:Rf.Pl)):=⟨_,rfl⟩
 obtain⟨mm,hnn⟩:∃mm,mm=(if te=0 then nn else 1):=⟨_,rfl⟩
 rw[<-hq,<-hnn]
 have HQ:=qG hq hnn
 have H:=((zI w.heap.size w).alloc (zB _) (.cells (jh (.slice (some ⟨fb,fo,none⟩) p.zH.length N) (.slice a4 p.vars.length J) (.slice (some ⟨cb,co,none⟩) p.cells.length O) (.slice a5 p.out.length M) p) 72)).alloc (by simp) (.cells #[.slice none 0 0,.slice none 0 0,.slice none 0 0,.int .i64 0,.slice none 0 0,.int .i64 0,.int .i64 0] 72)
 have bB:=yR (zN w (.cells (jh (.slice (some ⟨fb,fo,none⟩) p.zH.length N) (.slice a4 p.vars.length J) (.slice (some ⟨cb,co,none⟩) p.cells.length O) (.slice a5 p.out.length M) p) 72)) (.cells #[.slice none 0 0,.slice none 0 0,.slice none 0 0,.int .i64 0,.slice none 0 0,.int .i64 0,.int .i64 0] 72)
 have bR:=qD w (.cells (jh (.slice (some ⟨fb,fo,none⟩) p.zH.length N) (.slice a4 p.vars.length J) (.slice (some ⟨cb,co,none⟩) p.cells.length O) (.slice a5 p.out.length M) p) 72) (.cells #[.slice none 0 0,.slice none 0 0,.slice none 0 0,.int .i64 0,.slice none 0 0,.int .i64 0,.int .i64 0] 72)
 have k7:((w.alloc (.cells (jh (.slice (some ⟨fb,fo,none⟩) p.zH.length N) (.slice a4 p.vars.length J) (.slice (some ⟨cb,co,none⟩) p.cells.length O) (.slice a5 p.out.length M) p) 72)).alloc (.cells #[.slice none 0 0,.slice none 0 0,.slice none 0 0,.int .i64 0,.slice none 0 0,.int .i64 0,.int .i64 0] 72)).heap.size=w.heap.size+2:=by simp
 clear hG hv hB f6 hL W hk h8 h7 h6 h5 f8 f5 hq hnn ht
 unfold jh at *
 go_enter Tryz.func55,Tryz.ntmps55
 go_wp2_with fail
 generalize (w.alloc _).alloc _=wA at *
 have g8:=zD (HV.u.zP H)
 refine(gj g8.u d1.u).mono ?_
 rintro e w1 ⟨g2,X,rfl,hQ⟩
 have l1:=g2.size
 have b9:=(zI w1.heap.size w1).alloc (zB _) (.cells (jh X.fv X.vv X.cv X.ov p) 72)
 have hO:=hQ.at b9 (zN w1 (.cells (jh X.fv X.vv X.cv X.ov p) 72)) (by omega)
 have hI:JW wA (w1.alloc (.cells (jh X.fv X.vv X.cv X.ov p) 72)) S g cap ls w1.heap.size p X:=⟨HG.u.zP H,g2.trans (b9.mono (B':=wA.heap.size) (by omega)),hO⟩
 obtain⟨D,A,d4⟩:=zK hO.Jq
 obtain⟨z,y,d3⟩:=zK hO.wJ
 obtain⟨o,k,d2⟩:=zK hO.eB
 obtain⟨G,F,f7⟩:=zK hO.CQ
 have i:jh X.fv X.vv X.cv X.ov p=#[.slice D p.zH.length A,.slice z p.vars.length y,.slice o p.cells.length k,.int .i64 p.read,.slice G p.out.length F,.int .i64 p.line,.int .i64 p.fin]:=by rw[d4,d3,d2,f7];rfl
 rw[i]at hI ⊢
 have h9:(w1.alloc (.cells #[.slice D p.zH.length A,.slice z p.vars.length y,.slice o p.cells.length k,.int .i64 p.read,.slice G p.out.length F,.int .i64 p.line,.int .i64 p.fin] 72)).heap.size=w1.heap.size+1:=by simp
 have c5:(w1.alloc (.cells #[.slice D p.zH.length A,.slice z p.vars.length y,.slice o p.cells.length k,.int .i64 p.read,.slice G p.out.length F,.int .i64 p.line,.int .i64 p.fin] 72)).cell? ⟨w1.heap.size,5,none⟩=some (.int .i64 ((L:Int)+1)):=by
  have:=zC (zN w1 (.cells #[.slice D p.zH.length A,.slice z p.vars.length y,.slice o p.cells.length k,.int .i64 p.read,.slice G p.out.length F,.int .i64 p.line,.int .i64 p.fin] 72)) 5 (by simp)
  rw[this]
  exact qB (fun x=>some (Value.int .i64 x)) i3.u
 have hT:=hI.JZ.top
 obtain⟨h0,tc,c7,d8⟩:=HG.u.row L g6
 have g7:=cell_later H c7
 have c8:=cell_later hI.iB g7
 have U:=zD (d8.zP H)
 rw[HT.u]at c8 U
 have HI:=zD hI
 have j9:IntKind.i64.wrap ((L:Int)+1-1)=L:=by rw[show (L:Int)+1-1=(L:Int) by omega];exact zl _ ⟨by omega,by omega⟩
 have j8:IntKind.i64.wrap (L:Int)=L:=zl _ ⟨by omega,by omega⟩
 have l4:(0:Int)<=(L:Int):=by omega
 have l3:(L:Int) < (ls.length:Int):=by omega
 have l6:w1.heap.size+1<=(w1.alloc (.cells #[.slice D p.zH.length A,.slice z p.vars.length y,.slice o p.cells.length k,.int .i64 p.read,.slice G p.out.length F,.int .i64 p.line,.int .i64 p.fin] 72)).heap.size:=by simp
 clear hO b9 hQ hI d4 d3 d2 f7 i c7 g7 d8 h9
 go_wp2_with fail
 generalize d6:w1.alloc (.cells #[.slice D p.zH.length A,.slice z p.vars.length y,.slice o p.cells.length k,.int .i64 p.read,.slice G p.out.length F,.int .i64 p.line,.int .i64 p.fin] 72)=w2 at *
 clear d6
 obtain⟨tb,tq,rfl⟩:∃tb tq,h0=some ⟨tb,tq,none⟩:=U.u.qZ (by intro e;rw[e]at b7;simp at b7)
 have i8:(0:Int) < (t.length:Int):=by omega
 have g9:=zD (show ∀w',Below wA.heap.size wA w'->w'.cell? ⟨tb,tq,none⟩=some (.string t[0])from fun w' hb=>by have:=Xm (U.u.zP hb) b7;rw[qO]at this;exact this)
 go_region_held3 (fun w'=>w'.cell? ⟨S,0,none⟩=some (.slice (some ⟨g,0,none⟩) ls.length cap)/\w'.cell? ⟨w1.heap.size,5,none⟩=some (.int .i64 ((L:Int)+1))/\w'.cell? ⟨g,L,none⟩=some (.slice (some ⟨tb,tq,none⟩) t.length tc)) (go_keep) (fail)
 have V:=zD (HI.u.zP (zh w2))
 have ct:=g9.u _ V.u.iB
 clear HI c5 hT c8
 generalize w2.drew=w3 at *
 generalize t[0]=x0 at *
 generalize w1.heap.size=P at *
 go_upto_region 5 with (fail)
 go_cut [26] (fun v wx=>v=.string x0/\wx=w3)
 case first=>
  go_wp2_with fail
  go_meet
  case rel=>exact⟨rfl,rfl⟩
 case rest=>
  obtain⟨rfl,rfl⟩:=hcut
  rename_i hr hh
  clear hh
  refine hr _ _ ?_
  go_cut [10,11] (fun ev nv wx=>ev=.int .i64 te/\nv=.int .i64 nn/\∃X',JW wA wx S g cap ls P (if te=0 then p1 else p) X')
  case first=>
   rcases HK.u with⟨k1,rfl,p0,hp0,rfl,hin⟩| ⟨k1,⟨k2,rfl,hin⟩| ⟨k2,⟨k3,hnn,hin⟩| ⟨k3,k4,k5,hin⟩⟩⟩
   case inl=>
    have I:=zD hin
    have i2:=zD hp0
    clear hin hp0 HK
    go_wp2_with fail
    refine(I.u wA wc P X _ V.u U.u).mono ?_
    rintro e w4 ⟨rfl,X4,hI4⟩
    by_cases hte:te=0
    case neg=>
     rw[zA hte]at hI4
     have j:=zD hI4
     have d7:(te==0)=false:=by simpa using hte
     clear hI4
     go_wp2_with fail
     go_meet
     case rel=>exact⟨rfl,rfl,X4,by rw[zA hte];exact j.u⟩
    case pos=>
     subst hte
     rw[zE rfl]at hI4
     have c5:w4.cell? ⟨P,5,none⟩=some (.int .i64 ((L:Int)+1)):=by have:=zC hI4.pl.block 5 (by simp[jh]);rw[this];exact qB (fun x=>some (Value.int .i64 x)) (i2.u rfl)
     have j:=zD hI4
     have l5:IntKind.i64.wrap ((L:Int)+1+1)=(L:Int)+1+1:=zl _ ⟨by omega,by omega⟩
     clear hI4
     go_wp2_with fail
     refine(i5.u _ j.u.JZ).mono ?_
     rintro e w5 ⟨rfl,R⟩
     have a2:=j.u.zP R
     have d5:w5.cell? ⟨P,5,none⟩=some (.int .i64 p0.line):=zC a2.pl.block 5 (by simp[jh])
     have z5:=zS a2.pl.block
     have i4:=zD (a2.to (a2.pl.Qj (Rf.jc ls (L+1):Nat)))
     clear a2 R c5
     go_wp2_with fail
     go_meet
     case rel=>exact⟨rfl,rfl,X4,by rw[zE (by simp)];exact i4.u⟩
   case inr.inl=>
    have I:=zD hin
    clear hin HK
    go_wp2_with fail
    refine(I.u wA wc P X _ V.u U.u).mono ?_
    rintro e w4 ⟨rfl,hI4⟩
    go_wp2_with fail
    go_meet
    case rel=>exact⟨rfl,rfl,hI4⟩
   case inr.inr.inl=>
    have I:=zD hin
    clear hin HK
    obtain⟨fk,g1⟩:∃fk,p.zH.length=fk+1:=⟨p.zH.length-1,by have:=a3.u.some;omega⟩
    obtain⟨l8,l7,l9,g4,_,k0,_,h4,_,a7⟩:=V.u.pl.top g1
    obtain⟨m0,j5,g3⟩:=zK a7
    rw[g3]at h4
    have g0:=a3.u.VJ
    have j3:fk<=1000:=by omega
    have j0:IntKind.i64.wrap ((fk:Int)+1-1)=fk:=by rw[show (fk:Int)+1-1=(fk:Int) by omega];exact zl _ ⟨by omega,by omega⟩
    have i9:IntKind.i64.wrap (fk:Int)=fk:=zl _ ⟨by omega,by omega⟩
    have j2:(0:Int)<=(fk:Int):=by omega
    have j1:(fk:Int) < (fk:Int)+1:=by omega
    have j4:(Rf.top p).args.length<=1000:=d1.u.args (Rf.top p) (by
     have h1:=a3.u.some
     unfold Rf.top
     rw[xL,zJ (by omega)]
     exact zj _)
    have l2:IntKind.i64.wrap (1+((Rf.top p).args.length:Int))=1+((Rf.top p).args.length:Int):=zl _ ⟨by omega,by omega⟩
    generalize (Rf.top p).args.length=al at *
    subst hnn
    clear g1 g4 a7 g3 g0
    rcases k3 with k3 | ⟨k3,k4⟩
    all_goals
     go_wp2_with fail
     refine(I.u wA wc P X V.u).mono ?_
     rintro e w4 ⟨rfl,hI4⟩
     go_wp2_with fail
     go_meet
     case rel=>exact⟨rfl,rfl,hI4⟩
   case inr.inr.inr=>
    have I:=zD hin
    clear hin HK
    rcases k5 with⟨k5,k6,rfl⟩| ⟨k5,⟨k6,rfl⟩| ⟨k6,rfl⟩⟩
    all_goals
     go_wp2_with fail
     refine(I.u wA wc P X _ H V.u U.u).mono ?_
     rintro e w4 ⟨rfl,hI4⟩
     go_wp2_with fail
     go_meet
     case rel=>exact⟨rfl,rfl,hI4⟩
  case rest=>
   obtain⟨rfl,rfl,X4,hI4⟩:=hcut
   have f:=hI4.iB
   have i7:=f.size
   have c0:=(f.block w.heap.size (by omega)).trans bB
   have T:=(f.block (w.heap.size+1) (by omega)).trans bR
   by_cases hte:te=0
   ·subst hte
    rw[zE rfl]at hI4
    obtain⟨d9,f0⟩:=i1.u rfl
    have d0:=qG (HQ.u.1.trans (zE rfl)) (HQ.u.2.trans (zE rfl))
    obtain⟨D,A,z,y,o,k,G,F,f1,f2,f3,f4⟩:=hI4.pl.ZX
    have h:=hI4.pl.block
    have i:jh X4.fv X4.vv X4.cv X4.ov p1=#[.slice D p1.zH.length A,.slice z p1.vars.length y,.slice o p1.cells.length k,.int .i64 p1.read,.slice G p1.out.length F,.int .i64 p1.line,.int .i64 p1.fin]:=by rw[f1,f2,f3,f4];rfl
    rw[i]at h
    obtain⟨q0,q1,q2,q3,q4,q5,q6⟩:=seven h
    obtain⟨n0,n1,n2,n3,n4,n5,n6⟩:=seven T
    have zn:=zS T
    have d:=Xd.w7 (w0:=w) (hI4.pl.rows.mono (B':=w.heap.size) (by omega)) T (H.trans (f.mono (B':=w.heap.size) (by omega))) (by omega) (.slice D p1.zH.length A) (.slice z p1.vars.length y) (.slice o p1.cells.length k) (.int .i64 p1.read) (.slice G p1.out.length F) (.int .i64 p1.line) (.int .i64 p1.fin)
    have HF:=XX d.2 (d.1.whole d9 f0) i
    clear hI4 f c0 T HQ h i d f1 f2 f3 f4
    go_wp2_with fail
    refine zT (v:=.tuple #[.agg #[.slice D p1.zH.length A,.slice z p1.vars.length y,.slice o p1.cells.length k,.int .i64 p1.read,.slice G p1.out.length F,.int .i64 p1.line,.int .i64 p1.fin],.int .i64 nn]) ?_ rfl ?_
    ·simp[results,Tryz.results55,go_sem,n0,n1,n2,n3,n4,n5,n6]
    ·obtain⟨h1,h2,h3⟩:=HF.u
     obtain⟨e1,e2⟩:=d0.u
     rw[e1,e2]
     exact⟨h1,_,_,_,_,qB (fun a=>Ending.returned (Value.tuple #[Value.agg a,Value.int .i64 nn])) h3.symm,h2⟩
   ·rw[zA hte]at hI4
    have d7:(te==0)=false:=by simpa using hte
    have d0:=qG (HQ.u.1.trans (zA hte)) (HQ.u.2.trans (zA hte))
    obtain⟨b0,b1,b2,b3,b4,b5,b6⟩:=seven c0
    have j:=XX hI4 T (g8.u.zP f)
    clear hI4 f c0 T HQ
    go_wp2_with fail
    refine(gj j.u.2.2 d1.u).mono ?_
    rintro e w5 ⟨R,X5,rfl,a1⟩
    have l0:=R.size
    have g5:Xd w5 wc.heap.size { p with fin:=te } X5:=⟨a1.own,a1.fl,a1.cl,a1.new⟩
    have b8:=(zI w5.heap.size w5).alloc (zB _) (.cells (jh X5.fv X5.vv X5.cv X5.ov { p with fin:=te }) 72)
    have a6:=g5.at b8 (zN w5 (.cells (jh X5.fv X5.vv X5.cv X5.ov { p with fin:=te }) 72)) (by omega)
    obtain⟨D,A,z,y,o,k,G,F,f1,f2,f3,f4⟩:=a6.ZX
    have i:jh X5.fv X5.vv X5.cv X5.ov p=#[.slice D p.zH.length A,.slice z p.vars.length y,.slice o p.cells.length k,.int .i64 p.read,.slice G p.out.length F,.int .i64 p.line,.int .i64 p.fin]:=by rw[f1,f2,f3,f4];rfl
    have a9:jh X5.fv X5.vv X5.cv X5.ov { p with fin:=te }=#[.slice D p.zH.length A,.slice z p.vars.length y,.slice o p.cells.length k,.int .i64 p.read,.slice G p.out.length F,.int .i64 p.line,.int .i64 te]:=by rw[f1,f2,f3,f4];rfl
    have Z:Below wA.heap.size wA (w5.alloc (.cells (jh X5.fv X5.vv X5.cv X5.ov { p with fin:=te }) 72)):=(j.u.1.iB.trans (R.mono (B':=wA.heap.size) j.u.1.iB.size)).trans (b8.mono (B':=wA.heap.size) (by omega))
    have a0:=(Z.block (w.heap.size+1) (by omega)).trans bR
    have h:=a6.block
    have d:=Xd.w7 (w0:=w) (a6.rows.mono (B':=w.heap.size) (by omega)) a0 (H.trans (Z.mono (B':=w.heap.size) (by omega))) (by omega) (.slice D p.zH.length A) (.slice z p.vars.length y) (.slice o p.cells.length k) (.int .i64 p.read) (.slice G p.out.length F) (.int .i64 p.line) (.int .i64 te)
    have a8:=d.1.whole a3.u.some (by have:=a3.u.cells;show 0 < p.cells.length;omega)
    rw[a9]at h a0 d a8
    rw[i]
    obtain⟨q0,q1,q2,q3,q4,q5,q6⟩:=seven h
    obtain⟨n0,n1,n2,n3,n4,n5,n6⟩:=seven a0
    have zn:=zS a0
    have HF:=XX d.2 a8 a9
    clear a6 g5 b8 Z a0 h d a8 i a9 f1 f2 f3 f4 R a1 b0 b1 b2 b3 b4 b5 b6
    go_wp2_with fail
    refine zT (v:=.tuple #[.agg #[.slice D p.zH.length A,.slice z p.vars.length y,.slice o p.cells.length k,.int .i64 p.read,.slice G p.out.length F,.int .i64 p.line,.int .i64 te],.int .i64 1]) ?_ rfl ?_
    ·simp[results,Tryz.results55,go_sem,n0,n1,n2,n3,n4,n5,n6]
    ·obtain⟨h1,h2,h3⟩:=HF.u
     obtain⟨e1,e2⟩:=d0.u
     rw[e1,e2]
     exact⟨h1,_,_,_,_,qB (fun a=>Ending.returned (Value.tuple #[Value.agg a,Value.int .i64 1])) h3.symm,h2⟩
theorem uC {α β γ:Type} (f:α->β->γ):∀(xs:List α) (ys:List β) (i:Nat) (a:α) (b:β),List.zipWith f (xs.set i a) (ys.set i b)=(List.zipWith f xs ys).set i (f a b)
 | [],_,_,_,_=>by simp
 | _::_,[],i,_,_=>by cases i <;> simp
 | _::_,_::_,0,_,_=>rfl
 | _::xs,_::ys,i+1,a,b=>by simp[uC f xs ys i a b]
theorem uD {α β γ:Type} (f:α->β->γ) (a:α) (b:β):∀n:Nat,List.zipWith f (List.replicate n a) (List.replicate n b)=List.replicate n (f a b)
 | 0=>rfl
 | n+1=>by simp[List.replicate_succ,uD f a b n]
theorem wZ {α:Type} (l:List α) (h:i < l.length) (y:α):l=l.take i++l[i]::l.drop (i+1)/\l.set i y=l.take i++y::l.drop (i+1):=
 ⟨by simp,by rw[List.set_eq_take_append_cons_drop,zE h]⟩
theorem Own.nils {R N:List Rw} (h:Own w R) (d:∀r∈N,r.v.ownBlock=none/\w.ownsRow 0 r.t r.size r.v r.n r.xs):Own w (R++N)/\xh (R++N)=xh R:=by
 have f:xh N=[]:=by
  unfold xh
  rw[List.filterMap_eq_nil_iff]
  exact fun r hr=>(d r hr).1
 have e:xh (R++N)=xh R:=by rw[jd,f,yX]
 refine⟨⟨fun r hr=>?_,by rw[e];exact h.apart⟩,e⟩
 rcases zd.mp hr with hr | hr
 ·exact h.rows r hr
 ·exact(d r hr).2
theorem vC.EZ (h:vC w B P p X) (I:B<=w.heap.size) (o:Below w.heap.size w w1) (v:Value) (n:Nat) (H:p.cells=[]) (G:X.kB=[]) (y:w1.ownsRow w.heap.size 24 1 v n (List.replicate n (.slice none 0 0))) :
  vC (w1.setCell ⟨P,2,none⟩ v) B P { p with cells:=List.replicate n [] } { X with cv:=v,kB:=List.replicate n (.slice none 0 0) }/\Below B w (w1.setCell ⟨P,2,none⟩ v):=by
 have z:=zQ h.block
 have j:=zU h.block o
 have f:yO X p=[jy X.fv X.xg p.zH,zz X.vv p.vars]++YF X.cv [] 0::(zz X.ov p.out::List.zipWith zz X.xg (p.zH.map Rf.Fr.args)):=by
  unfold yO
  rw[H,G]
  simp
 have x:=h.own
 rw[f]at x
 obtain⟨F,D⟩:=Own.swap (w':=w1) x (r':=YF v (List.replicate n (.slice none 0 0)) n) (fun k hk _=>o.block k hk) (vr y) (fun g hg=>Or.inr (y.lt g hg).1)
 obtain⟨i,A⟩:=F.nils (N:=List.replicate n (zz (.slice none 0 0) [])) (fun r hr=>by
  rw[List.mem_replicate]at hr
  rw[hr.2]
  exact⟨rfl,zW _ _ _ _⟩)
 have d:yO { X with cv:=v,kB:=List.replicate n (.slice none 0 0) } { p with cells:=List.replicate n [] }=([jy X.fv X.xg p.zH,zz X.vv p.vars]++YF v (List.replicate n (.slice none 0 0)) n::(zz X.ov p.out::List.zipWith zz X.xg (p.zH.map Rf.Fr.args)))++List.replicate n (zz (.slice none 0 0) []):=by
  unfold yO
  simp only[uD,qN]
  simp
 have hcase:∀k∈xh (yO { X with cv:=v,kB:=List.replicate n (.slice none 0 0) } { p with cells:=List.replicate n [] }),k∈xh (yO X p)\/w.heap.size<=k:=by
  intro k hk
  rw[d,A]at hk
  rw[f]
  exact D k hk
 refine⟨⟨by rw[zf j];rfl,?_,h.fl,by simp,fun k hk=>?_,h.here⟩,?_⟩
 ·rw[<-d]at i
  exact⟨fun r hm=>yP (i.rows r hm) (fun g hg=>zO w1 ⟨P,2,none⟩ _ g (by
   show g≠P
   rcases hcase g (qU hm hg)with hk | hk
   ·exact h.apart hk
   ·omega)),i.apart⟩
 ·rcases hcase k hk with hk | hk
  ·exact h.new k hk
  ·omega
 ·exact yx (o.mono I) h.here _ _
theorem vC.F3 (h:vC w B P p X) (hB:B<=w.heap.size) (A:Below w.heap.size w w1) (hi:i < p.cells.length) (hg:X.cv.ownBlock=some g) (U:X.kB[i]?=some (.slice none 0 0)) (v:Value) (xs:List Int) (hn:w1.ownsRow w.heap.size 3 1 v xs.length (xR xs)) :
  vC (w1.setCell ⟨g,i,none⟩ v) B P { p with cells:=p.cells.set i xs } { X with kB:=X.kB.set i v }/\Below B w (w1.setCell ⟨g,i,none⟩ v):=by
 have L:i < X.kB.length:=by rw[h.cl];exact hi
 have J:X.kB[i]=.slice none 0 0:=by rw[zJ L]at U;exact Option.some.inj U
 obtain⟨Z,D⟩:∃Z,Z=List.zipWith zz X.kB p.cells:=⟨_,rfl⟩
 have H:i < Z.length:=by rw[D,List.length_zipWith];omega
 have I:Z[i]=zz (.slice none 0 0) p.cells[i]:=by subst D;rw[List.getElem_zipWith,J]
 obtain⟨N,s2⟩:=wZ Z H (zz v xs)
 rw[I]at N
 have o:g∈xh (yO X p):=qU (r:=YF X.cv X.kB p.cells.length) (by simp[yO]) hg
 have M:=h.apart o
 have a0:=zQ h.block
 have a1:=h.own.lt g o
 obtain⟨F,hF⟩:∃F,F=List.zipWith zz X.xg (p.zH.map Rf.Fr.args):=⟨_,rfl⟩
 have z:yO X p=([jy X.fv X.xg p.zH,zz X.vv p.vars,YF X.cv X.kB p.cells.length,zz X.ov p.out]++(F++Z.take i))++zz (.slice none 0 0) p.cells[i]::Z.drop (i+1):=by
  unfold yO
  rw[<-D,<-hF]
  conv=>lhs;rw[N]
  simp
 have W:=h.own
 rw[z]at W
 obtain⟨T,R⟩:=Own.swap (w':=w1) W (r':=zz v xs) (fun k hk _=>A.block k hk) (vr hn) (fun g hg=>Or.inr (hn.lt g hg).1)
 have x:([jy X.fv X.xg p.zH,zz X.vv p.vars,YF X.cv X.kB p.cells.length,zz X.ov p.out]++(F++Z.take i))++zz v xs::Z.drop (i+1)=[jy X.fv X.xg p.zH,zz X.vv p.vars]++YF X.cv X.kB p.cells.length::(zz X.ov p.out::(F++Z.set i (zz v xs))):=by
  rw[s2]
  simp
 rw[x]at T R
 have hrow:w1.ownsRow 0 24 1 X.cv p.cells.length X.kB:=yG h.eB A
 obtain⟨ad,cap,j⟩:=zK hrow
 have V:X.cv=.slice (some ⟨g,0,none⟩) p.cells.length cap:=by
  rcases hrow.2 with⟨G,_⟩| ⟨g',cap',cur,G,_⟩
  ·rw[G]at hg;cases hg
  ·rw[G]at hg j
   simp[Value.ownBlock]at hg
   injection j with _ _ j
   rw[G,hg,j]
 have f:=hrow
 rw[V]at f
 have f:=(f.stored i v).1
 rw[<-V]at f
 have d:∀k,k≠g->(w1.setCell ⟨g,i,none⟩ v).heap[k]?=w1.heap[k]?:=fun k hk=>zO w1 ⟨g,i,none⟩ _ k hk
 obtain⟨O,o4⟩:=Own.swap (w':=w1.setCell ⟨g,i,none⟩ v) T (r':=YF X.cv (X.kB.set i v) p.cells.length) (fun k _ hk=>d k (fun e=>hk (by rw[e];exact hg))) f (fun g' hg'=>Or.inl hg')
 have y:yO { X with kB:=X.kB.set i v } { p with cells:=p.cells.set i xs }=[jy X.fv X.xg p.zH,zz X.vv p.vars]++YF X.cv (X.kB.set i v) p.cells.length::(zz X.ov p.out::(F++Z.set i (zz v xs))):=by
  unfold yO
  simp only[uC,jD,<-D,<-hF]
  simp
 rw[<-y]at O o4
 have hcase:∀k∈xh (yO { X with kB:=X.kB.set i v } { p with cells:=p.cells.set i xs }),k∈xh (yO X p)\/w.heap.size<=k:=by
  intro k hk
  rcases o4 k hk with hk | hk
  ·rw[z]
   exact R k hk
  ·have:=A.size
   exact Or.inr (by omega)
 refine⟨⟨by rw[d P (xK M)];exact zU h.block A,O,h.fl,by simp[h.cl],fun k hk=>?_,h.here⟩,yx (A.mono hB) (h.new g o) _ _⟩
 rcases hcase k hk with hk | hk
 ·exact h.new k hk
 ·omega
theorem Xd.ZX (h:Xd w B p X):∃xa xc ya yc za zc oa oc,X.fv=.slice xa p.zH.length xc/\X.vv=.slice ya p.vars.length yc/\X.cv=.slice za p.cells.length zc/\X.ov=.slice oa p.out.length oc:=by
 obtain⟨xa,xc,i⟩:=zK (h.own.rows (jy X.fv X.xg p.zH) (by simp[yO]))
 obtain⟨ya,yc,f⟩:=zK (h.own.rows (zz X.vv p.vars) (by simp[yO]))
 obtain⟨za,zc,d⟩:=zK (h.own.rows (YF X.cv X.kB p.cells.length) (by simp[yO]))
 obtain⟨oa,oc,j⟩:=zK (h.own.rows (zz X.ov p.out) (by simp[yO]))
 exact⟨xa,xc,ya,yc,za,zc,oa,oc,i,f,d,j⟩
theorem Xd.zP {w w':World} {B:Nat} {p:Rf.Pl} {X:Qg} (h:Xd w B p X) (d:Below w.heap.size w w'):Xd w' B p X:=⟨h.own.zP d,h.fl,h.cl,h.new⟩
end Go.Proofs.YthleadfkfnnadaaGreat
