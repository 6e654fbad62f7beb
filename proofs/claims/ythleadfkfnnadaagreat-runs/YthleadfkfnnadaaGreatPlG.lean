/- The first place, by both: plain. -/
import Derived.Test.YthleadfkfnnadaaGreatRgG
import Derived.Test.YthleadfkfnnadaaGreatRefX
import Derived.Test.YthleadfkfnnadaaGreatRefR
set_option maxHeartbeats 4000000
set_option maxRecDepth 100000
namespace Go.Proofs.YthleadfkfnnadaaGreat
open Go.RowKit
def PlW (w:World) (B:Nat) (fv vv cv ov:Value) (p:Rf.Pl):Prop:=0 < p.zD.length∧0 < p.cells.length∧∃fps cps,PlQ w B p ⟨fv,vv,cv,ov,fps,cps⟩
def zCA (p:Rf.Pl) (n:Int) (w:World) (e:Ending) (w':World):Prop:=Below w.heap.size w w'∧∃fv vv cv ov,e=.returned (.tuple #[.agg (plA fv vv cv ov p),.int .i64 n])∧PlW w' w.heap.size fv vv cv ov p
theorem PlQ.val {w:World} {B:Nat} {p:Rf.Pl} {X:PlX} (h:PlQ w B p X) (hf:0 < p.zD.length) (hc:0 < p.cells.length):PlV w X.fv X.vv X.cv X.ov p:=by
 have hbl:=heap_alloc_new w (.cells (plA X.fv X.vv X.cv X.ov p) 72)
 have hfrow:w.ownsRow 0 130 3 X.fv p.zD.length (frCells X.fps p.zD):=h.own.rows (zBI X.fv X.fps p.zD) (by simp[zb])
 have hvrow:w.ownsRow 0 3 1 X.vv p.vars.length (zz p.vars):=h.own.rows (zQ X.vv p.vars) (by simp[zb])
 have hcrow:w.ownsRow 0 24 1 X.cv p.cells.length X.cps:=h.own.rows (zCh X.cv X.cps p.cells.length) (by simp[zb])
 have horow:w.ownsRow 0 3 1 X.ov p.out.length (zz p.out):=h.own.rows (zQ X.ov p.out) (by simp[zb])
 have harow:∀i (hi:i < p.zD.length),∃av,X.fps[i]?=some av∧w.ownsRow 0 3 1 av p.zD[i].args.length (zz p.zD[i].args):=fun i hi=>by
  have hi':i < X.fps.length:=by rw[h.fl];exact hi
  refine⟨X.fps[i],List.getElem?_eq_getElem hi',h.own.rows (zQ X.fps[i] p.zD[i].args) ?_⟩
  unfold zb
  refine List.mem_append_right _ (List.mem_append_left _ ?_)
  have:(List.zipWith zQ X.fps (p.zD.map Rf.Fr.args))[i]?=some (zQ X.fps[i] p.zD[i].args):=by
   rw[List.getElem?_zipWith,List.getElem?_eq_getElem hi',List.getElem?_map,List.getElem?_eq_getElem hi]
   rfl
  exact List.mem_of_getElem? this
 have herow:∀i (hi:i < p.cells.length),∃av,X.cps[i]?=some av∧w.ownsRow 0 3 1 av p.cells[i].length (zz p.cells[i]):=fun i hi=>by
  have hi':i < X.cps.length:=by rw[h.cl];exact hi
  refine⟨X.cps[i],List.getElem?_eq_getElem hi',h.own.rows (zQ X.cps[i] p.cells[i]) ?_⟩
  unfold zb
  refine List.mem_append_right _ (List.mem_append_right _ ?_)
  have:(List.zipWith zQ X.cps p.cells)[i]?=some (zQ X.cps[i] p.cells[i]):=by
   rw[List.getElem?_zipWith,List.getElem?_eq_getElem hi',List.getElem?_eq_getElem hi]
  exact List.mem_of_getElem? this
 clear hbl
 obtain⟨g,cap,hv,_,_,_⟩:=zW hfrow (zCl X.fps p.zD h.fl 0 hf).1
 obtain⟨g2,cap2,hv2,_,_,_⟩:=zW hcrow (j:=0) (List.getElem?_eq_getElem (by rw[h.cl];exact hc))
 refine⟨⟨g,0,cap,hv,fun i hi=>?_⟩,zDH hvrow,⟨g2,0,cap2,hv2,fun i hi=>?_⟩,zDH horow⟩
 ·obtain⟨av,ha1,ha2⟩:=harow i hi
  obtain⟨q1,q2,q3⟩:=zCl X.fps p.zD h.fl i hi
  rw[←List.getElem?_eq_getElem,ha1]at q2
  obtain⟨g1,c1,e1,_,_,r1⟩:=zW hfrow q1
  obtain⟨g3,c3,e3,_,_,r3⟩:=zW hfrow q2
  obtain⟨g4,c4,e4,_,_,r4⟩:=zW hfrow q3
  rw[hv]at e1 e3 e4
  injection e1 with e1 _ _
  injection e1 with e1
  injection e1 with e1
  injection e3 with e3 _ _
  injection e3 with e3
  injection e3 with e3
  injection e4 with e4 _ _
  injection e4 with e4
  injection e4 with e4
  subst e1 e3 e4
  rw[Nat.zero_add]
  exact⟨av,r1,r3,r4,zDH ha2⟩
 ·obtain⟨av,ha1,ha2⟩:=herow i hi
  obtain⟨g1,c1,e1,_,_,r1⟩:=zW hcrow ha1
  rw[hv2]at e1
  injection e1 with e1 _ _
  injection e1 with e1
  injection e1 with e1
  subst e1
  rw[Nat.zero_add]
  exact⟨av,r1,zDH ha2⟩
theorem PlQ.whole {w:World} {B:Nat} {p:Rf.Pl} {X:PlX} (h:PlQ w B p X) (hf:0 < p.zD.length) (hc:0 < p.cells.length):PlW w B X.fv X.vv X.cv X.ov p:=⟨hf,hc,X.fps,X.cps,h⟩
theorem PlQ.mono {w:World} {B B':Nat} {p:Rf.Pl} {X:PlX} (h:PlQ w B p X) (hB:B'≤B):PlQ w B' p X:=⟨h.own,h.fl,h.cl,fun k hk=>Nat.le_trans hB (h.new k hk)⟩
abbrev W7 (w:World) (R:Nat) (a b c d e f g:Value):World:=((((((w.setCell ⟨R,0,none⟩ a).setCell ⟨R,1,none⟩ b).setCell ⟨R,2,none⟩ c).setCell ⟨R,3,none⟩ d).setCell ⟨R,4,none⟩ e).setCell ⟨R,5,none⟩ f).setCell ⟨R,6,none⟩ g
theorem PlQ.w7 {w w0:World} {B:Nat} {p:Rf.Pl} {X:PlX} {N:Nat} {c:Array Value} (h:PlQ w B p X) (hN:w.heap[N]?=some (.cells c 72 (0,0))) (hb:Below B w0 w) (hBN:B≤N) (v0 v1 v2 v3 v4 v5 v6:Value):PlQ (W7 w N v0 v1 v2 v3 v4 v5 v6) B p X∧Below B w0 (W7 w N v0 v1 v2 v3 v4 v5 v6):=by
 have h0:=PlQ.aside ⟨h,hN,hb⟩ hBN 0 v0
 have h1:=PlQ.aside h0 hBN 1 v1
 have h2:=PlQ.aside h1 hBN 2 v2
 have h3:=PlQ.aside h2 hBN 3 v3
 have h4:=PlQ.aside h3 hBN 4 v4
 have h5:=PlQ.aside h4 hBN 5 v5
 have h6:=PlQ.aside h5 hBN 6 v6
 exact⟨h6.1,h6.2.2⟩
theorem seven {w:World} {R:Nat} {t:TypeId} {a b c d e f g:Value} (h:w.heap[R]?=some (.cells #[a,b,c,d,e,f,g] t (0,0))):w.cell? ⟨R,0,none⟩=some a∧w.cell? ⟨R,1,none⟩=some b∧w.cell? ⟨R,2,none⟩=some c∧w.cell? ⟨R,3,none⟩=some d∧w.cell? ⟨R,4,none⟩=some e∧w.cell? ⟨R,5,none⟩=some f∧w.cell? ⟨R,6,none⟩=some g:=
 ⟨zC h 0 (by simp),zC h 1 (by simp),zC h 2 (by simp),zC h 3 (by simp),zC h 4 (by simp),zC h 5 (by simp),zC h 6 (by simp)⟩
theorem PlO.zBp {w:World} {B P:Nat} {p:Rf.Pl} {X:PlX} (h:PlO w B P p X):∃xa xc ya yc za zc oa oc,X.fv=.slice xa p.zD.length xc∧X.vv=.slice ya p.vars.length yc∧X.cv=.slice za p.cells.length zc∧X.ov=.slice oa p.out.length oc:=by
 obtain⟨xa,xc,hxf⟩:=zE h.zDV
 obtain⟨ya,yc,hyf⟩:=zE h.zIx
 obtain⟨za,zc,hzf⟩:=zE h.zFL
 obtain⟨oa,oc,hof⟩:=zE h.zJs
 exact⟨xa,xc,ya,yc,za,zc,oa,oc,hxf,hyf,hzf,hof⟩
theorem zIZ (w:World) (S g cap L:Nat) (ls:List (List ByteArray)) (p:Rf.Pl) (fv vv cv ov iv:Value) (t:List ByteArray) (hG:zAg w S g cap ls) (hv:PlV w fv vv cv ov p) (hB:PlB p) (hok:Rf.zEb ls p) (hL:Lawful ls) (hnest:Rf.nested ls=0) (hln:p.line=(L:Int)+1) (hLl:L < ls.length) (ht:ls[L]=t) (hl1:0 < t.length) (hiv:∃a n c,iv=.slice a n c)
  (h0:(t[0].toList==[115,101,116])=true) (te:Int) (p1:Rf.Pl) (hp1:te=0→p1.line=(L:Int)+1∧0 < p1.zD.length∧0 < p1.cells.length)
  (hin:∀(w0 w':World) (P:Nat) (X:PlX) (tv:Value),InS w0 w' S g cap ls P p X→zu w0 tv t→Calls Tryz.prog 96 #[.pointer (some ⟨S,0,none⟩),.pointer (some ⟨P,0,none⟩),tv] w' fun e w''=>e=.returned (.int .i64 te)∧∃X',InS w0 w'' S g cap ls P (if te=0 then p1 else p) X') :
  Calls Tryz.prog 55 #[.pointer (some ⟨S,0,none⟩),.agg (plA fv vv cv ov p),iv] w (zCA (if te=0 then { p1 with line:=(Rf.zAp ls (L+1):Nat) }else { p with fin:=te }) (if te=0 then 2 else 1) w):=by
 have HG:=zB hG
 have HV:=zB hv
 have HBB:=zB hB
 have HOK:=zB hok
 have hlen:=hL.len
 have HGo:=zB (zEm ls L hLl hlen hnest S g cap)
 have HIN:=zB hin
 obtain⟨fb,fo,fcap,rfl,hx1⟩:=hv.zD
 obtain⟨cb,co,ccap,rfl,hx2⟩:=hv.cells
 obtain⟨vad,vcap,rfl,hx3⟩:=hv.vars
 obtain⟨oad,ocap,rfl,hx4⟩:=hv.out
 obtain⟨iad,iln,icap,rfl⟩:=hiv
 have HLN:=zB hln
 have HP1:=zB hp1
 have HT:=zB ht
 obtain⟨q,hq⟩:∃q,q=(if te=0 then ({ p1 with line:=(Rf.zAp ls (L+1):Nat) }:Rf.Pl)else { p with fin:=te }):=⟨_,rfl⟩
 obtain⟨nn,hnn⟩:∃nn,nn=(if te=0 then (2:Int)else 1):=⟨_,rfl⟩
 rw[←hq,←hnn]
 have HQ:=zB (And.intro hq hnn)
 have hbA:=((Below.refl w.heap.size w).alloc (Nat.le_refl _) (.cells (plA (.slice (some ⟨fb,fo,none⟩) p.zD.length fcap) (.slice vad p.vars.length vcap) (.slice (some ⟨cb,co,none⟩) p.cells.length ccap) (.slice oad p.out.length ocap) p) 72)).alloc (by simp) (.cells #[.slice none 0 0,.slice none 0 0,.slice none 0 0,.int .i64 0,.slice none 0 0,.int .i64 0,.int .i64 0] 72)
 have bB:=zV (heap_alloc_new w (.cells (plA (.slice (some ⟨fb,fo,none⟩) p.zD.length fcap) (.slice vad p.vars.length vcap) (.slice (some ⟨cb,co,none⟩) p.cells.length ccap) (.slice oad p.out.length ocap) p) 72)) (.cells #[.slice none 0 0,.slice none 0 0,.slice none 0 0,.int .i64 0,.slice none 0 0,.int .i64 0,.int .i64 0] 72)
 have bR:=zAG w (.cells (plA (.slice (some ⟨fb,fo,none⟩) p.zD.length fcap) (.slice vad p.vars.length vcap) (.slice (some ⟨cb,co,none⟩) p.cells.length ccap) (.slice oad p.out.length ocap) p) 72) (.cells #[.slice none 0 0,.slice none 0 0,.slice none 0 0,.int .i64 0,.slice none 0 0,.int .i64 0,.int .i64 0] 72)
 have hsA:((w.alloc (.cells (plA (.slice (some ⟨fb,fo,none⟩) p.zD.length fcap) (.slice vad p.vars.length vcap) (.slice (some ⟨cb,co,none⟩) p.cells.length ccap) (.slice oad p.out.length ocap) p) 72)).alloc (.cells #[.slice none 0 0,.slice none 0 0,.slice none 0 0,.int .i64 0,.slice none 0 0,.int .i64 0,.int .i64 0] 72)).heap.size=w.heap.size+2:=by simp
 clear hG hv hB hok hL hnest hin hx1 hx2 hx3 hx4 hln hp1 hq hnn ht
 unfold plA at *
 go_enter Tryz.func55,Tryz.ntmps55
 go_wp2_with fail
 generalize (w.alloc _).alloc _=wA at *
 have HV1:=zB ((zA HV).zH hbA)
 refine(zAz _ _ _ _ _ p (zA HV1) (zA HBB)).mono ?_
 rintro e w1 ⟨hb1,X,rfl,hQ⟩
 have hs1:=hb1.size
 have hbP:=(Below.refl w1.heap.size w1).alloc (Nat.le_refl _) (.cells (plA X.fv X.vv X.cv X.ov p) 72)
 have hO:=hQ.at hbP (heap_alloc_new w1 (.cells (plA X.fv X.vv X.cv X.ov p) 72)) (by omega)
 have hI:InS wA (w1.alloc (.cells (plA X.fv X.vv X.cv X.ov p) 72)) S g cap ls w1.heap.size p X:=⟨(zA HG).zH hbA,hb1.trans (hbP.mono (B':=wA.heap.size) (by omega)),hO⟩
 obtain⟨xa,xc,hxf⟩:=zE hO.zDV
 obtain⟨ya,yc,hyf⟩:=zE hO.zIx
 obtain⟨za,zc,hzf⟩:=zE hO.zFL
 obtain⟨oa,oc,hof⟩:=zE hO.zJs
 have hpa:plA X.fv X.vv X.cv X.ov p=#[.slice xa p.zD.length xc,.slice ya p.vars.length yc,.slice za p.cells.length zc,.int .i64 p.read,.slice oa p.out.length oc,.int .i64 p.line,.int .i64 p.fin]:=by rw[hxf,hyf,hzf,hof];rfl
 rw[hpa]at hI ⊢
 have hsP:(w1.alloc (.cells #[.slice xa p.zD.length xc,.slice ya p.vars.length yc,.slice za p.cells.length zc,.int .i64 p.read,.slice oa p.out.length oc,.int .i64 p.line,.int .i64 p.fin] 72)).heap.size=w1.heap.size+1:=by simp
 have c5:(w1.alloc (.cells #[.slice xa p.zD.length xc,.slice ya p.vars.length yc,.slice za p.cells.length zc,.int .i64 p.read,.slice oa p.out.length oc,.int .i64 p.line,.int .i64 p.fin] 72)).cell? ⟨w1.heap.size,5,none⟩=some (.int .i64 ((L:Int)+1)):=by
  have:=zC (heap_alloc_new w1 (.cells #[.slice xa p.zD.length xc,.slice ya p.vars.length yc,.slice za p.cells.length zc,.int .i64 p.read,.slice oa p.out.length oc,.int .i64 p.line,.int .i64 p.fin] 72)) 5 (by simp)
  rw[this]
  exact congrArg (fun x=>some (Value.int .i64 x)) (zA HLN)
 have hT:=hI.zDR.top
 obtain⟨tad,tc,c7,hst⟩:=(zA HG).row L hLl
 have c7':=cell_later hbA c7
 have c8:=cell_later hI.bel c7'
 have HST:=zB (hst.zH hbA)
 rw[zA HT]at c8 HST
 have HI:=zB hI
 have hw1:IntKind.i64.wrap ((L:Int)+1-1)=L:=by rw[show (L:Int)+1-1=(L:Int) by omega];exact IntWalk.i64_in _ ⟨by omega,by omega⟩
 have hw2:IntKind.i64.wrap (L:Int)=L:=IntWalk.i64_in _ ⟨by omega,by omega⟩
 have hm0:(0:Int)≤(L:Int):=by omega
 have hm1:(L:Int) < (ls.length:Int):=by omega
 have hPs:w1.heap.size+1≤(w1.alloc (.cells #[.slice xa p.zD.length xc,.slice ya p.vars.length yc,.slice za p.cells.length zc,.int .i64 p.read,.slice oa p.out.length oc,.int .i64 p.line,.int .i64 p.fin] 72)).heap.size:=by simp
 clear hO hbP hQ hI hxf hyf hzf hof hpa c7 c7' hst hsP
 go_wp2_with fail
 generalize hw2e:w1.alloc (.cells #[.slice xa p.zD.length xc,.slice ya p.vars.length yc,.slice za p.cells.length zc,.int .i64 p.read,.slice oa p.out.length oc,.int .i64 p.line,.int .i64 p.fin] 72)=w2 at *
 clear hw2e
 obtain⟨tb,to,rfl⟩:∃tb to,tad=some ⟨tb,to,none⟩:=(zA HST).zAM (by intro e;rw[e]at hl1;simp at hl1)
 have hl0':(0:Int) < (t.length:Int):=by omega
 have HTok:=zB (show ∀w',Below wA.heap.size wA w'→w'.cell? ⟨tb,to,none⟩=some (.string t[0])from fun w' hb=>by have:=zB1 ((zA HST).zH hb) hl1;rw[Nat.add_zero]at this;exact this)
 go_region_held3 (fun w'=>w'.cell? ⟨S,0,none⟩=some (.slice (some ⟨g,0,none⟩) ls.length cap)∧w'.cell? ⟨w1.heap.size,5,none⟩=some (.int .i64 ((L:Int)+1))∧w'.cell? ⟨g,L,none⟩=some (.slice (some ⟨tb,to,none⟩) t.length tc)) (go_keep) (fail)
 have HI2:=zB ((zA HI).zH (zS w2))
 have ct:=zA HTok _ (zA HI2).bel
 clear HI c5 hT c8
 generalize w2.drew=w3 at *
 generalize t[0]=x0 at *
 generalize w1.heap.size=P at *
 go_wp2_with fail
 refine(zA HIN wA w3 P X _ (zA HI2) (zA HST)).mono ?_
 rintro e w4 ⟨rfl,X4,hI4⟩
 have hbw4:=hI4.bel
 have hsw4:=hbw4.size
 have hB4:=(hbw4.block w.heap.size (by omega)).trans bB
 have hR4:=(hbw4.block (w.heap.size+1) (by omega)).trans bR
 by_cases hte:te=0
 ·subst hte
  rw[if_pos rfl]at hI4
  obtain⟨hp1l,hp1f,hp1c⟩:=zA HP1 rfl
  have HQ2:=zB (And.intro ((zA HQ).1.trans (if_pos rfl)) ((zA HQ).2.trans (if_pos rfl)))
  have c5:w4.cell? ⟨P,5,none⟩=some (.int .i64 ((L:Int)+1)):=by have:=zC hI4.pl.block 5 (by simp[plA]);rw[this];exact congrArg (fun x=>some (Value.int .i64 x)) hp1l
  have HI4:=zB hI4
  have hlw:IntKind.i64.wrap ((L:Int)+1+1)=(L:Int)+1+1:=IntWalk.i64_in _ ⟨by omega,by omega⟩
  clear hI4 hbw4 hB4 hR4 hp1l HQ
  go_wp2_with fail
  refine(zA HGo _ (zA HI4).zDR).mono ?_
  rintro e w5 ⟨rfl,hb5⟩
  have hI5:=(zA HI4).zH hb5
  have hq5:=hI5.pl.block
  have d5:w5.cell? ⟨P,5,none⟩=some (.int .i64 p1.line):=zC hq5 5 (by simp[plA])
  have z5:=zI hq5
  have hI6:=hI5.to (hI5.pl.zEL (Rf.zAp ls (L+1):Nat))
  have hbw6:=hI6.bel
  have hR6:=(hbw6.block (w.heap.size+1) (by omega)).trans bR
  obtain⟨xa,xc,ya,yc,za,zc,oa,oc,f1,f2,f3,f4⟩:=hI6.pl.zBp
  have hblk:=hI6.pl.block
  have hpa:plA X4.fv X4.vv X4.cv X4.ov { p1 with line:=((Rf.zAp ls (L+1):Nat):Int) }=#[.slice xa p1.zD.length xc,.slice ya p1.vars.length yc,.slice za p1.cells.length zc,.int .i64 p1.read,.slice oa p1.out.length oc,.int .i64 (Rf.zAp ls (L+1):Nat),.int .i64 p1.fin]:=by rw[f1,f2,f3,f4];rfl
  rw[hpa]at hblk
  obtain⟨q0,q1,q2,q3,q4,q5,q6⟩:=seven hblk
  obtain⟨n0,n1,n2,n3,n4,n5,n6⟩:=seven hR6
  have zn:=zI hR6
  have hfin:=PlQ.w7 (w0:=w) (hI6.pl.rows.mono (B':=w.heap.size) (by omega)) hR6 (hbA.trans (hbw6.mono (B':=w.heap.size) (by omega))) (by omega) (.slice xa p1.zD.length xc) (.slice ya p1.vars.length yc) (.slice za p1.cells.length zc) (.int .i64 p1.read) (.slice oa p1.out.length oc) (.int .i64 (Rf.zAp ls (L+1):Nat)) (.int .i64 p1.fin)
  have HF:=zB (And.intro hfin.2 (And.intro (hfin.1.whole hp1f hp1c) hpa))
  clear hI5 hq5 hb5 hI6 hbw6 hR6 hblk hpa hfin f1 f2 f3 f4
  go_wp2_with fail
  refine bodyPost_ret (v:=.tuple #[.agg #[.slice xa p1.zD.length xc,.slice ya p1.vars.length yc,.slice za p1.cells.length zc,.int .i64 p1.read,.slice oa p1.out.length oc,.int .i64 (Rf.zAp ls (L+1):Nat),.int .i64 p1.fin],.int .i64 2]) ?_ rfl ?_
  ·simp[results,Tryz.results55,go_sem,n0,n1,n2,n3,n4,n5,n6]
  ·obtain⟨h1,h2,h3⟩:=zA HF
   obtain⟨e1,e2⟩:=zA HQ2
   rw[e1,e2]
   exact⟨h1,_,_,_,_,congrArg (fun a=>Ending.returned (Value.tuple #[Value.agg a,Value.int .i64 2])) h3.symm,h2⟩
 ·rw[if_neg hte]at hI4
  have hte':(te==0)=false:=by simpa using hte
  have HQ2:=zB (And.intro ((zA HQ).1.trans (if_neg hte)) ((zA HQ).2.trans (if_neg hte)))
  obtain⟨b0,b1,b2,b3,b4,b5,b6⟩:=seven hB4
  have HI4:=zB (And.intro hI4 (And.intro hR4 ((zA HV1).zH hbw4)))
  clear hI4 hbw4 hB4 hR4 HQ
  go_wp2_with fail
  refine(zAz _ _ _ _ _ p (zA HI4).2.2 (zA HBB)).mono ?_
  rintro e w5 ⟨hb5,X5,rfl,hQ5⟩
  have hs5:=hb5.size
  have hQ6:PlQ w5 w4.heap.size { p with fin:=te } X5:=⟨hQ5.own,hQ5.fl,hQ5.cl,hQ5.new⟩
  have hbQ:=(Below.refl w5.heap.size w5).alloc (Nat.le_refl _) (.cells (plA X5.fv X5.vv X5.cv X5.ov { p with fin:=te }) 72)
  have hO5:=hQ6.at hbQ (heap_alloc_new w5 (.cells (plA X5.fv X5.vv X5.cv X5.ov { p with fin:=te }) 72)) (by omega)
  obtain⟨xa,xc,ya,yc,za,zc,oa,oc,f1,f2,f3,f4⟩:=hO5.zBp
  have hpa:plA X5.fv X5.vv X5.cv X5.ov p=#[.slice xa p.zD.length xc,.slice ya p.vars.length yc,.slice za p.cells.length zc,.int .i64 p.read,.slice oa p.out.length oc,.int .i64 p.line,.int .i64 p.fin]:=by rw[f1,f2,f3,f4];rfl
  have hpb:plA X5.fv X5.vv X5.cv X5.ov { p with fin:=te }=#[.slice xa p.zD.length xc,.slice ya p.vars.length yc,.slice za p.cells.length zc,.int .i64 p.read,.slice oa p.out.length oc,.int .i64 p.line,.int .i64 te]:=by rw[f1,f2,f3,f4];rfl
  have hb45:Below wA.heap.size wA (w5.alloc (.cells (plA X5.fv X5.vv X5.cv X5.ov { p with fin:=te }) 72)):=((zA HI4).1.bel.trans (hb5.mono (B':=wA.heap.size) (zA HI4).1.bel.size)).trans (hbQ.mono (B':=wA.heap.size) (by omega))
  have hR6:=(hb45.block (w.heap.size+1) (by omega)).trans bR
  have hblk:=hO5.block
  have hfin:=PlQ.w7 (w0:=w) (hO5.rows.mono (B':=w.heap.size) (by omega)) hR6 (hbA.trans (hb45.mono (B':=w.heap.size) (by omega))) (by omega) (.slice xa p.zD.length xc) (.slice ya p.vars.length yc) (.slice za p.cells.length zc) (.int .i64 p.read) (.slice oa p.out.length oc) (.int .i64 p.line) (.int .i64 te)
  have hv7:=hfin.1.whole (zA HOK).some (by have:=(zA HOK).cells;show 0 < p.cells.length;omega)
  rw[hpb]at hblk hR6 hfin hv7
  rw[hpa]
  obtain⟨q0,q1,q2,q3,q4,q5,q6⟩:=seven hblk
  obtain⟨n0,n1,n2,n3,n4,n5,n6⟩:=seven hR6
  have zn:=zI hR6
  have HF:=zB (And.intro hfin.2 (And.intro hv7 hpb))
  clear hO5 hQ6 hbQ hb45 hR6 hblk hfin hv7 hpa hpb f1 f2 f3 f4 hb5 hQ5 b0 b1 b2 b3 b4 b5 b6
  go_wp2_with fail
  refine bodyPost_ret (v:=.tuple #[.agg #[.slice xa p.zD.length xc,.slice ya p.vars.length yc,.slice za p.cells.length zc,.int .i64 p.read,.slice oa p.out.length oc,.int .i64 p.line,.int .i64 te],.int .i64 1]) ?_ rfl ?_
  ·simp[results,Tryz.results55,go_sem,n0,n1,n2,n3,n4,n5,n6]
  ·obtain⟨h1,h2,h3⟩:=zA HF
   obtain⟨e1,e2⟩:=zA HQ2
   rw[e1,e2]
   exact⟨h1,_,_,_,_,congrArg (fun a=>Ending.returned (Value.tuple #[Value.agg a,Value.int .i64 1])) h3.symm,h2⟩
theorem zPI {α β γ:Type} (f:α→β→γ):∀(xs:List α) (ys:List β) (i:Nat) (a:α) (b:β),List.zipWith f (xs.set i a) (ys.set i b)=(List.zipWith f xs ys).set i (f a b)
 | [],_,_,_,_=>by simp
 | _::_,[],i,_,_=>by cases i <;> simp
 | _::_,_::_,0,_,_=>rfl
 | _::xs,_::ys,i+1,a,b=>by simp[zPI f xs ys i a b]
theorem zPJ {α β γ:Type} (f:α→β→γ) (a:α) (b:β):∀n:Nat,List.zipWith f (List.replicate n a) (List.replicate n b)=List.replicate n (f a b)
 | 0=>rfl
 | n+1=>by simp[List.replicate_succ,zPJ f a b n]
theorem zPy {α:Type} (l:List α) {i:Nat} (h:i < l.length) (y:α):l=l.take i++l[i]::l.drop (i+1)∧l.set i y=l.take i++y::l.drop (i+1):=
 ⟨by simp,by rw[List.set_eq_take_append_cons_drop,if_pos h]⟩
theorem Own.nils {w:World} {R N:List Rw} (h:Own w R) (hn:∀r∈N,r.v.ownBlock=none∧w.ownsRow 0 r.t r.size r.v r.n r.xs):Own w (R++N)∧zAJ (R++N)=zAJ R:=by
 have hb:zAJ N=[]:=by
  unfold zAJ
  rw[List.filterMap_eq_nil_iff]
  exact fun r hr=>(hn r hr).1
 have e:zAJ (R++N)=zAJ R:=by rw[zA7,hb,List.append_nil]
 refine⟨⟨fun r hr=>?_,by rw[e];exact h.apart⟩,e⟩
 rcases List.mem_append.mp hr with hr | hr
 ·exact h.rows r hr
 ·exact(hn r hr).2
theorem PlO.newCels {w w1:World} {B P:Nat} {p:Rf.Pl} {X:PlX} (h:PlO w B P p X) (hB:B≤w.heap.size) (hb:Below w.heap.size w w1) (v:Value) (n:Nat) (hc:p.cells=[]) (hx:X.cps=[]) (hn:w1.ownsRow w.heap.size 24 1 v n (List.replicate n (.slice none 0 0))) :
  PlO (w1.setCell ⟨P,2,none⟩ v) B P { p with cells:=List.replicate n [] } { X with cv:=v,cps:=List.replicate n (.slice none 0 0) }∧Below B w (w1.setCell ⟨P,2,none⟩ v):=by
 have hPlt:=zJ h.block
 have hbP:=zK h.block hb
 have hre:zb X p=[zBI X.fv X.fps p.zD,zQ X.vv p.vars]++zCh X.cv [] 0::(zQ X.ov p.out::List.zipWith zQ X.fps (p.zD.map Rf.Fr.args)):=by
  unfold zb
  rw[hc,hx]
  simp
 have ho:=h.own
 rw[hre]at ho
 obtain⟨o1,o2⟩:=Own.swap (w':=w1) ho (r':=zCh v (List.replicate n (.slice none 0 0)) n) (fun k hk _=>hb.block k hk) (zCr hn) (fun g hg=>Or.inr (hn.lt g hg).1)
 obtain⟨o3,o4⟩:=o1.nils (N:=List.replicate n (zQ (.slice none 0 0) [])) (fun r hr=>by
  rw[List.mem_replicate]at hr
  rw[hr.2]
  exact⟨rfl,World.ownsRow_nil _ _ _ _⟩)
 have hre':zb { X with cv:=v,cps:=List.replicate n (.slice none 0 0) } { p with cells:=List.replicate n [] }=([zBI X.fv X.fps p.zD,zQ X.vv p.vars]++zCh v (List.replicate n (.slice none 0 0)) n::(zQ X.ov p.out::List.zipWith zQ X.fps (p.zD.map Rf.Fr.args)))++List.replicate n (zQ (.slice none 0 0) []):=by
  unfold zb
  simp only[zPJ,List.length_replicate]
  simp
 have hcase:∀k∈zAJ (zb { X with cv:=v,cps:=List.replicate n (.slice none 0 0) } { p with cells:=List.replicate n [] }),k∈zAJ (zb X p)∨w.heap.size≤k:=by
  intro k hk
  rw[hre',o4]at hk
  rw[hre]
  exact o2 k hk
 refine⟨⟨by rw[zO hbP];rfl,?_,h.fl,by simp,fun k hk=>?_,h.here⟩,?_⟩
 ·rw[←hre']at o3
  exact⟨fun r hm=>zAZ (o3.rows r hm) (fun g hg=>Below.heap_setCell w1 ⟨P,2,none⟩ _ g (by
   show g≠P
   rcases hcase g (zAf hm hg)with hk | hk
   ·exact h.apart hk
   ·omega)),o3.apart⟩
 ·rcases hcase k hk with hk | hk
  ·exact h.new k hk
  ·omega
 ·exact zt (hb.mono hB) h.here _ _
theorem PlO.newCel {w w1:World} {B P:Nat} {p:Rf.Pl} {X:PlX} (h:PlO w B P p X) (hB:B≤w.heap.size) (hb:Below w.heap.size w w1) {i g:Nat} (hi:i < p.cells.length) (hg:X.cv.ownBlock=some g) (hz:X.cps[i]?=some (.slice none 0 0)) (v:Value) (xs:List Int) (hn:w1.ownsRow w.heap.size 3 1 v xs.length (zz xs)) :
  PlO (w1.setCell ⟨g,i,none⟩ v) B P { p with cells:=p.cells.set i xs } { X with cps:=X.cps.set i v }∧Below B w (w1.setCell ⟨g,i,none⟩ v):=by
 have hi':i < X.cps.length:=by rw[h.cl];exact hi
 have hz':X.cps[i]=.slice none 0 0:=by rw[List.getElem?_eq_getElem hi']at hz;exact Option.some.inj hz
 obtain⟨Z,hZ⟩:∃Z,Z=List.zipWith zQ X.cps p.cells:=⟨_,rfl⟩
 have hzl:i < Z.length:=by rw[hZ,List.length_zipWith];omega
 have hzi:Z[i]=zQ (.slice none 0 0) p.cells[i]:=by subst hZ;rw[List.getElem_zipWith,hz']
 obtain⟨s1,s2⟩:=zPy Z hzl (zQ v xs)
 rw[hzi]at s1
 have hcm:g∈zAJ (zb X p):=zAf (r:=zCh X.cv X.cps p.cells.length) (by simp[zb]) hg
 have hgP:=h.apart hcm
 have hPlt:=zJ h.block
 have hgl:=h.own.lt g hcm
 obtain⟨F,hF⟩:∃F,F=List.zipWith zQ X.fps (p.zD.map Rf.Fr.args):=⟨_,rfl⟩
 have hre:zb X p=([zBI X.fv X.fps p.zD,zQ X.vv p.vars,zCh X.cv X.cps p.cells.length,zQ X.ov p.out]++(F++Z.take i))++zQ (.slice none 0 0) p.cells[i]::Z.drop (i+1):=by
  unfold zb
  rw[←hZ,←hF]
  conv=>lhs;rw[s1]
  simp
 have ho:=h.own
 rw[hre]at ho
 obtain⟨o1,o2⟩:=Own.swap (w':=w1) ho (r':=zQ v xs) (fun k hk _=>hb.block k hk) (zCr hn) (fun g hg=>Or.inr (hn.lt g hg).1)
 have hre1:([zBI X.fv X.fps p.zD,zQ X.vv p.vars,zCh X.cv X.cps p.cells.length,zQ X.ov p.out]++(F++Z.take i))++zQ v xs::Z.drop (i+1)=[zBI X.fv X.fps p.zD,zQ X.vv p.vars]++zCh X.cv X.cps p.cells.length::(zQ X.ov p.out::(F++Z.set i (zQ v xs))):=by
  rw[s2]
  simp
 rw[hre1]at o1 o2
 have hrow:w1.ownsRow 0 24 1 X.cv p.cells.length X.cps:=zZ h.zFL hb
 obtain⟨ad,cap,hcv⟩:=zE hrow
 have hv:X.cv=.slice (some ⟨g,0,none⟩) p.cells.length cap:=by
  rcases hrow.2 with⟨h',_⟩| ⟨g',cap',cur,h',_⟩
  ·rw[h']at hg;cases hg
  ·rw[h']at hg hcv
   simp[Value.ownBlock]at hg
   injection hcv with _ _ hcv
   rw[h',hg,hcv]
 have hst:=hrow
 rw[hv]at hst
 have hst:=(hst.stored i v).1
 rw[←hv]at hst
 have hother:∀k,k≠g→(w1.setCell ⟨g,i,none⟩ v).heap[k]?=w1.heap[k]?:=fun k hk=>Below.heap_setCell w1 ⟨g,i,none⟩ _ k hk
 obtain⟨o3,o4⟩:=Own.swap (w':=w1.setCell ⟨g,i,none⟩ v) o1 (r':=zCh X.cv (X.cps.set i v) p.cells.length) (fun k _ hk=>hother k (fun e=>hk (by rw[e];exact hg))) hst (fun g' hg'=>Or.inl hg')
 have hre':zb { X with cps:=X.cps.set i v } { p with cells:=p.cells.set i xs }=[zBI X.fv X.fps p.zD,zQ X.vv p.vars]++zCh X.cv (X.cps.set i v) p.cells.length::(zQ X.ov p.out::(F++Z.set i (zQ v xs))):=by
  unfold zb
  simp only[zPI,List.length_set,←hZ,←hF]
  simp
 rw[←hre']at o3 o4
 have hcase:∀k∈zAJ (zb { X with cps:=X.cps.set i v } { p with cells:=p.cells.set i xs }),k∈zAJ (zb X p)∨w.heap.size≤k:=by
  intro k hk
  rcases o4 k hk with hk | hk
  ·rw[hre]
   exact o2 k hk
  ·have:=hb.size
   exact Or.inr (by omega)
 refine⟨⟨by rw[hother P (Ne.symm hgP)];exact zK h.block hb,o3,h.fl,by simp[h.cl],fun k hk=>?_,h.here⟩,zt (hb.mono hB) (h.new g hcm) _ _⟩
 rcases hcase k hk with hk | hk
 ·exact h.new k hk
 ·omega
theorem PlQ.zBp {w:World} {B:Nat} {p:Rf.Pl} {X:PlX} (h:PlQ w B p X):∃xa xc ya yc za zc oa oc,X.fv=.slice xa p.zD.length xc∧X.vv=.slice ya p.vars.length yc∧X.cv=.slice za p.cells.length zc∧X.ov=.slice oa p.out.length oc:=by
 obtain⟨xa,xc,hxf⟩:=zE (h.own.rows (zBI X.fv X.fps p.zD) (by simp[zb]))
 obtain⟨ya,yc,hyf⟩:=zE (h.own.rows (zQ X.vv p.vars) (by simp[zb]))
 obtain⟨za,zc,hzf⟩:=zE (h.own.rows (zCh X.cv X.cps p.cells.length) (by simp[zb]))
 obtain⟨oa,oc,hof⟩:=zE (h.own.rows (zQ X.ov p.out) (by simp[zb]))
 exact⟨xa,xc,ya,yc,za,zc,oa,oc,hxf,hyf,hzf,hof⟩
theorem PlQ.zH {w w':World} {B:Nat} {p:Rf.Pl} {X:PlX} (h:PlQ w B p X) (hb:Below w.heap.size w w'):PlQ w' B p X:=⟨h.own.zH hb,h.fl,h.cl,h.new⟩
namespace Rf
open Rt
theorem zIG (pls:List PL):∀(r:List PL) (n:Nat),nameErr pls (n+1) r=0→∀(i:Nat) (p:PL),r[i]?=some p→zAk pls (n+1+i) p=true
 | [],_,_,i,p,h=>by simp at h
 | q::r,n,h,i,p,hp=>by
  rw[nameErr]at h
  split at h
  ·next hq=>
   cases i with
   | zero=>simp at hp;subst hp;exact hq
   | succ i=>
    have:=zIG pls r (n+1) h i p (by simpa using hp)
    rw[show n+1+(i+1)=n+1+1+i by omega]
    exact this
  ·omega
theorem zGW (x:ByteArray):∀(r:List PL) (n:Nat),0 < n→Rt.declFrom n r x≠0→∃i p,r[i]?=some p∧isDecl p x=true∧Rt.declFrom n r x=n+i
 | [],_,_,h=>absurd rfl h
 | q::r,n,hn,h=>by
  rw[Rt.declFrom]at h ⊢
  split
  ·next hq=>exact⟨0,q,rfl,hq,rfl⟩
  ·next hq=>
   rw[if_neg hq]at h
   obtain⟨i,p,h1,h2,h3⟩:=zGW x r (n+1) (by omega) h
   exact⟨i+1,p,by simpa using h1,h2,by omega⟩
theorem ctx_of {s:ByteArray} {pls:List PL} (inp:List Int) (h:zAY s=(0,0,pls)) (hlaw:Lawful (zBx s).2.2):Ctx ((rForms 0 (lines s) [zPL]).2.drop 1) pls (zBx s).2.2 (zA1 s pls inp):=by
 obtain⟨h1,h2,h3,h4,h5⟩:=zH9 h
 have hn:=nst_of h3
 have hb:zCS pls (zBx s).2.2:=by
  have:=(zME s).2.2 (by rw[h])
  rw[h]at this
  exact this
 refine⟨hn,hb,rfl,rfl,hlaw,fun n hl=>?_,h5,?_⟩
 ·have hl':n+1 < pls.length:=by rw[hn.len];omega
  have:=zIG pls (pls.drop 1) 0 h4 n pls[n+1] (by rw[List.getElem?_drop,Nat.add_comm,List.getElem?_eq_getElem hl'])
  rw[zB7,if_neg (by omega),show ((n:Int)+1).toNat=n+1 by omega,List.getElem?_eq_getElem hl']
  rw[show 0+1+n=n+1 by omega]at this
  exact this
 ·have hd:zAE pls zy≠0:=fun e=>by
   rw[zX,e,hb.form0]at h5
   exact absurd h5 (by decide)
  obtain⟨i,p,p1,p2,p3⟩:=zGW zy (pls.drop 1) 1 (by omega) hd
  have hf:zX pls zy=p.form:=by
   rw[zX,show zAE pls zy=1+i from p3,zT,if_neg (by omega),Int.toNat_natCast]
   rw[List.getElem?_drop]at p1
   rw[p1]
   rfl
  have:=zIG pls (pls.drop 1) 0 h4 i p p1
  rw[hf]at h5 ⊢
  unfold zAk at this
  rw[if_neg (by omega),if_pos h5,Bool.and_eq_true]at this
  have hp:=this.2
  unfold zDz at hp
  rw[Bool.and_eq_true]at hp
  have hnm:p.form.name=zy:=by
   unfold isDecl at p2
   simp at p2
   exact p2.2
  have hq:=hp.1
  rw[hnm,show (zy.toList==zD4)=true by rw[show zy=⟨[109,97,105,110].toArray⟩from rfl,zBB];decide]at hq
  simp at hq
  exact hq
def zKh (pls:List PL) (k:Nat):Nat:=if (zT pls ((k:Int)+1)).kind=2 then (zT pls ((k:Int)+1)).cells.toNat else 0
def zBM (ls:List (List ByteArray)) (D:Nat) (cn:Nat→Nat):Pl:=⟨[⟨D+1,[],0⟩],List.replicate (ls.length+1) 0,[]::(List.range ls.length).map (fun k=>List.replicate (cn k) 0),0,[],(zAp ls (D+1):Nat),0⟩
section
variable {ps pls : List PL} {ls : List (List ByteArray)} {S : Rt.Src}
theorem Ctx.mainAt (C:Ctx ps pls ls S):∃D:Nat,decl ls zCy=D+1∧D < ls.length∧kd ps D=3∧stp ps (D+1)=[(D+1,3)]∧zAE S.pls zy=D+1:=by
 have hm:decl ls zCy≠0:=fun e=>by
  have h5:=C.main
  rw[zX,C.both.zDZ,show decl ls zy=0 from e,C.both.form0]at h5
  exact absurd h5 (by decide)
 have hb:=zEG ls zCy
 obtain⟨D,hD⟩:∃D,decl ls zCy=D+1:=⟨decl ls zCy-1,by omega⟩
 have hl:=C.len
 have hDl:D < ps.length:=by omega
 have hk:kd ps D=3:=by
  have h5:=C.main
  rw[zX,C.both.zDZ,show decl ls zy=D+1 from hD,show ((D+1:Nat):Int)=(D:Int)+1 from rfl,zDd C.nst hDl,←zEN]at h5
  exact h5
 refine⟨D,hD,by omega,hk,?_,?_⟩
 ·rw[opened (Or.inl hk),zJM C.nst hDl (by omega),hk];rfl
 ·rw[C.zGl,zDQ,C.both.zDZ];exact hD
theorem zO5 (C:Ctx ps pls ls S):zGQ ps pls ls S (firstM S)∧∃D,decl ls zCy=D+1∧D < ls.length∧zP pls (firstM S)=zBM ls D (zKh pls):=by
 obtain⟨D,d1,d2,d3,d4,d5⟩:=C.mainAt
 have h100:=C.law.len
 obtain⟨j,j1,j2,j3,j4,j5⟩:=C.stop (k:=D+1) (by omega) (by rw[d4];simp)
 have hl:(firstM S).line=(zAp ls (D+1):Nat):=by
  show goOn S.pls S.lk 102 (wrap64 ((zAE S.pls zy:Nat)+1))=_
  rw[d5,←C.go (by omega:D+1≤ls.length)]
  congr 1
  exact IntWalk.wrap64_in _ (by omega)
 have hjl:(firstM S).line=(j:Int)+1:=by rw[hl,j1];omega
 have hpr:zBJ pls (firstM S).line=D+1:=by rw[hjl,C.zBJ j2 j4,j5,d4];rfl
 obtain⟨p1,p2⟩:=C.params d2 d3
 have hnp:(zT pls ((D:Int)+1)).params=[]:=by
  have:=C.nopar
  rw[zX,C.both.zDZ,show decl ls zy=D+1 from d1]at this
  exact this
 rw[hnp]at p2
 have hvl:(firstM S).values=pls.map (fun p=>zA9 p.form):=by
  show S.pls.map _=_
  rw[C.zGl,List.map_map]
  rfl
 have hpl:=C.both.len
 refine⟨⟨⟨j,j2,hjl,j3,j4⟩,by simp[firstM],by simp[firstM],?_,?_,?_,?_⟩,D,d1,d2,?_⟩
 ·intro f hf
  have:f=⟨D+1,[],0⟩:=by
   have:frsOf pls (firstM S).zD (firstM S).line=[⟨zBJ pls (firstM S).line,[],0⟩]:=rfl
   rw[this,hpr]at hf
   simpa using hf
  rw[this]
  exact⟨by simp,by show D+1≤_;omega,by rw[Nat.add_sub_cancel];exact p1,by rw[Nat.add_sub_cancel];exact p2⟩
 ·intro f hf
  simp[firstM]at hf
 ·rw[hvl,List.map_map];rfl
 ·simp[firstM]
 ·unfold zP zBM
  have hz:∀l:Nat,l < pls.length→((firstM S).values[l]?).getD []=zA9 (zT pls (l:Nat)):=fun l h=>by
   rw[hvl,List.getElem?_map,List.getElem?_eq_getElem h,zT,if_neg (by omega),Int.toNat_natCast,List.getElem?_eq_getElem h]
   rfl
  simp only[Pl.mk.injEq]
  refine⟨?_,?_,?_,rfl,rfl,hl,rfl⟩
  ·show [_]=[_]
   rw[hpr]
   rfl
  ·unfold varsOf
   apply List.ext_getElem
   ·simp[hpl]
   ·intro i h1 h2
    simp only[List.getElem_map,List.getElem_range,List.getElem_replicate]
    split
    ·next hk=>
     rw[hz i (by simpa using h1)]
     unfold zA9
     rw[if_pos hk]
     rfl
    ·rfl
  ·unfold zEa
   rw[hpl,List.range_succ_eq_map,List.map_cons,List.map_map]
   congr 1
   ·rw[C.both.form0];rfl
   ·refine List.map_congr_left (fun k hk=>?_)
    have hk':k < ls.length:=by simpa using hk
    show (if (zT pls ((k+1:Nat):Int)).kind=2 then _ else _)=_
    rw[show ((k+1:Nat):Int)=(k:Int)+1 from rfl]
    unfold zKh
    split
    ·next hk2=>
     have:=hz (k+1) (by omega)
     rw[show ((k+1:Nat):Int)=(k:Int)+1 from rfl]at this
     show ((firstM S).values[k+1]?).getD []=_
     rw[this]
     unfold zA9
     rw[if_neg (by omega)]
    ·rfl
theorem zN0 (C:Ctx ps pls ls S) {k:Nat} (hk:k < ls.length):(((first ls[k]).toList==[97,114,114,97,121])=true→∃h:2 < ls[k].length,worth ls[k][2]=(zKh pls k:Nat)∧zKh pls k≤1000)∧(((first ls[k]).toList==[97,114,114,97,121])=false→zKh pls k=0):=by
 have hf:=C.both.form hk
 obtain⟨_,_,hh,_⟩:=zCt hf
 rw[show ((k+1:Nat):Int)=(k:Int)+1 from rfl]at hf hh
 unfold zKh
 generalize ls[k]=t at *
 generalize zT pls ((k:Int)+1)=fm at *
 rw[hh]
 cases hf with
 | array x n hx hn h1 h2=>exact⟨fun _=>⟨by simp,by simp;omega,by simp;omega⟩,fun h=>by simp[idx]at h⟩
 | _=>exact⟨fun h=>by simp[idx]at h,fun _=>rfl⟩
end
end Rf
end Go.Proofs.YthleadfkfnnadaaGreat
