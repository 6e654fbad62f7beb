/- What an expression is worth: the document's answer at a machine's place is what the machine's work comes to. -/
import Derived.Test.YthleadfkfnnadaaGreatRgN
import Derived.Test.YthleadfkfnnadaaGreatLawC
import Derived.Test.YthleadfkfnnadaaGreatCaA
import Derived.Test.YthleadfkfnnadaaGreatFwA
set_option maxHeartbeats 4000000
set_option maxRecDepth 100000
set_option linter.unusedSimpArgs false
namespace Go.Proofs.YthleadfkfnnadaaGreat
open Go.RowKit
attribute [local go_sem ↓] Go.wp_at_zero Go.wp_at_succ
variable {o x:ByteArray} {a r:Int×Int} {ls:List (List ByteArray)} {t:List ByteArray} {k:Nat} {p:Rf.Pl} {w:World}
theorem GG {B N:Nat} {w1:World} (h:Below B w w1) (i:B<=N) (a b c d e f g:Value):Below B w (W7 w1 N a b c d e f g):=yx (yx (yx (yx (yx (yx (yx h i _ _) i _ _) i _ _) i _ _) i _ _) i _ _) i _ _
section
variable {C : Nat} {zL : List Rt.PL} {ls : List (List ByteArray)} {S : Rt.Src} {cap : Int} {len n low : Nat} {mk : List Bool} {Y : iQ}
theorem AD (h:vg w C zL ls S cap len n low mk Y) (hn:n<=len) :
  Calls Tryz.prog 41 #[.pointer (some ⟨C,0,none⟩)] w fun e w'=>Below w.heap.size w w'/\∃X,Y.xs[n]?=some X/\Xd w 0 (ZN zL S n) X/\e=.returned (.agg (jh X.fv X.vv X.cv X.ov (ZN zL S n))):=by
 obtain⟨g,c,X,V,j,R,i⟩:=h.cells hn
 obtain⟨c0,c1,c2,T,c4,c5,c6,c7⟩:=xH h.block
 rw[j]at T
 have O:=i 0 (by omega)
 have N:=i 1 (by omega)
 have M:=i 2 (by omega)
 have L:=i 3 (by omega)
 have J:=i 4 (by omega)
 have I:=i 5 (by omega)
 have H:=i 6 (by omega)
 obtain⟨D,A,z,y,x,o,G,F,f1,f2,Z,W⟩:=R.ZX
 have k:jh X.fv X.vv X.cv X.ov (ZN zL S n)=#[.slice D (ZN zL S n).zH.length A,.slice z (ZN zL S n).vars.length y,.slice x (ZN zL S n).cells.length o,.int .i64 (ZN zL S n).read,.slice G (ZN zL S n).out.length F,.int .i64 (ZN zL S n).line,.int .i64 (ZN zL S n).fin]:=by rw[f1,f2,Z,W];rfl
 have HX:=XX V R k
 have a1:(0:Int)<=(n:Int):=by omega
 have a0:(n:Int) < (len:Int)+1:=by omega
 simp only[k,yQ,zv,yH,qO]at O N M L J I H
 have a3:=zQ h.block
 have a2:g < w.heap.size:=(h.tr.lt g (by rw[j];rfl)).2
 have m1:¬C=w.heap.size:=by omega
 have m2:¬w.heap.size=C:=by omega
 have m3:¬g=w.heap.size:=by omega
 have m4:¬w.heap.size=g:=by omega
 have f:=zN w (.cells #[.slice none 0 0,.slice none 0 0,.slice none 0 0,.int .i64 0,.slice none 0 0,.int .i64 0,.int .i64 0] 72)
 have d:=(zI w.heap.size w).alloc (zB _) (.cells #[.slice none 0 0,.slice none 0 0,.slice none 0 0,.int .i64 0,.slice none 0 0,.int .i64 0,.int .i64 0] 72)
 clear h i V R j k f1 f2 Z W
 generalize ZN zL S n=p at *
 go_enter Tryz.func41,Tryz.ntmps41
 go_wp2_with fail
 have z2:=zS f
 obtain⟨r0,r1,r2,r3,r4,r5,r6⟩:=seven f
 have e3:=cell_later d T
 have e5:=cell_later d c5
 have u0:=cell_later d O
 have u1:=cell_later d N
 have u2:=cell_later d M
 have u3:=cell_later d L
 have u4:=cell_later d J
 have u5:=cell_later d I
 have u6:=cell_later d H
 have HW:=qG d f
 clear c0 c1 c2 T c4 c5 c6 c7 O N M L J I H d f
 generalize w.alloc (.cells #[.slice none 0 0,.slice none 0 0,.slice none 0 0,.int .i64 0,.slice none 0 0,.int .i64 0,.int .i64 0] 72)=wz at *
 go_region_held3 (fun w'=>w'.cell? ⟨C,3,none⟩=some (.slice (some ⟨g,0,none⟩) (len+1) c)/\w'.cell? ⟨C,5,none⟩=some (.int .i64 n)/\w'.cell? ⟨g,n*7,none⟩=some (.slice D p.zH.length A)/\w'.cell? ⟨g,n*7+1,none⟩=some (.slice z p.vars.length y)/\w'.cell? ⟨g,n*7+2,none⟩=some (.slice x p.cells.length o)/\w'.cell? ⟨g,n*7+3,none⟩=some (.int .i64 p.read)/\w'.cell? ⟨g,n*7+4,none⟩=some (.slice G p.out.length F)/\w'.cell? ⟨g,n*7+5,none⟩=some (.int .i64 p.line)/\w'.cell? ⟨g,n*7+6,none⟩=some (.int .i64 p.fin)) (go_keep) (fail)
 go_wp2_with fail
 refine zT (v:=.agg #[.slice D p.zH.length A,.slice z p.vars.length y,.slice x p.cells.length o,.int .i64 p.read,.slice G p.out.length F,.int .i64 p.line,.int .i64 p.fin]) ?_ rfl ?_
 ·simp[results,Tryz.results41,go_sem,r0,r1,r2,r3,r4,r5,r6]
 ·obtain⟨h1,h2,h3⟩:=HX.u
  have U:=GG HW.u.1 (zB _) (.slice D p.zH.length A) (.slice z p.vars.length y) (.slice x p.cells.length o) (.int .i64 p.read) (.slice G p.out.length F) (.int .i64 p.line) (.int .i64 p.fin)
  exact⟨U.trans ((zh _).mono U.size),X,h1,h2,by rw[h3]⟩
theorem uR (S:Rt.Src) (d:Nat):∀k j,(Rt.xT S d k).length<=(Rt.xT S d (k+j)).length
 | _,0=>zB _
 | k,j+1=>by
  rw[show k+(j+1)=(k+j)+1 from rfl,Rt.xT,ze]
  have:=uR S d k j
  omega
theorem lu (h:vg w C zL ls S cap len n low mk Y) (hn:n<=len) (J:low<=n) (hl:len < 4611686018427387904) (hr:(Rt.xT S low (n-low)).length<=1000000) :
  Calls Tryz.prog 104 #[.pointer (some ⟨C,0,none⟩)] w fun e w'=>e=.returned (.int .i64 ((Rt.xT S low (n-low)).length:Nat))/\Below w.heap.size w w':=by
 have HH:=zD h
 obtain⟨Z,W,V,U,H,T,c6,R⟩:=xH h.block
 obtain⟨I,G,x⟩:=zK h.oH
 rw[x]at H
 clear h Z W V U R
 go_enter Tryz.func104,Tryz.ntmps104
 go_wp2_with fail
 go_loopw [3,4] (fun a i wr=>∃k:Nat,low+k<=n/\i=.int .i64 ((low+k:Nat):Int)/\a=.int .i64 ((Rt.xT S low k).length:Nat)/\Below w.heap.size w wr) (fun _ i _=>n+1-(intOf i).toNat)
 case atStart=>exact⟨0,by omega,rfl,rfl,zI _ _⟩
 case round=>
  obtain⟨k,hk,rfl,rfl,d⟩:=hrel
  have d4:=cell_later d H
  have d5:=cell_later d T
  have HB:=zD d
  by_cases hlt:low+k < n
  ·have y:((low+k:Nat):Int) < (n:Int):=by omega
   have M:(0:Int)<=((low+k:Nat):Int):=by omega
   have L:((low+k:Nat):Int) < (len:Int):=by omega
   obtain⟨g,cc,e,_,_,r⟩:=yD (yG HH.u.oH d) (j:=low+k) (u:=.int .i64 ((Rt.ku S (low+k)).length:Nat)) (by
    rw[xR,sC,yt,yt,Xi (by omega)];rfl)
   rw[x]at e
   injection e with e1 _ e3
   subst e1 e3
   have o:(Rt.xT S low k).length+(Rt.ku S (low+k)).length=(Rt.xT S low (k+1)).length:=by rw[Rt.xT,ze]
   have z:=uR S low (k+1) (n-low-(k+1))
   rw[show k+1+(n-low-(k+1))=n-low by omega]at z
   have f:wrap64 (((Rt.xT S low k).length:Int)+((Rt.ku S (low+k)).length:Int))=((Rt.xT S low (k+1)).length:Nat):=by
    rw[show ((Rt.xT S low k).length:Int)+((Rt.ku S (low+k)).length:Int)=((Rt.xT S low (k+1)).length:Nat) by omega]
    exact yC _ ⟨by omega,by omega⟩
   have HS:=zD f
   clear o z f d
   generalize O:(Rt.xT S low k).length=A at *
   generalize N:(Rt.ku S (low+k)).length=D at *
   clear O N
   go_wp2_with fail
   go_roundw
   case rel=>exact⟨k+1,by omega,by go_num,by rw[HS.u],HB.u⟩
   case measure=>simp[intOf];omega
  ·have y:¬((low+k:Nat):Int) < (n:Int):=by omega
   have F:k=n-low:=by omega
   subst F
   go_wp2_with fail
   go_ret
   exact⟨rfl,HB.u⟩
theorem BJ (h:vg w C zL ls S cap len n low mk Y) (k:n<=len) (f:low<=n) (o:len < 4611686018427387904) (j:(Rt.xT S low (n-low)).length<=1000000) :
  Calls Tryz.prog 62 #[.pointer (some ⟨C,0,none⟩)] w fun e w'=>e=.returned (.tuple #[.int .i64 (low:Int),.int .i64 ((Rt.xT S low (n-low)).length:Nat)])/\Below w.heap.size w w':=by
 have H:=zD (lu h k f o j)
 obtain⟨G,F,D,A,z,y,i,x⟩:=xH h.block
 clear h G F D A z y x
 generalize (Rt.xT S low (n-low)).length=R at *
 go_enter Tryz.func62,Tryz.ntmps62
 go_wp2_with fail
 refine H.u.mono ?_
 rintro e w1 ⟨rfl,d⟩
 have J:=cell_later d i
 have I:=zD d
 clear d i
 go_wp2_with fail
 refine zT (v:=.tuple #[.int .i64 (low:Int),.int .i64 (R:Int)]) ?_ rfl ⟨rfl,I.u⟩
 simp[results,Tryz.results62,go_sem]
theorem mM (h:vg w C zL ls S cap len n low mk Y) (l:Int) (y:l < 1\/(ls.length:Int) < l) :
  Calls Tryz.prog 64 #[.pointer (some ⟨C,0,none⟩),.int .i64 l] w fun e w'=>e=.returned (.tuple #[.bool false,.int .i64 8])/\Below w.heap.size w w':=by
 obtain⟨D,x,o,k,j,i,f,d⟩:=xH h.block
 have A:=h.src.top
 clear h x o k j i f d
 by_cases h1:l < 1
 ·go_enter Tryz.func64,Tryz.ntmps64
  go_wp2_with fail
  refine zT (v:=.tuple #[.bool false,.int .i64 8]) ?_ rfl ⟨rfl,zI _ _⟩
  simp[results,Tryz.results64,go_sem]
 ·have z:(ls.length:Int) < l:=by omega
  go_enter Tryz.func64,Tryz.ntmps64
  go_wp2_with fail
  refine zT (v:=.tuple #[.bool false,.int .i64 8]) ?_ rfl ⟨rfl,zI _ _⟩
  simp[results,Tryz.results64,go_sem]
theorem th (h:vg w C zL ls S cap len n low mk Y) (o:ls.length<=100) (d:Rf.nested ls=0) (l:Nat) (k:l < ls.length) (j:Rf.xx ls l ls[l]=false) :
  Calls Tryz.prog 64 #[.pointer (some ⟨C,0,none⟩),.int .i64 ((l:Int)+1)] w fun e w'=>e=.returned (.tuple #[.bool false,.int .i64 8])/\Below w.heap.size w w':=by
 obtain⟨M,G,F,D,A,z,y,x⟩:=xH h.block
 have L:=h.src.top
 have i:=zD (fG l h.src k o d)
 rw[j]at i
 have J:¬(l:Int)+1 < 1:=by omega
 have I:¬(ls.length:Int) < (l:Int)+1:=by omega
 clear h G F D A z y x
 go_enter Tryz.func64,Tryz.ntmps64
 go_wp2_with fail
 refine i.u.mono ?_
 rintro e w1 ⟨rfl,f⟩
 have H:=zD f
 clear f
 go_wp2_with fail
 refine zT (v:=.tuple #[.bool false,.int .i64 8]) ?_ rfl ⟨rfl,H.u⟩
 simp[results,Tryz.results64,go_sem]
structure Ds (C:Nat) (zL:List Rt.PL) (ls:List (List ByteArray)) (S:Rt.Src) (cap:Int) (len n low:Nat) (mk:List Bool) (Y Y':iQ) (w w':World):Prop where
 cur:vg w' C zL ls S cap len n low mk Y'
 vz:VM w w' (Ev C Y)
 own:∀k∈Dt zL S C Y',k∈Dt zL S C Y\/w.heap.size<=k
theorem vg.marked (h:vg w C zL ls S cap len n low mk Y) {g c:Nat} (D:Y.mv=.slice (some ⟨g,0,none⟩) mk.length c) (l:Nat) (b:Bool):Ds C zL ls S cap len n low (mk.set l b) Y Y w (w.setCell ⟨g,l,none⟩ (.bool b)):=by
 have A:Y.mv.ownBlock=some g:=by rw[D];rfl
 have o:=h.Yw
 rw[D]at o
 obtain⟨F,d⟩:=yW o rfl
 have o:=(o.stored l (.bool b)).1
 have y:qm w g 4:=⟨F,d⟩
 have f:∀k,k≠g->(w.setCell ⟨g,l,none⟩ (.bool b)).heap[k]?=w.heap[k]?:=fun k hk=>zO w ⟨g,l,none⟩ _ k hk
 have x:∀{t:TypeId} {z m:Nat} {v:Value} {xs:List Value},w.ownsRow 0 t z v m xs->t≠4->∀q,v.ownBlock=some q->q≠g:=fun hr ht q hq e=>by
  obtain⟨G,j⟩:=yW hr hq
  rw[e,d]at j
  injection j with j
  injection j with _ j
  exact ht j.symm
 refine⟨⟨(f C (fun e=>?_)).trans h.block,h.src.stay (fun k t ht hk=>f k (fun e=>hk.ne y (by rcases ht with rfl | rfl | rfl <;> decide) e)),yP h.qo (fun q hq=>f q (x h.qo (by decide) q hq)),yP h.tr (fun q hq=>f q (x h.tr (by decide) q hq)),h.xl,fun i hi=>?_,yP h.oH (fun q hq=>f q (x h.oH (by decide) q hq)),?_,h.iP⟩,⟨rfl,rfl,rfl,by simp[World.setCell],fun k _ hn=>f k (fun e=>hn ?_)⟩,fun k hk=>Or.inl hk⟩
 ·rw[<-e,h.block]at d
  injection d with d
  injection d with _ d
  exact absurd d (by decide)
 ·have hq:=h.GV i hi
  refine⟨⟨fun r hr=>yP (hq.own.rows r hr) (fun q hq2=>f q (x (hq.own.rows r hr) (by rcases Yr hr with e | e | e <;> rw[e] <;> decide) q hq2)),hq.own.apart⟩,hq.fl,hq.cl,hq.new⟩
 ·rw[jD,bk,D]
  exact o
 ·rw[e]
  exact zm _ (zb _ (YY A))
theorem tg (h:vg w C zL ls S cap len n low mk Y) (N:ls.length<=100) (d:Rf.nested ls=0) (l:Nat) (L:l < ls.length) (D:Rf.xx ls l ls[l]=true) (J:mk.length=ls.length+1) (b:Bool) (F:mk[l+1]?=some b) :
  Calls Tryz.prog 64 #[.pointer (some ⟨C,0,none⟩),.int .i64 ((l:Int)+1)] w fun e w'=>e=.returned (.tuple #[.bool (!b),.int .i64 0])/\Ds C zL ls S cap len n low (mk.set (l+1) (!b)) Y Y w w':=by
 have HH:=zD h
 obtain⟨H,W,V,U,T,R,O,z⟩:=xH h.block
 have cS:=h.src.top
 have I:=zD (fG l h.src L N d)
 rw[D]at I
 obtain⟨g,c,i,_,_,G⟩:=yD h.Yw (j:=l+1) (u:=.bool b) (by rw[yt,F];rfl)
 rw[i]at z
 have y:¬(l:Int)+1 < 1:=by omega
 have x:¬(ls.length:Int) < (l:Int)+1:=by omega
 have h3:(l:Int)+1 < (mk.length:Int):=by omega
 have h4:(0:Int)<=(l:Int)+1:=by omega
 obtain⟨bc,f⟩:=yW h.Yw (g:=g) (by rw[i];rfl)
 have Z:=zD (show ∀w1,Below w.heap.size w w1->_ from fun w1 hb1=>(h.zP hb1).marked i (l+1) (!b))
 have o:=(qm.intro h.block).ne (qm.intro f) (by decide)
 have M:=xK o
 have A:=zD f
 clear h W V U T R O f J i D F
 generalize mk.length=ml at *
 go_enter Tryz.func64,Tryz.ntmps64
 go_wp2_with fail
 refine I.u.mono ?_
 rintro e w1 ⟨rfl,hb1⟩
 have HA:=zD (Z.u w1 hb1)
 have d0:=cell_later hb1 H
 have d7:=cell_later hb1 z
 have dM:=cell_later hb1 G
 have zM:=zS (zU A.u hb1) (l+1)
 have HB:=zD hb1
 clear hb1 H z G
 go_wp2_with fail
 go_region
 go_wp2_with fail
 refine zT (v:=.tuple #[.bool (!b),.int .i64 0]) ?_ rfl ⟨rfl,?_⟩
 ·simp[results,Tryz.results64,go_sem]
 ·have y:=HA.u
  have x:=zh (w1.setCell ⟨g,l+1,none⟩ (.bool (!b)))
  exact⟨y.cur.zP x,((VM.jQ _ HB.u).trans y.vz (vd.refl _ _)).trans (VM.jQ _ x) (vd.refl _ _),fun k hk=>Or.inl hk⟩
end
end Go.Proofs.YthleadfkfnnadaaGreat
namespace Go.Proofs.YthleadfkfnnadaaGreat
open Go.RowKit
variable {o x:ByteArray} {a r:Int×Int} {ls:List (List ByteArray)} {t:List ByteArray} {k:Nat} {p:Rf.Pl} {w:World}
namespace Rf
open Rt
section
variable (S : Rt.Src) (m : Mc)
def Whole (e:List qM):Prop:=∀(st:List Int) (r:List qM),evalI S m (e++r) st=if (zr S m e).2=0 then evalI S m r (st++[(zr S m e).1])else (0,(zr S m e).2)
theorem au (o:qM) (v:Int) (h:∀st,workI S m st o=(st++[v],0)):zr S m [o]=(v,0)/\Whole S m [o]:=by
 have e:zr S m [o]=(v,0):=by
  unfold zr
  rw[evalI,h,zE rfl,evalI]
  rfl
 refine⟨e,fun st r=>?_⟩
 rw[e,zE rfl]
 show evalI S m (o::r) st=_
 rw[evalI,h,zE rfl]
theorem eval_un {e:List qM} (j:Whole S m e) (o:qM) (g:Int->Int×Int) (h:∀st v,workI S m (st++[v]) o=if (g v).2=0 then (st++[(g v).1],0)else (st,(g v).2)) (i:∀v,(g v).2≠0->(g v).1=0) :
  zr S m (e++[o])=(if (zr S m e).2=0 then g (zr S m e).1 else (0,(zr S m e).2))/\Whole S m (e++[o]):=by
 have d:∀st r,evalI S m (e++(o::r)) st=if (zr S m e).2=0 then (if (g (zr S m e).1).2=0 then evalI S m r (st++[(g (zr S m e).1).1])else (0,(g (zr S m e).1).2))else (0,(zr S m e).2):=by
  intro st r
  rw[j st (o::r)]
  by_cases h0:(zr S m e).2=0
  ·rw[zE h0,zE h0,evalI,h]
   by_cases h1:(g (zr S m e).1).2=0
   ·rw[zE h1,zE h1,zE rfl]
   ·rw[zA h1,zA h1,zA h1]
  ·rw[zA h0,zA h0]
 have f:zr S m (e++[o])=(if (zr S m e).2=0 then g (zr S m e).1 else (0,(zr S m e).2)):=by
  show evalI S m (e++(o::[])) []=_
  rw[d]
  by_cases h0:(zr S m e).2=0
  ·rw[zE h0,zE h0]
   by_cases h1:(g (zr S m e).1).2=0
   ·rw[zE h1,evalI]
    exact Z6 rfl h1.symm
   ·rw[zA h1]
    exact Z6 (i _ h1).symm rfl
  ·rw[zA h0,zA h0]
 refine⟨f,fun st r=>?_⟩
 rw[yK,f]
 show evalI S m (e++(o::r)) st=_
 rw[d]
 by_cases h0:(zr S m e).2=0
 ·rw[zE h0,zE h0]
 ·rw[zA h0,zA h0,zA h0]
theorem eval_bin {e f:List qM} (z:Whole S m e) (y:Whole S m f) (o:qM) (i:¬(o.code=1\/o.code=2\/o.code=3\/o.code=4)) :
  zr S m (e++f++[o])=(if ¬(zr S m e).2=0 then (0,(zr S m e).2)else if ¬(zr S m f).2=0 then (0,(zr S m f).2)else xF o.code (zr S m e).1 (zr S m f).1)/\Whole S m (e++f++[o]):=by
 have x:∀st a b,workI S m (st++[a]++[b]) o=if (xF o.code a b).2=0 then (st++[(xF o.code a b).1],0)else (st,(xF o.code a b).2):=by
  intro st a b
  unfold workI
  rw[zA (fun q=>i (Or.inl q)),zA (fun q=>i (Or.inr (Or.inl q))),zA (fun q=>i (Or.inr (Or.inr (Or.inl q)))),zA (fun q=>i (Or.inr (Or.inr (Or.inr q))))]
  simp only[XV,xo]
 have k:∀a b,(xF o.code a b).2≠0->(xF o.code a b).1=0:=by
  intro a b
  unfold xF
  repeat' split
  all_goals intro h;first | rfl | exact absurd rfl h
 have d:∀st r,evalI S m (e++(f++(o::r))) st=if (zr S m e).2=0 then (if (zr S m f).2=0 then (if (xF o.code (zr S m e).1 (zr S m f).1).2=0 then evalI S m r (st++[(xF o.code (zr S m e).1 (zr S m f).1).1])else (0,(xF o.code (zr S m e).1 (zr S m f).1).2))else (0,(zr S m f).2))else (0,(zr S m e).2):=by
  intro st r
  rw[z st]
  by_cases h0:(zr S m e).2=0
  ·rw[zE h0,zE h0,y]
   by_cases h1:(zr S m f).2=0
   ·rw[zE h1,zE h1,evalI,x]
    by_cases h2:(xF o.code (zr S m e).1 (zr S m f).1).2=0
    ·rw[zE h2,zE h2,zE rfl]
    ·rw[zA h2,zA h2,zA h2]
   ·rw[zA h1,zA h1]
  ·rw[zA h0,zA h0]
 have j:zr S m (e++f++[o])=(if ¬(zr S m e).2=0 then (0,(zr S m e).2)else if ¬(zr S m f).2=0 then (0,(zr S m f).2)else xF o.code (zr S m e).1 (zr S m f).1):=by
  rw[yK]
  show evalI S m (e++(f++(o::[]))) []=_
  rw[d]
  by_cases h0:(zr S m e).2=0
  ·rw[zE h0,zA (kW h0)]
   by_cases h1:(zr S m f).2=0
   ·rw[zE h1,zA (kW h1)]
    by_cases h2:(xF o.code (zr S m e).1 (zr S m f).1).2=0
    ·rw[zE h2,evalI]
     exact Z6 rfl h2.symm
    ·rw[zA h2]
     exact Z6 (k _ _ h2).symm rfl
   ·rw[zA h1,zE h1]
  ·rw[zA h0,zE h0]
 refine⟨j,fun st r=>?_⟩
 rw[yK,yK,j]
 show evalI S m (e++(f++(o::r))) st=_
 rw[d]
 by_cases h0:(zr S m e).2=0
 ·rw[zE h0,zA (kW h0)]
  by_cases h1:(zr S m f).2=0
  ·rw[zE h1,zA (kW h1)]
  ·rw[zA h1,zE h1,zA h1]
 ·rw[zA h0,zE h0,zA h0]
def celI (x:ByteArray) (v:Int):Int×Int:=match Rt.kX S m x v with
 | none=>(0,3)
 | some s=>(ZL m s,0)
theorem pj {e:List qM} (d:Whole S m e):zr S m (e++[⟨4,0,⟨#[]⟩⟩])=(if (zr S m e).2=0 then (wrap64 (-(zr S m e).1),0)else (0,(zr S m e).2))/\Whole S m (e++[⟨4,0,⟨#[]⟩⟩]):=
 eval_un S m d ⟨4,0,⟨#[]⟩⟩ (fun v=>(wrap64 (-v),0)) (fun st v=>by simp[workI]) (fun v h=>absurd rfl h)
theorem pk {e:List qM} (d:Whole S m e) (x:ByteArray):zr S m (e++[⟨3,0,x⟩])=(if (zr S m e).2=0 then celI S m x (zr S m e).1 else (0,(zr S m e).2))/\Whole S m (e++[⟨3,0,x⟩]):=by
 refine eval_un S m d ⟨3,0,x⟩ (celI S m x) (fun st v=>?_) (fun v h=>?_)
 ·unfold workI celI
  simp only[XV,xo]
  cases Rt.kX S m x v <;> simp
 ·unfold celI at h ⊢
  cases hc:Rt.kX S m x v with
  | none=>rfl
  | some s=>rw[hc]at h;exact absurd rfl h
theorem Ky (h:kp vJ o=true\/kp kL o=true\/kp kF o=true):¬(yI o=1\/yI o=2\/yI o=3\/yI o=4):=by
 rcases h with h | h | h
 ·have:=(px o).mpr h;omega
 ·have:=(iE o).mpr h;omega
 ·have:=(gn o).mpr h;omega
theorem XG {e:List qM} (h:Cm k t e):Whole S m e:=by
 induction h with
 | num x h=>exact(au S m _ (val x) (fun st=>by simp[workI])).2
 | br x h=>exact(au S m _ (ZL m (vx S m x)) (fun st=>by simp[workI])).2
 | neg p e _ ih=>exact(pj S m ih).2
 | par p e _ ih=>exact ih
 | rE x p e _ _ ih=>exact(pk S m ih x).2
 | t1 p e _ ih=>exact ih
 | t2 p o q e f _ ho _ ih1 ih2=>exact(eval_bin S m ih1 ih2 _ (Ky (Or.inl ho))).2
 | s1 p e _ ih=>exact ih
 | s2 p o q e f _ ho _ ih1 ih2=>exact(eval_bin S m ih1 ih2 _ (Ky (Or.inr (Or.inl ho)))).2
 | e1 p e _ ih=>exact ih
 | e2 p o q e f _ ho _ ih1 ih2=>exact(eval_bin S m ih1 ih2 _ (Ky (Or.inr (Or.inr ho)))).2
end
theorem FV (h:kp vJ o=true\/kp kL o=true\/kp kF o=true) (a b:Int):two a o.toList b=xF (yI o) a b:=by
 have d:∀l:List UInt8,(⟨l.toArray⟩:ByteArray).toList=l:=jl
 rcases h with h | h | h
 ·rcases JO h with rfl | rfl | rfl
  ·rw[show (⟨#[42]⟩:ByteArray).toList=[42]from d [42]];simp[two,xF,yI]
  ·rw[show (⟨#[47]⟩:ByteArray).toList=[47]from d [47]];simp[two,xF,yI]
  ·rw[show (⟨#[37]⟩:ByteArray).toList=[37]from d [37]];simp[two,xF,yI]
 ·rcases JT h with rfl | rfl
  ·rw[show (⟨#[43]⟩:ByteArray).toList=[43]from d [43]];simp[two,xF,yI]
  ·rw[show (⟨#[45]⟩:ByteArray).toList=[45]from d [45]];simp[two,xF,yI]
 ·rcases VD h with rfl | rfl
  ·rw[show (⟨#[60]⟩:ByteArray).toList=[60]from d [60]];simp[two,xF,yI,Vi]
  ·rw[show (⟨#[61]⟩:ByteArray).toList=[61]from d [61]];simp[two,xF,yI,Vi]
end Rf
theorem rZ (z:Y8 t) (F:Rf.split t=-1) (i:0 < t.length) (hx:(t[0].toList==[45])=true) (M:Z5 ls p a (t.drop 1)) :
  Z5 ls p (wrap64 (-a.1),a.2) t:=by
 intro w S g cap P v L J y
 have T:=zD L
 have O:=zD J
 have A:=zD y
 have U:=zD z
 have R:=zD M
 have hl:=z.1
 obtain⟨ad,cp,rfl,I⟩:=y.form
 obtain⟨tb,d,rfl⟩:=y.qZ (by intro h;rw[h]at i;simp at i)
 clear L J y z M
 have H:(0:Int) < (t.length:Int):=by omega
 have G:(1:Int)<=(t.length:Int):=by omega
 go_enter Tryz.func154,Tryz.ntmps154
 go_wp2_with fail
 refine(JE A.u U.u).mono ?_
 rintro e w1 ⟨rfl,j⟩
 rw[F]
 obtain⟨Z,V,W,o,N⟩:=(A.u.zP j).cell i
 simp only[xJ,zx,Z9,jH,jJ]at o
 obtain⟨⟨rfl,rfl⟩,o⟩:=o
 clear o
 have f:=zD j
 clear j F
 simp only[qO]at N
 generalize t[0]=x at *
 go_wp2_with fail
 all_goals
  refine(R.u _ S g cap P _ (T.u.zP f.u) (O.u.zP f.u) (by first | exact xA.gone (by omega) rfl | exact(A.u.zP f.u).drop 1 _ _ rfl (by omega))).mono ?_
  rintro e w2 ⟨rfl,k⟩
  have D:=zD (f.u.trans (k.mono (B':=w.heap.size) f.u.size))
  clear k
  go_wp2_with fail
  go_ret2
  exact⟨rfl,D.u⟩
theorem rY (D:Y8 t) (G:Rf.split t=-1) (j:2<=t.length) (hx:(t[0].toList==[45])=false) (hy:(t[0].toList==[40])=true) (N:Z5 ls p a ((t.take (t.length-1)).drop 1)) :
  Z5 ls p a t:=by
 intro w S g cap P v M L y
 have U:=zD M
 have R:=zD L
 have z:=zD y
 have V:=zD D
 have T:=zD N
 have hl:=D.1
 obtain⟨ad,cp,rfl,J⟩:=y.form
 obtain⟨tb,d,rfl⟩:=y.qZ (by intro h;rw[h]at j;simp at j)
 clear M L y D N
 have A:0 < t.length:=by omega
 have I:(0:Int) < (t.length:Int):=by omega
 have H:(1:Int)<=(t.length:Int):=by omega
 go_enter Tryz.func154,Tryz.ntmps154
 go_wp2_with fail
 refine(JE z.u V.u).mono ?_
 rintro e w1 ⟨rfl,i⟩
 rw[G]
 obtain⟨ub,W,Z,o,O⟩:=(z.u.zP i).cell A
 simp only[xJ,zx,Z9,jH,jJ]at o
 obtain⟨⟨rfl,rfl⟩,o⟩:=o
 clear o
 have f:=zD i
 clear i G
 simp only[qO]at O
 generalize t[0]=x at *
 go_wp2_with fail
 all_goals
  refine(T.u _ S g cap P _ (U.u.zP f.u) (R.u.zP f.u) (by first | exact(z.u.zP f.u).Ad 1 (t.length-1) _ _ (by omega) rfl (by omega)| exact(z.u.zP f.u).Ad 1 (t.length-1) _ _ (by omega) (by omega) (by omega))).mono ?_
  rintro e w2 ⟨rfl,k⟩
  have F:=zD (f.u.trans (k.mono (B':=w.heap.size) f.u.size))
  clear k
  go_wp2_with fail
  go_ret2
  exact⟨rfl,F.u⟩
theorem ra (hL:Lawful ls) (G:Rf.V9 ls p) (hf:Y8 t) (hs:Rf.split t=-1) (H:3<=t.length) (hx:(t[0].toList==[45])=false) (hy:(t[0].toList==[40])=false) (h1:Z5 ls p a ((t.take (t.length-1)).drop 2))
  (hr:r=if ¬a.2=0 then ((0:Int),a.2)else if a.1 < 0\/((p.cells.getD (Rf.decl ls t[0]) []).length:Int)<=a.1 then (0,3)else ((p.cells.getD (Rf.decl ls t[0]) []).getD a.1.toNat 0,0)):Z5 ls p r t:=by
 intro w S g cap P v hG hP hV
 have HG:=zD hG
 have HP:=zD hP
 have T:=zD hV
 have HF:=zD hf
 have HI:=zD h1
 have V:=zD hL
 have U:=zD G
 have hl:=hf.1
 obtain⟨ad,cp,rfl,b0⟩:=hV.form
 obtain⟨tb,f,rfl⟩:=hV.qZ (by intro h;rw[h]at H;simp at H)
 have HR:=zD hr
 clear hG hP hV hf h1 hL G hr
 have a0:0 < t.length:=by omega
 have a7:(0:Int) < (t.length:Int):=by omega
 have a6:(1:Int) < (t.length:Int):=by omega
 go_enter Tryz.func154,Tryz.ntmps154
 go_wp2_with fail
 refine(JE T.u HF.u).mono ?_
 rintro e w1 ⟨rfl,D⟩
 rw[hs]
 have HC:Hd (∀w',xA w' (.slice (some ⟨tb,f,none⟩) t.length cp) t->w'.cell? ⟨tb,f,none⟩=some (.string t[0])):=zD (by
  intro w' h
  obtain⟨b',o',cap',y,c0⟩:=h.cell a0
  simp at y
  obtain⟨⟨rfl,rfl⟩,rfl⟩:=y
  exact c0)
 have ct:=HC.u _ (T.u.zP D)
 have k:=zD D
 clear D hs
 generalize t[0]=x at *
 go_wp2_with fail
 all_goals
  refine(HI.u _ S g cap P _ (HG.u.zP k.u) (HP.u.zP k.u) (by first | exact(T.u.zP k.u).Ad 2 (t.length-1) _ _ (by omega) rfl (by omega)| exact(T.u.zP k.u).Ad 2 (t.length-1) _ _ (by omega) (by omega) (by omega))).mono ?_
  rintro e w2 ⟨rfl,N⟩
  have j:=zD (k.u.trans (N.mono (B':=w.heap.size) k.u.size))
  clear N ct
  obtain⟨a1,a2⟩:=a
  by_cases ha:a2=0
  ·subst ha
   have R:=HC.u _ (T.u.zP j.u)
   obtain⟨cb,co,cc,cv,M⟩:=(HP.u.zP j.u).cells
   have a3:=Rf.Qb ls x
   have z:Rf.decl ls x < p.cells.length:=by have:=U.u.cells;omega
   obtain⟨dv,cd,L⟩:=M (Rf.decl ls x) z
   have J:p.cells.getD (Rf.decl ls x) []=p.cells[Rf.decl ls x]:=by simp[z]
   have o:=zD (HR.u.trans (zA (by simp)))
   rw[J]at o
   generalize p.cells[Rf.decl ls x]=cl at *
   clear J M HR
   obtain⟨d,hd⟩:∃d,d=Rf.decl ls x:=⟨_,rfl⟩
   have HD:=zD hd
   rw[<-hd]at cd z
   clear hd a3
   have a9:(d:Int) < (p.cells.length:Int):=by omega
   have b3:(0:Int)<=(d:Int):=by omega
   have b1:p.cells.length<=1000:=by have:=U.u.cells;have:=V.u.len;omega
   have Z:=zD L
   obtain⟨a4,O,rfl,_⟩:=L
   have HK:=XX cv R cd
   go_wp2_with fail
   go_region_held3 (fun w'=>w'.cell? ⟨P,2,none⟩=some (.slice (some ⟨cb,co,none⟩) p.cells.length cc)/\w'.cell? ⟨tb,f,none⟩=some (.string x)/\w'.cell? ⟨cb,co+d,none⟩=some (.slice a4 cl.length O)) (first | go_keep | exact⟨cell_later (yh hb3) HK.u.1,cell_later (yh hb3) HK.u.2.1,cell_later (yh hb3) HK.u.2.2⟩) ((go_at_call 84;refine(qg x ((HG.u.zP j.u).zP (zh _)) V.u).mono ?_;rintro e w3 ⟨rfl,hb3⟩;rw[<-HD.u]))
   have A:=yh hb3
   have W:=zD (Z.u.zP A)
   have F:=zD (j.u.trans (A.mono (B':=w.heap.size) j.u.size))
   clear hb3 A Z R cv cd
   by_cases hlo:a1 < 0
   ·go_wp2_with fail
    go_ret2
    exact⟨by rw[o.u.trans (zE (Or.inl hlo))];rfl,F.u⟩
   ·by_cases hhi:(cl.length:Int)<=a1
    ·go_wp2_with fail
     go_ret2
     exact⟨by rw[o.u.trans (zE (Or.inr hhi))];rfl,F.u⟩
    ·obtain⟨i,rfl⟩:=yr (show 0<=a1 by omega)
     have I:i < cl.length:=by omega
     obtain⟨ib,io,ic,y,ci⟩:=W.u.get I
     simp only[xJ,jH]at y
     obtain⟨rfl,y⟩:=y
     clear y
     have a5:Hd (r=(cl[i],0)):=zD (o.u.trans ((zA (show ¬((i:Int) < 0\/(cl.length:Int)<=(i:Int)) by omega)).trans (by simp[I])))
     have a8:(i:Int) < (cl.length:Int):=by omega
     have b2:(0:Int)<=(i:Int):=by omega
     generalize cl[i]=rv at *
     go_wp2_with fail
     go_ret2
     exact⟨by rw[a5.u];rfl,F.u⟩
  ·have b4:(a2 != 0)=true:=by simpa using ha
   go_wp2_with fail
   go_ret2
   exact⟨by rw[HR.u.trans (zE ha)];rfl,j.u⟩
theorem ey (T:Lawful ls) (o:Rf.V9 ls p) (z:Y8 t) (J:Rf.split t=-1) (i:0 < t.length) (D:t.length<=1) (hx:(t[0].toList==[45])=false) (hy:(t[0].toList==[40])=false)
  (L:r=if Rf.xi t[0]=true then (Rf.worth t[0],(0:Int))else (Rf.value ls p t[0],0)):Z5 ls p r t:=by
 intro w S g cap P v U R A
 have HG:=zD U
 have HP:=zD R
 have V:=zD A
 have HF:=zD z
 have G:=zD T
 have F:=zD o
 have hl:=z.1
 obtain⟨ad,cp,rfl,O⟩:=A.form
 obtain⟨I,d,rfl⟩:=A.qZ (by intro h;rw[h]at i;simp at i)
 have a0:=z.2 _ (zj i)
 have j:t[0].size<=maxLen:=by unfold maxLen;omega
 have W:=zD L
 clear U R A z T o L
 have M:(0:Int) < (t.length:Int):=by omega
 have a1:¬(1:Int) < (t.length:Int):=by omega
 clear D
 have HT:Hd (∀w' c,xA w' (.slice (some ⟨I,d,none⟩) t.length c) t->w'.cell? ⟨I,d,none⟩=some (.string t[0])):=zD (by
  intro w' c h
  obtain⟨b',o',cap',N,c0⟩:=h.cell i
  simp at N
  obtain⟨⟨rfl,rfl⟩,rfl⟩:=N
  exact c0)
 go_enter Tryz.func154,Tryz.ntmps154
 go_wp2_with fail
 refine(JE V.u HF.u).mono ?_
 rintro e w1 ⟨rfl,k⟩
 rw[J]
 have ct:=HT.u _ _ (V.u.zP k)
 have f:=zD k
 clear k J
 generalize t[0]=x at *
 go_wp2_with fail
 refine(Yv x _ j).mono ?_
 rintro e w2 ⟨rfl,rfl⟩
 cases hn:Rf.xi x with
 | true=>
  go_wp2_with fail
  refine(bx x _ j).mono ?_
  rintro e Z ⟨rfl,rfl⟩
  go_wp2_with fail
  go_ret2
  exact⟨by rw[W.u.trans (zE hn)];rfl,f.u⟩
 | false=>
  go_wp2_with fail
  refine(wK x (HG.u.zP f.u) G.u (HP.u.zP f.u) F.u).mono ?_
  rintro e Z ⟨rfl,y⟩
  have H:=zD (f.u.trans (y.mono (B':=w.heap.size) f.u.size))
  clear y
  go_wp2_with fail
  go_ret2
  exact⟨by rw[W.u.trans (zA (by rw[hn];simp))];rfl,H.u⟩
namespace Rf
open Rt
theorem vm {u:List ByteArray} (h:Y8 t) (f:u.length<=t.length) (d:∀x∈u,x∈t):Y8 u:=⟨by have:=h.1;omega,fun x hx=>h.2 x (d x hx)⟩
theorem mH (S:Rt.Src) (m:Mc):∀(e:List qM) (st:List Int),(evalI S m e st).2≠0->(evalI S m e st).1=0
 | [],st,h=>absurd rfl h
 | o::r,st,h=>by
  rw[evalI]at h ⊢
  split
  ·next h0=>rw[zE h0]at h;exact mH S m r _ h
  ·rfl
theorem Ch (l:List UInt8) (r:List UInt8):((⟨l.toArray⟩:ByteArray).toList==r)=(l==r):=by rw[jl]
theorem fg (h:yg x=true\/xi x=true):(x.toList==[45])=false/\(x.toList==[40])=false:=by
 constructor
 ·rw[ZF,kH];exact Jm h 45 (by decide) (by decide)
 ·rw[ZF,kH];exact Jm h 40 (by decide) (by decide)
theorem EY (h:yg x=true):xi x=false:=by
 cases hn:xi x with
 | false=>rfl
 | true=>
  exfalso
  simp[yg]at h
  simp[xi]at hn
  have f:=h.1.2
  have d:=hn.2
  simp[qt]at f
  simp[jo]at d
  omega
theorem BP (p:List ByteArray) (o:ByteArray) (q:List ByteArray):(p++o::q).take p.length=p/\(p++o::q).drop (p.length+1)=q/\∃h:p.length < (p++o::q).length,(p++o::q)[p.length]=o:=by
 refine⟨by simp,?_,by simp,by simp⟩
 rw[Zr,zp (by omega),show p.length+1-p.length=1 by omega]
 rfl
theorem rX (x:ByteArray) (p:List ByteArray) (y:ByteArray):((x::(p++[y])).take ((x::(p++[y])).length-1)).drop 1=p:=by
 rw[show (x::(p++[y])).length-1=p.length+1 by simp,qz,jX,Yf,kG (zB _),Zp]
theorem BM (x u:ByteArray) (p:List ByteArray) (y:ByteArray):((x::u::(p++[y])).take ((x::u::(p++[y])).length-1)).drop 2=p:=by
 rw[show (x::u::(p++[y])).length-1=p.length+2 by simp,qz,qz,jX,jX,Yf,kG (zB _),Zp]
section
variable {zL : List PL} {ls : List (List ByteArray)} {S : Rt.Src} {m : Mc}
theorem dI {p q:List ByteArray} {e f:List qM} (i:Y8 (p++o::q)) (h:split (p++o::q)=p.length) (d:kp vJ o=true\/kp kL o=true\/kp kF o=true) (k:Z5 ls (yT zL m) (zr S m e) p) (j:Z5 ls (yT zL m) (zr S m f) q) (w1:Whole S m e) (w2:Whole S m f) :
  Z5 ls (yT zL m) (zr S m (e++f++[⟨yI o,0,⟨#[]⟩⟩])) (p++o::q):=by
 obtain⟨A,z,y,x⟩:=BP p o q
 have:=rb (ls:=ls) (p:=yT zL m) i h y (by rw[A];exact k) (by rw[z];exact j)
 rw[x,FV d]at this
 rw[(eval_bin S m w1 w2 ⟨yI o,0,⟨#[]⟩⟩ (Ky d)).1]
 exact this
theorem JB (E:Env zL ls S m) {e:List qM} (h:Cm k t e):Y8 t->ZG (Rt.isVar zL (qJ S m)) (Rt.ZW zL (qJ S m)) e=true->Z5 ls (yT zL m) (zr S m e) t:=by
 induction h with
 | num x hx=>
  intro d i
  obtain⟨z,n2⟩:=fg (Or.inr hx)
  have:=ey (p:=yT zL m) E.law E.ok d (QD (.num x hx)) Nat.zero_lt_one (zB 1) z n2 rfl
  rw[show ([x]:List ByteArray)[0]=x from rfl,zE hx]at this
  rw[(au S m ⟨1,val x,⟨#[]⟩⟩ (val x) (fun st=>by simp[workI])).1,cB]
  exact this
 | br x hx=>
  intro d i
  obtain⟨z,n2⟩:=fg (Or.inl hx)
  have:=ey (p:=yT zL m) E.law E.ok d (QD (.br x hx)) Nat.zero_lt_one (zB 1) z n2 rfl
  have A:Rt.isVar zL (qJ S m) x=true:=by simpa[ZG] using i
  rw[show ([x]:List ByteArray)[0]=x from rfl,zA (by rw[EY hx];simp),Bl E A]at this
  rw[(au S m ⟨2,0,x⟩ (ZL m (vx S m x)) (fun st=>by simp[workI])).1]
  exact this
 | neg p e hp ih=>
  intro d i
  rw[jm,zy]at i
  have:=rZ (ls:=ls) (p:=yT zL m) d (QD (.neg p hp.is)) (by simp) (Ch [45] [45]) (ih (vm d (by simp) (fun x hx=>by simp[hx])) i.1)
  rw[(pj S m (XG S m hp)).1]
  by_cases h0:(zr S m e).2=0
  ·rw[zE h0]
   rw[h0]at this
   exact this
  ·rw[zA h0]
   have D:(zr S m e).1=0:=mH S m e [] h0
   rw[D,show wrap64 (-(0:Int))=0 from yC _ (by omega)]at this
   exact this
 | par p e hp ih=>
  intro d i
  refine rY (ls:=ls) (p:=yT zL m) d (QD (.par p hp.is)) (by simp) (Ch [40] [45]) (Ch [40] [40]) ?_
  rw[rX]
  exact ih (vm d (by simp;omega) (fun x hx=>by simp[hx])) i
 | rE x p e hx hp ih=>
  intro d i
  rw[jm,zy]at i
  obtain⟨z,n2⟩:=fg (Or.inl hx)
  have A:Rt.ZW zL (qJ S m) x=true:=by simpa[ZG] using i.2
  have:=ra (ls:=ls) (p:=yT zL m) E.law E.ok d (QD (.rE x p hx hp.is)) (by simp) z n2 (by rw[BM];exact ih (vm d (by simp;omega) (fun y hy=>by simp[hy])) i.1) rfl
  rw[(pk S m (XG S m hp) x).1]
  obtain⟨F,H,G⟩:=GD E A
  rw[show (x::qI::(p++[kM]))[0]=x from rfl,F]at this
  by_cases h0:(zr S m e).2=0
  ·rw[zE h0]
   rw[zA (kW h0)]at this
   unfold celI Rt.kX Q6 ZL
   generalize (zr S m e).1=v at *
   by_cases hr:v < 0\/((cellsOf m (xb S.zL x:Nat)).length:Int)<=v
   ·rw[zE hr]at this
    rw[zA (by simp only[yS];omega)]
    exact this
   ·rw[zA hr]at this
    rw[zE (by simp only[yS];omega)]
    simp only
    rw[zA (by omega),<-xL]
    exact this
  ·rw[zA h0]
   rw[zE h0]at this
   exact this
 | t1 p e _ ih=>exact ih
 | t2 p o q e f hp i hq ih1 ih2=>
  intro d j
  rw[jm,jm,zy,zy]at j
  exact dI d (wT hp.is i hq.is) (Or.inl i) (ih1 (vm d (by simp) (fun x hx=>by simp[hx])) j.1.1) (ih2 (vm d (by simp;omega) (fun x hx=>by simp[hx])) j.1.2) (XG S m hp) (XG S m hq)
 | s1 p e _ ih=>exact ih
 | s2 p o q e f hp i hq ih1 ih2=>
  intro d j
  rw[jm,jm,zy,zy]at j
  exact dI d (wV hp.is i hq.is) (Or.inr (Or.inl i)) (ih1 (vm d (by simp) (fun x hx=>by simp[hx])) j.1.1) (ih2 (vm d (by simp;omega) (fun x hx=>by simp[hx])) j.1.2) (XG S m hp) (XG S m hq)
 | e1 p e _ ih=>exact ih
 | e2 p o q e f hp i hq ih1 ih2=>
  intro d j
  rw[jm,jm,zy,zy]at j
  exact dI d (wU hp.is i hq.is) (Or.inr (Or.inr i)) (ih1 (vm d (by simp) (fun x hx=>by simp[hx])) j.1.1) (ih2 (vm d (by simp;omega) (fun x hx=>by simp[hx])) j.1.2) (XG S m hp) (XG S m hq)
end
end Rf
end Go.Proofs.YthleadfkfnnadaaGreat
