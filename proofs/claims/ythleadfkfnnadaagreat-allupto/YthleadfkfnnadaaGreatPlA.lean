/- The document's place of a machine: plain. -/
import Derived.Test.YthleadfkfnnadaaGreatEqvG
set_option maxHeartbeats 4000000
set_option maxRecDepth 100000
set_option linter.all false
namespace Go.Proofs.YthleadfkfnnadaaGreat
open Value renaming int->J,slice->I,pointer->H,agg->L,tuple->E
open IntKind renaming i64->U
open Option renaming none->Z,some->Q
open Bool renaming false->W,true->D
open List renaming length->G
open Ending renaming returned->T
open Obj renaming cells->V
open Rt Go.Proofs.Tryz
variable {c:Array Value} {s x:Ia} {iv:Int} {cs:List (List Value)} {qo:List Int} {tail:List Value} {X X':ZK} {M B BB c1 c2 c3 N O R P n d:Nat} {a1 a2 a3:Option Addr} {lk:Qw} {m m':Rt.Mc} {fm:Rt.qS} {S:Rt.Src} {ty t:TypeId} {v0 v1 v2 v3 v4 v5 lv x0 x1 x2 x3 x4 x5 x6 x7:Value} {w w1 wx w2 w' w3 w4:World}
section
open Go.RowKit
attribute [local go_sem ↓] Go.wp_at_zero Go.wp_at_succ
theorem tm (h:jz w M B ty tail S m X) (hm:dL S m) (hf:qk w BB (Qd fm a1 a2 a3 c1 c2 c3) fm) (A:Rt.Small fm) (j:∀o∈fm.values,G o<=900) (hk:fm.kind=5\/fm.kind=7):Calls Tryz.prog 149 #[H (Q ⟨M,0,Z⟩),L (Qd fm a1 a2 a3 c1 c2 c3)] w (eE M B ty tail S X (Rt.perform S m fm) w):=by
 have k:=((zI w.heap.size w).alloc (zB _) (V (Qd fm a1 a2 a3 c1 c2 c3) 143)).alloc (by simp) (V #[J U 0,J U 0,I Z 0 0] 157);have bF:=yR (zN w (V (Qd fm a1 a2 a3 c1 c2 c3) 143)) (V #[J U 0,J U 0,I Z 0 0] 157);have bR:=qD w (V (Qd fm a1 a2 a3 c1 c2 c3) 143) (V #[J U 0,J U 0,I Z 0 0] 157);have hA:=h.zP k;have a4:=ZY hf k;have HP:=zD (show Rt.perform S m fm=if (Rt.kP S m fm).2=0 then ⟨0,if (Rt.kP S m fm).1=0 then Rt.ky S.lk m.line else wrap64 (m.line+1),[Rt.stay m.line],m⟩else Rt.ended m (Rt.kP S m fm).2 by unfold Rt.perform;simp only;rw[zA (by omega),zA (by omega),zA (by omega),zA (by omega),zE hk]);have HH:=zD h;clear h hf hk;go_enter func149,ntmps149;go_wp2_with fail;refine(Ks hA hm a4 A j).mono ?_;rintro e w1 ⟨rfl,x⟩;have y:=k.trans (x.mono (B':=w.heap.size) (by simp;omega));have i:=zU bR x;have h1:=hA.zP x;clear hA a4 k bF bR x;generalize Rt.kP S m fm=v at *;obtain⟨v1,v2⟩:=v;simp only at HP;by_cases hv:v2=0
 ·subst hv
  replace HP:=zD (HP.u.trans (zE rfl))
  have c6:=h1.c6;have HA:=qG (Z8.start HH.u y) i;have N:=zD h1.prog;clear h1 y i hm j A;by_cases hz:v1=0
  ·subst hz;rw[zE rfl]at HP;go_wp2_with fail;go_region_with ((go_at_call 183;refine(ij m.line (N.u.zP (zh _))).mono ?_;rintro e w2 ⟨rfl,F⟩))
   all_goals
    have f:=HA.u.1.below (yh F);have d:=zU HA.u.2 (yh F);clear F HA N c6;generalize Rt.ky S.lk m.line=nx at *;have a7:=f.mc.c6;have hQ:=f.vz.size;have a5:=zQ d;obtain⟨r0,r1,r2⟩:=yb d;have z:=zS d;have a0:¬w.heap.size+1=w2.heap.size:=by omega
    have T:¬w2.heap.size=w.heap.size+1:=by omega
    have a6:M < w2.heap.size:=zX f.lt hQ;have R:¬M=w2.heap.size:=by omega
    have O:=zD (fun a b c=>And.intro ((f.three d (by omega) (by unfold Xe;decide) a b c).below ((zI _ _).alloc (zB _) (V #[J U 1,J U m.line,J U 0,J U 0,J U 0] 162))) (eQ 1 w2 w.heap.size (w.heap.size+1) #[J U 1,J U m.line,J U 0,J U 0,J U 0] hQ a b c rfl (by omega)));have HG:=zD (fun a b c:Value=>yb (yR (Km d a b c) (V #[J U 1,J U m.line,J U 0,J U 0,J U 0] 162)));clear f d;go_wp2_with fail;refine zT (v:=L #[J U 0,J U (nx),I (Q ⟨w2.heap.size,0,Z⟩) 1 1]) ?_ rfl ⟨_,_,by rw[HP.u],by rw[HP.u];exact(O.u _ _ _).1,by rw[HP.u];exact(O.u _ _ _).2⟩;have E:=HG.u (J U 0) (J U (nx)) (I (Q ⟨w2.heap.size,0,Z⟩) 1 1);revert E;generalize (W3 w2 (w.heap.size+1) (J U 0) (J U (nx)) (I (Q ⟨w2.heap.size,0,Z⟩) 1 1)).alloc (V #[J U 1,J U m.line,J U 0,J U 0,J U 0] 162)=wz;intro E;simp[results,results149,go_sem,E.1,E.2.1,E.2.2]
  ·rw[zA hz]at HP;have bz:(v1==0)=W:=by rw[zV];exact hz
   obtain⟨f,d⟩:=HA.u;clear HA N hz;have a7:=f.mc.c6;have hQ:=f.vz.size;have a5:=zQ d;obtain⟨r0,r1,r2⟩:=yb d;have z:=zS d;have a0:¬w.heap.size+1=w1.heap.size:=by omega
   have T:¬w1.heap.size=w.heap.size+1:=by omega
   have a6:M < w1.heap.size:=zX f.lt hQ;have R:¬M=w1.heap.size:=by omega
   have O:=zD (fun a b c=>And.intro ((f.three d (by omega) (by unfold Xe;decide) a b c).below ((zI _ _).alloc (zB _) (V #[J U 1,J U m.line,J U 0,J U 0,J U 0] 162))) (eQ 1 w1 w.heap.size (w.heap.size+1) #[J U 1,J U m.line,J U 0,J U 0,J U 0] hQ a b c rfl (by omega)));have HG:=zD (fun a b c:Value=>yb (yR (Km d a b c) (V #[J U 1,J U m.line,J U 0,J U 0,J U 0] 162)));clear f d;go_wp2_with fail;refine zT (v:=L #[J U 0,J U (wrap64 (m.line+1)),I (Q ⟨w1.heap.size,0,Z⟩) 1 1]) ?_ rfl ⟨_,_,by rw[HP.u],by rw[HP.u];exact(O.u _ _ _).1,by rw[HP.u];exact(O.u _ _ _).2⟩;have E:=HG.u (J U 0) (J U (wrap64 (m.line+1))) (I (Q ⟨w1.heap.size,0,Z⟩) 1 1);revert E;generalize (W3 w1 (w.heap.size+1) (J U 0) (J U (wrap64 (m.line+1))) (I (Q ⟨w1.heap.size,0,Z⟩) 1 1)).alloc (V #[J U 1,J U m.line,J U 0,J U 0,J U 0] 162)=wz;intro E;simp[results,results149,go_sem,E.1,E.2.1,E.2.2]
 ·replace HP:=zD (HP.u.trans (zA hv))
  have bv:(v2 != 0)=D:=by simpa using hv
  obtain⟨r0,r1,r2⟩:=yb i;have z:=zS i;have O:=zD (fun a b c=>(Z8.start HH.u y).three i (by omega) (by unfold Xe;decide) a b c);clear h1 y i hv hm j A;go_wp2_with fail;refine zT (v:=L #[J U v2,J U 0,I Z 0 0]) ?_ rfl ⟨_,_,by rw[HP.u];rfl,by rw[HP.u];exact O.u _ _ _,by rw[HP.u];exact zW _ _ _ _⟩;simp[results,results149,go_sem,r0,r1,r2]
def xC (X:ZK) (m:Rt.Mc) (tail:List Value):Array Value:=([X.lv,X.iv,X.fv,X.vv,J U m.taken,X.ov,J U m.line,J U m.fin]++tail).toArray
theorem jz.step (h:jz w M B ty tail S m X) (hs:w.heap.size<=w1.heap.size) (D:w1.heap[M]?=w.heap[M]?) (o:∀(k:Nat) (x:Obj),w.heap[k]?=Q x->(∃c t,x=Obj.cells c t (0,0)/\Xe t)->w1.heap[k]?=Q x) (i:Nat) (v:Value) (A:(xC X m tail).setIfInBounds i v=xC X' m' tail) (j:Own w1 (rowsOf S.input X' m')) (z:X'.lv=X.lv) (d:X'.cs=X.cs) (F:G X'.xg=G m'.zH) (y:G X'.YR=G m'.values):jz (w1.setCell ⟨M,i,Z⟩ v) M B ty tail S m' X':=by
 have hother:∀k,k≠M->(w1.setCell ⟨M,i,Z⟩ v).heap[k]?=w1.heap[k]?:=fun k o=>zO w1 ⟨M,i,Z⟩ _ k o;have f:w1.heap[M]?=Q (V (xC X m tail) ty (0,0)):=D.trans h.block;refine h.next ?_ (by simpa[World.setCell] using hs) (fun k x hx hne hp=>by rw[hother k hne];exact o k x hx hp) ⟨fun r hr=>yP (j.rows r hr) (fun g hg=>hother g ?_),j.apart⟩ z d F y
 ·have:=zf f i v;rw[A]at this;exact this
 ·intro e;obtain⟨c,d⟩:=yW (j.rows r hr) hg;rw[e,f]at d;injection d with d;injection d with _ d;have h3:=JF hr;rw[<-d]at h3;rcases h3 with e | e | e
  ·exact h.ty.1 e
  ·exact h.ty.2.1 e
  ·exact h.ty.2.2.1 e
theorem VM.B5 {F:List Nat} (h:VM w w1 (M::F)) (i:Nat) (v:Value):VM w (w1.setCell ⟨M,i,Z⟩ v) (M::F):=
 ⟨h.os,h.tape,h.output,zi h.size (by simp[World.setCell]),fun k hk hn=>by
  rw[zO w1 ⟨M,i,Z⟩ v k (fun e=>hn (by rw[show k=M from e];exact xB ..))];exact h.block k hk hn⟩
theorem jz.EW (h:jz w M B ty tail S m X) (z:Below w.heap.size w wx) (y:wx.grownBy w1 X.ov.ownBlock) (v:Int) (d:Value) (D:w1.ownsRow 0 3 1 d (G m.output+1) (xR (m.output++[v]))) (N:∀g,d.ownBlock=Q g->X.ov.ownBlock=Q g\/w.heap.size<=g):jz (w1.setCell ⟨M,5,Z⟩ d) M B ty tail S { m with output:=m.output++[v] } { X with ov:=d }/\VM w (w1.setCell ⟨M,5,Z⟩ d) (M::Z4 X)/\vd w (Z4 X) (Z4 { X with ov:=d }):=by
 have A:=h.out;have f:∀k,k < w.heap.size->X.ov.ownBlock≠Q k->w1.heap[k]?=w.heap[k]?:=fun k hk hv=>(y.block k (zX hk z.size) (xK hv)).trans (z.block k hk);have o:∀g,X.ov.ownBlock=Q g->∃c,w.heap[g]?=Q (V c 3 (0,0)):=fun g y=>yW A y;have H:X.ov.ownBlock≠Q M:=by
  intro e;obtain⟨c,j⟩:=o M e;rw[h.block]at j;injection j with j;injection j with _ j;exact h.ty.1 j
 have hk:∀(k:Nat) (x:Obj),w.heap[k]?=Q x->(∃c t,x=Obj.cells c t (0,0)/\Xe t)->w1.heap[k]?=Q x:=by
  intro k x L I;rw[f k (zQ L) (fun e=>by
   obtain⟨c,j⟩:=o k e;rw[L]at j;injection j with j;obtain⟨W,U,J,I⟩:=I;rw[j]at J;injection J with _ J;rw[<-J]at I;exact absurd I (by unfold Xe;decide))]
  exact L
 have i:rowsOf S.input X m=[zz X.iv S.input,⟨153,2,X.fv,G m.zH,fCells X.xg m.zH⟩,⟨24,1,X.vv,G m.values,X.YR⟩]++zz X.ov m.output::(List.zipWith zz X.xg (m.zH.map Rt.Fm.params)++List.zipWith zz X.YR m.values):=rfl;have O:=h.own;rw[i]at O;obtain⟨T,R⟩:=O.swap (w':=w1) (r':=zz d (m.output++[v])) f (by show World.ownsRow _ 0 3 1 _ (m.output++[v]).length _;rw[ze];exact D) N;have F:=h.step (w1:=w1) (m':={ m with output:=m.output++[v] }) (X':={ X with ov:=d }) (zi z.size y.size) (f M (zQ h.block) H) hk 5 d (by simp[xC]) T rfl rfl h.fl h.vl;refine⟨F,?_,?_⟩
 ·refine VM.B5 ⟨y.os.trans z.os,y.tape.trans z.tape,y.output.trans z.output,zi z.size y.size,fun k hk2 hn=>f k hk2 (fun e=>hn (zm _ ?_))⟩ _ _;rw[<-h.xh];exact qU (r:=zz X.ov m.output) (by rw[i];simp) e
 ·rw[<-h.xh,<-F.xh];exact R
theorem Z8.more {m2:Rt.Mc} {X1 X2:ZK} (h:Z8 M B ty tail S X X1 m w w1) (d:jz w2 M B ty tail S m2 X2) (j:VM w1 w2 (M::Z4 X1)) (i:vd w1 (Z4 X1) (Z4 X2)):Z8 M B ty tail S X X2 m2 w w2:=by
 refine⟨d,h.vz.trans j ?_,h.grow.trans i h.vz.size,h.lt⟩;intro k hk;rcases zw.mp hk with rfl | hk
 ·exact Or.inl (xB ..)
 ·rcases h.grow k hk with f | f
  ·exact Or.inl (zm _ f)
  ·exact Or.inr f
theorem AA (h:jz w M B ty tail S m X) (hm:dL S m) (hf:qk w BB (Qd fm a1 a2 a3 c1 c2 c3) fm) (R:Rt.Small fm) (j:∀o∈fm.values,G o<=900) (hk:fm.kind=10):Calls Tryz.prog 147 #[H (Q ⟨M,0,Z⟩),L (Qd fm a1 a2 a3 c1 c2 c3)] w (eE M B ty tail S X (Rt.perform S m fm) w):=by
 obtain⟨i0,b7,b6,b5,b4⟩:=yi XL;have W:=((zI w.heap.size w).alloc (zB _) (V (Qd fm a1 a2 a3 c1 c2 c3) 143)).alloc (by simp) (V #[J U 0,J U 0,I Z 0 0] 157);have bR:=qD w (V (Qd fm a1 a2 a3 c1 c2 c3) 143) (V #[J U 0,J U 0,I Z 0 0] 157);have hA:=h.zP W;have b0:=ZY hf W;have HP:=zD (show Rt.perform S m fm=if (Rt.kP S m fm).2=0 then (if 50<=G m.output then Rt.ended m 6 else ⟨0,wrap64 (m.line+1),[Rt.stay m.line,⟨5,0,⟨0,0⟩,0⟩],{ m with output:=m.output++[(Rt.kP S m fm).1] }⟩)else Rt.ended m (Rt.kP S m fm).2 by unfold Rt.perform;simp only;rw[zA (by omega),zA (by omega),zE hk]);have HH:=zD h;have d6:=hm.output;clear h hf hk;go_enter func147,ntmps147;go_wp2_with fail;refine(Ks hA hm b0 R j).mono ?_;rintro e w1 ⟨rfl,a0⟩;have k:=W.trans (a0.mono (B':=w.heap.size) (by simp;omega));have d:=zU bR a0;have h1:=hA.zP a0;clear hA b0 W bR a0;generalize Rt.kP S m fm=v at *;obtain⟨v1,v2⟩:=v;simp only at HP;have c5:=h1.c5;by_cases hv:v2=0
 ·subst hv
  replace HP:=zD (HP.u.trans (zE rfl))
  obtain⟨d5,b8,A⟩:=zK h1.out;by_cases h50:50<=G m.output
  ·replace HP:=zD (HP.u.trans (zE h50))
   have b2:(50:Int)<=(G m.output:Int):=by omega
   obtain⟨r0,r1,r2⟩:=yb d;have z:=zS d;have HF:=zD (fun a b c=>(Z8.start HH.u k).three d (by omega) (by unfold Xe;decide) a b c);rw[A]at c5;clear h1 k d hm j R A h50;go_wp2_with fail;refine zT (v:=L #[J U 6,J U 0,I Z 0 0]) ?_ rfl ⟨_,_,by rw[HP.u];rfl,by rw[HP.u];exact HF.u _ _ _,by rw[HP.u];exact zW _ _ _ _⟩;simp[results,results147,go_sem,r0,r1,r2]
  ·replace HP:=zD (HP.u.trans (zA h50))
   have b2:¬(50:Int)<=(G m.output:Int):=by omega
   have y:=h1.out;have d4:=zQ h1.block;have H1:=zD h1;have b3:=qG (Z8.start HH.u k) d;have H5:=zD A;rw[A]at c5 y;clear h1 k d hm j R A h50;go_wp2_with (at_builtin;refine wpList_append_lies _ rfl _ _ 24 rfl 0 3 i0 _ 1 8 underlying24 b7 b6 b5 b4 rfl (by decide) _ _ _ rfl (y.alloc _) ⟨w1.heap.size,0,Z⟩ 1 1 [J U v1] rfl rfl (cell_one_new _ _ _) (by simp[Value.oneCell']) (by omega) (by unfold maxLen;omega) (by omega) (zo _) (w1.heap.size+1) (by simp) ?_);intro g cap' i x f hat a9;rw[<-H5.u]at f hat;have T:=(zI w1.heap.size w1).alloc (zB _) (V #[J U v1] 3);obtain⟨q1,q2,q3⟩:=H1.u.EW T f v1 (I (Q ⟨g,0,Z⟩) (G m.output+1) cap') (by rw[xR,yB];exact x) (fun g' hg'=>by simp[Value.ownBlock]at hg';subst hg';rcases hat with h | h;exact Or.inl h;exact Or.inr (by omega));obtain⟨a6,d⟩:=b3.u;have a4:∀(N:Nat) (c:Array Value) (t:TypeId),w1.heap[N]?=Q (V c t (0,0))->t≠3->i.heap[N]?=Q (V c t (0,0)):=by
    intro N c t hN ht;rw[f.block N (zX (zQ hN) T.size) (fun e=>by
     obtain⟨c',hc⟩:=yW H1.u.out e.symm;rw[hN]at hc;injection hc with hc;injection hc with _ hc;exact ht hc),T.block N (zQ hN)]
    exact hN
   have O:=a4 M _ _ H1.u.block H1.u.ty.1;have F:=a4 _ _ _ d (by decide);have f0:i.cell? ⟨M,5,Z⟩=Q X.ov:=by have:=zC O 5 (by simp);simpa using this
   have d8:=zS O 5;have b1:M≠w.heap.size+1:=by have:=a6.lt;omega
   have a7:(i.setCell ⟨M,5,Z⟩ (I (Q ⟨g,0,Z⟩) (G m.output+1) cap')).heap[w.heap.size+1]?=Q (V #[J U 0,J U 0,I Z 0 0] 157 (0,0)):=by
    rw[zO i ⟨M,5,Z⟩ _ _ (by show w.heap.size+1≠M;omega)];exact F
   have a5:=a6.more q1 q2 q3;have d9:i.cell? ⟨M,6,Z⟩=Q (J U m.line):=by have:=zC O 6 (by simp);simpa using this
   obtain⟨r0,r1,r2⟩:=yb F;have z:=zS F;have d3:=zQ F;have d7:=zQ O;have hQ:=a5.vz.size;have a8:(i.setCell ⟨M,5,Z⟩ (I (Q ⟨g,0,Z⟩) (G m.output+1) cap')).heap.size=i.heap.size:=by simp[World.setCell]
   have d2:¬w.heap.size+1=i.heap.size:=by omega
   have d1:¬i.heap.size=w.heap.size+1:=by omega
   have d0:¬M=i.heap.size:=by omega
   have c0:¬M=w.heap.size+1:=b1;have b9:¬w.heap.size+1=M:=fun e=>b1 e.symm;have HF:=zD (fun a b c=>And.intro ((a5.three a7 (by omega) (by unfold Xe;decide) a b c).below ((zI _ _).alloc (zB _) (V #[J U 1,J U m.line,J U 0,J U 0,J U 0,J U 5,J U 0,J U 0,J U 0,J U 0] 162))) (eQ 2 _ w.heap.size (w.heap.size+1) #[J U 1,J U m.line,J U 0,J U 0,J U 0,J U 5,J U 0,J U 0,J U 0,J U 0] hQ a b c rfl (by omega)));have HG:=zD (fun a b c:Value=>yb (yR (Km a7 a b c) (V #[J U 1,J U m.line,J U 0,J U 0,J U 0,J U 5,J U 0,J U 0,J U 0,J U 0] 162)));rw[a8]at HF;clear x f hat y a9 q1 q2 q3 a6 d b3 H1 O F a7 a5 a4 T a8;go_wp2_with fail;refine zT (v:=L #[J U 0,J U (wrap64 (m.line+1)),I (Q ⟨i.heap.size,0,Z⟩) 2 2]) ?_ rfl ⟨_,_,by rw[HP.u],by rw[HP.u];exact(HF.u _ _ _).1,by rw[HP.u];exact(HF.u _ _ _).2⟩;have E:=HG.u (J U 0) (J U (wrap64 (m.line+1))) (I (Q ⟨i.heap.size,0,Z⟩) 2 2);revert E;generalize (W3 (i.setCell ⟨M,5,Z⟩ (I (Q ⟨g,0,Z⟩) (G m.output+1) cap')) (w.heap.size+1) (J U 0) (J U (wrap64 (m.line+1))) (I (Q ⟨i.heap.size,0,Z⟩) 2 2)).alloc (V #[J U 1,J U m.line,J U 0,J U 0,J U 0,J U 5,J U 0,J U 0,J U 0,J U 0] 162)=wz;intro E;simp[results,results147,go_sem,E.1,E.2.1,E.2.2]
 ·replace HP:=zD (HP.u.trans (zA hv))
  have bv:(v2 != 0)=D:=by simpa using hv
  obtain⟨r0,r1,r2⟩:=yb d;have z:=zS d;have HF:=zD (fun a b c=>(Z8.start HH.u k).three d (by omega) (by unfold Xe;decide) a b c);clear h1 k d hv hm j R c5;go_wp2_with fail;refine zT (v:=L #[J U v2,J U 0,I Z 0 0]) ?_ rfl ⟨_,_,by rw[HP.u];rfl,by rw[HP.u];exact HF.u _ _ _,by rw[HP.u];exact zW _ _ _ _⟩;simp[results,results147,go_sem,r0,r1,r2]
theorem rm (qo:List Int) (X:ZK) (m m':Rt.Mc) (h:m'.zH=m.zH) (f:m'.values=m.values) (d:m'.output=m.output):rowsOf qo X m'=rowsOf qo X m:=by unfold rowsOf;rw[h,f,d]
theorem Z8.own {M B:Nat} {ty:TypeId} {tail:List Value} {S:Rt.Src} {m m':Rt.Mc} {X X':ZK} {w w':World} (h:Z8 M B ty tail S X X' m w w') (i:Nat) (v:Value) (o:(xC X' m tail).setIfInBounds i v=xC X' m' tail) (j:m'.zH=m.zH) (f:m'.values=m.values) (x:m'.output=m.output):Z8 M B ty tail S X X' m' w (w'.setCell ⟨M,i,Z⟩ v):=by
 have k:=rm S.input X' m m' j f x;have d:=h.mc.step (m':=m') (X':=X') (zB _) rfl (fun _ _ hx _=>hx) i v o (by rw[k];exact h.mc.own) rfl rfl (by rw[j];exact h.mc.fl) (by rw[f];exact h.mc.vl);exact⟨d,h.vz.B5 i v,h.grow,h.lt⟩
theorem QI (h:jz w M B ty tail S m X) (j:w.heap[N]?=Q (V c t (0,0))) (i:V8 M B ty tail S m m' X w.drew w') (f:t≠3/\t≠153/\t≠24):w'.heap[N]?=Q (V c t (0,0)):=by
 have d:w.drew.heap[N]?=Q (V c t (0,0)):=j;exact(i.2.block N (zQ d) (QF (w:=w.drew) (h.zP (zh w)).own d f)).trans d
theorem wo (s:Rt.Q9) {v:Int}:(Rt.jN m s v).taken=m.taken:=by
 unfold Rt.jN;split
 ·split <;> rfl
 ·rfl
structure iJ (M B:Nat) (ty:TypeId) (tail:List Value) (S:Rt.Src) (X:ZK) (m:Rt.Mc) (sp:Rt.Q9) (iv:Int) (w:World) (O:Nat) (wy:World):Prop where
 aC:Z8 M B ty tail S X X (Rt.jN m sp iv) w wy
 J8:wy.heap[O]?=some (.cells #[.int .i64 4,.int .i64 0,.int .i64 sp.line,.int .i64 sp.cell,.int .i64 (Rt.ZL m sp)] 162 (0,0))
 res:wy.heap[w.heap.size+1]?=some (.cells #[.int .i64 0,.int .i64 0,.slice none 0 0] 157 (0,0))
 ne:w.heap.size+1 < O
theorem cutK {Goal:Prop} {F:Nat->World->Prop} {R:Code} {post:Exit->Act->World->Prop} {fr:Nat->Act} (d:(∀(O:Nat) (wy:World),F O wy->Code.wp Tryz.prog R post (fr O) wy)->Goal) (f:∀(O:Nat) (wy:World),F O wy->Code.wp Tryz.prog R post (fr O) wy):Goal:=d f
theorem iJ.one {sp:Rt.Q9} (j:jz w M B ty tail S m X) (h:jz w3 M B ty tail S m X/\Below w.heap.size w w3/\w3.heap[w.heap.size+1]?=Q (V #[J U 0,J U 0,I Z 0 0] 157 (0,0))) (i:V8 M B ty tail S m (Rt.jN m sp iv) X w3.drew w4):iJ M B ty tail S X m sp iv w w4.heap.size (w4.alloc (V #[J U 4,J U 0,J U sp.line,J U sp.cell,J U (Rt.ZL m sp)] 162)):=by
 obtain⟨h,k,o⟩:=h;have f:=QI h o i (by decide);have d:=(zI w4.heap.size w4).alloc (zB _) (V #[J U 4,J U 0,J U sp.line,J U sp.cell,J U (Rt.ZL m sp)] 162);exact⟨((Z8.start j k.drew).put i).below d,zN _ _,zU f d,zQ f⟩
theorem iJ.two {sp:Rt.Q9} {T:Nat} {bt:Array Value} (A:jz w M B ty tail S m X) (i:jz w3 M B ty tail S m X/\Below w.heap.size w w3/\w3.heap[w.heap.size+1]?=Q (V #[J U 0,J U 0,I Z 0 0] 157 (0,0))/\w3.heap[O]?=Q (V #[J U 0,J U 0,J U 0,J U 0,J U 0] 162 (0,0))/\w3.heap[T]?=Q (V bt 160 (0,0))) (D:w.heap.size+1 < O) (j:V8 M B ty tail S m (Rt.jN m sp iv) X w3.drew w4):iJ M B ty tail S X m sp iv w O (((((w4.setCell ⟨O,0,Z⟩ (J U 4)).setCell ⟨O,1,Z⟩ (J U 0)).setCell ⟨O,2,Z⟩ (J U sp.line)).setCell ⟨O,3,Z⟩ (J U sp.cell)).setCell ⟨O,4,Z⟩ (J U (Rt.ZL m sp))):=by
 obtain⟨i,F,G,H,_⟩:=i;have k:=QI i G j (by decide);have h:=QI i H j (by decide);have y:=zf h 0 (J U 4);have n2:=zf y 1 (J U 0);have x:=zf n2 2 (J U sp.line);have o:=zf x 3 (J U sp.cell);have z:=zf o 4 (J U (Rt.ZL m sp));have d:¬Xe 162/\162≠3/\162≠153/\162≠24:=by unfold Xe;decide
 have f:w.heap.size<=O:=by omega
 refine⟨((((((Z8.start A F.drew).put j).aside h f d _ _).aside y f d _ _).aside n2 f d _ _).aside x f d _ _).aside o f d _ _,by simpa using z,?_,D⟩
 repeat rw[zO _ _ _ _ (by show w.heap.size+1≠O;omega)]
 exact k
theorem sD (y:Rt.qS) (a1 a2 a3:Option Addr) (c1 c2 c3:Nat) (h:jz w M B ty tail S m X) (hm:dL S m) (hk:y.kind=11):Calls Tryz.prog 148 #[H (Q ⟨M,0,Z⟩),L (Qd y a1 a2 a3 c1 c2 c3)] w (eE M B ty tail S X (Rt.perform S m y) w):=by
 have d:=((zI w.heap.size w).alloc (zB _) (V (Qd y a1 a2 a3 c1 c2 c3) 143)).alloc (by simp) (V #[J U 0,J U 0,I Z 0 0] 157);have bF:=yR (zN w (V (Qd y a1 a2 a3 c1 c2 c3) 143)) (V #[J U 0,J U 0,I Z 0 0] 157);have bR:=qD w (V (Qd y a1 a2 a3 c1 c2 c3) 143) (V #[J U 0,J U 0,I Z 0 0] 157);have hA:=h.zP d;have HP:=zD (show Rt.perform S m y=if m.taken < 0\/G S.input<=m.taken then Rt.ended m 4 else ⟨0,wrap64 (m.line+1),[Rt.stay m.line,Rt.stored m (Rt.vx S m y.name),⟨6,0,⟨0,0⟩,0⟩],{ Rt.jN m (Rt.vx S m y.name) ((S.input[m.taken.toNat]?).getD 0)with taken:=wrap64 (m.taken+1) }⟩ by unfold Rt.perform;simp only;rw[zA (by omega),zA (by omega),zA (by omega),zE hk]);have HH:=zD h;have g1:=zQ h.block;clear h hk;go_enter func148,ntmps148;go_wp2_with fail;generalize (w.alloc (V (Qd y a1 a2 a3 c1 c2 c3) 143)).alloc (V #[J U 0,J U 0,I Z 0 0] 157)=wA at *;have c4:=hA.c4;have cI:=hA.c1;obtain⟨g4,f7,b6⟩:=zK hA.input;have g7:=hm.input;have k1:=zC bF 1 (by simp);simp at k1;by_cases ht:m.taken < 0\/G S.input<=m.taken
 ·replace HP:=zD (HP.u.trans (zE ht))
  obtain⟨r0,r1,r2⟩:=yb bR;have z:=zS bR;have HA:=qG (Z8.start HH.u d) bR;rw[b6]at cI;clear hA d bF hm bR;have fin:∀(wz:World),Below wA.heap.size wA wz->∀a b c,Z8 M B ty tail S X X m w (W3 wz (w.heap.size+1) a b c):=fun wz hb a b c=>(HA.u.1.below hb).three (zU HA.u.2 hb) (by omega) (by unfold Xe;decide) a b c;have a7:=zD fin;clear fin;by_cases h0:m.taken < 0
  ·have d3:decide (m.taken < 0)=D:=by simpa using h0
   clear ht;go_quiet (fail);go_wp2_with fail;refine zT (v:=L #[J U 4,J U 0,I Z 0 0]) ?_ rfl ⟨_,_,by rw[HP.u];rfl,by rw[HP.u];exact a7.u _ (below_drewN _ _) _ _ _,by rw[HP.u];exact zW _ _ _ _⟩;simp[results,results148,go_sem,r0,r1,r2]
  ·have d3:decide (m.taken < 0)=W:=by simpa using h0
   have f1:(G S.input:Int)<=m.taken:=by omega
   clear ht;go_quiet (fail);go_wp2_with fail;refine zT (v:=L #[J U 4,J U 0,I Z 0 0]) ?_ rfl ⟨_,_,by rw[HP.u];rfl,by rw[HP.u];exact a7.u _ (below_drewN _ _) _ _ _,by rw[HP.u];exact zW _ _ _ _⟩;simp[results,results148,go_sem,r0,r1,r2]
 ·replace HP:=zD (HP.u.trans (zA ht))
  obtain⟨k,hk⟩:=yr (show 0<=m.taken by omega);have a8:k < G S.input:=by omega
  obtain⟨g,g3,a9,_,f8,ca⟩:=yD hA.input (j:=k) (u:=J U S.input[k]) (by simp[xR,a8]);rw[a9]at cI;rw[hk]at c4;have f6:=zD (show (S.input[m.taken.toNat]?).getD 0=S.input[k] by rw[hk];simp[a8]);rw[f6.u]at HP;have d3:decide ((k:Int) < 0)=W:=by simp
  have g2:¬(k:Int) < 0:=by omega
  have f1:¬(G S.input:Int)<=(k:Int):=by omega
  have g9:(k:Int) < (G S.input:Int):=by omega
  have g6:(0:Int)<=(k:Int):=by omega
  have HA:=gN hA d bR bF;have HM:=zD hm;have d7:=zD a9;have d6:=zD hk;have h1:=zD (zJ a8);clear hA d bF hm bR ht b6 a9 hk;generalize S.input[k]=iv at *;go_quiet (fail);go_wp2_with fail;obtain⟨hA,d,bR,bF⟩:=HA.u;refine(fy y.name (hA.zP (below_drewN _ _)) HM.u).mono ?_;rintro e w2 ⟨rfl,b9⟩;have N:Below wA.heap.size wA w2:=(below_drewN wA _).trans b9;clear b9;generalize Rt.vx S m y.name=sp at *;have b8:=(zI w2.heap.size w2).alloc (zB _) (V #[J U sp.line,J U sp.cell] 160);have i:Below wA.heap.size wA (w2.alloc (V #[J U sp.line,J U sp.cell] 160)):=N.trans (b8.mono (B':=wA.heap.size) N.size);have h3:=hA.zP i;have a4:=d.trans (i.mono (B':=w.heap.size) d.size);have a0:=zU bR i;have x1:=cell_later i cI;have x4:=cell_later i c4;have xa:=cell_later i ca;have bT:=zN w2 (V #[J U sp.line,J U sp.cell] 160);have t0:=zC bT 0 (by simp);have t1:=zC bT 1 (by simp);simp only[yQ,yH,zv]at t0 t1;clear hA d bR bF N b8 i cI c4 ca k1 HA;go_wp2_with fail;generalize w2.alloc (V #[J U sp.line,J U sp.cell] 160)=w3 at *;generalize w2.heap.size=T at *;have g5:IntKind.i64.wrap (k:Int)=(k:Int):=by rw[yv,yC _ (by omega)]
  have A:=(zI w3.heap.size w3).alloc (zB _) (V #[J U 0,J U 0,J U 0,J U 0,J U 0] 162);have H3:=XX h3 a4 a0;have h2:=zD bT;have HQ:=DA (h3.zP A) (a4.trans (A.mono (B':=w.heap.size) a4.size)) (zU a0 A) (zN w3 (V #[J U 0,J U 0,J U 0,J U 0,J U 0] 162)) (zU bT A);have c0:¬T=w3.heap.size:=by have:=zQ bT;omega
  have d2:¬M=w3.heap.size:=by have:=zQ h3.block;omega
  have b7:¬g=w3.heap.size:=by
   have h4:=h3.input;rw[d7.u]at h4;have:=(h4.lt g rfl).2;omega
  have d1:¬w.heap.size+1=w3.heap.size:=by have:=zQ a0;omega
  have d0:=zQ bT;have b2:=zQ h3.block;have b0:g < w3.heap.size:=by
   have h4:=h3.input;rw[d7.u]at h4;exact(h4.lt g rfl).2
  have R:=zQ a0;clear h3 a4 a0 bT A;have a6:w.heap.size+1 < w3.heap.size:=R;apply cutK (F:=iJ M B ty tail S X m sp iv w)
  ·intro HT;have f3:=zD HT;clear HT;go_region_with (first | (go_at_call 181;refine(Kv sp iv (H3.u.1.zP (zh _)) HM.u).mono ?_;rintro e w4 ⟨rfl,hp4⟩;have HR:=zD (iJ.one HH.u H3.u hp4);replace hp4:=zD hp4)| (go_at_call 181;refine(Kv sp iv (HQ.u.1.zP (zh _)) HM.u).mono ?_;rintro e w4 ⟨rfl,hp4⟩;obtain⟨y0,y1,y2,y3,y4⟩:=QY (QI HQ.u.1 HQ.u.2.2.2.1 hp4 (by decide));have yz:=zS (QI HQ.u.1 HQ.u.2.2.2.1 hp4 (by decide));have HR:=zD (iJ.two HH.u HQ.u a6 hp4)))
   all_goals
    rename_i hKK;refine hKK _ _ ?_;have b4:=HR.u;revert b4
    first
     | (generalize w4.alloc (V #[J U 4,J U 0,J U sp.line,J U sp.cell,J U (Rt.ZL m sp)] 162)=wy;generalize w4.heap.size=O)
     | (generalize ((((w4.setCell ⟨w3.heap.size,0,Z⟩ (J U 4)).setCell ⟨w3.heap.size,1,Z⟩ (J U 0)).setCell ⟨w3.heap.size,2,Z⟩ (J U sp.line)).setCell ⟨w3.heap.size,3,Z⟩ (J U sp.cell)).setCell ⟨w3.heap.size,4,Z⟩ (J U (Rt.ZL m sp))=wy;generalize w3.heap.size=O)
    intro b4;exact f3.u _ _ b4
  ·intro O wy hR;obtain⟨o,bO,d4,g8⟩:=hR;have c4:=o.mc.c4;rw[wo,d6.u]at c4;have f4:=o.mc.fz 4;have f0:M≠O:=by have:=o.lt;omega
   have d9:M≠w.heap.size+1:=by have:=o.lt;omega
   have f:=o.own (m':={ Rt.jN m sp iv with taken:=wrap64 (m.taken+1) }) 4 (J U (wrap64 (m.taken+1))) (by simp[xC]) rfl rfl rfl;have b5:wrap64 ((k:Int)+1)=(k:Int)+1:=yC _ (by omega);rw[d6.u,b5]at f HP;have d5:=(zO wy ⟨M,4,Z⟩ (J U ((k:Int)+1)) O (xK f0)).trans bO;have x:=(zO wy ⟨M,4,Z⟩ (J U ((k:Int)+1)) _ (xK d9)).trans d4;have f5:=zD (show Rt.stored m sp=⟨4,0,sp,Rt.ZL m sp⟩from rfl);generalize Rt.ZL m sp=J8 at *;obtain⟨p0,p1,p2,p3,p4⟩:=QY d5;have c6:=f.mc.c6;have HL:=zD (fU m sp iv);rw[show ({ Rt.jN m sp iv with taken:=(k:Int)+1 }:Rt.Mc).line=m.line from HL.u]at c6;have d8:=qG f x;clear b5 o bO d4 f x d5 x1 x4 xa t0 t1 c0 d2 b7 d1 d0 b2 b0 R a6;go_wp2_with fail;generalize wy.setCell ⟨M,4,Z⟩ (J U ((k:Int)+1))=w5 at *;clear c4 f4;go_region_held3 (fun w'=>w'.cell? ⟨M,6,Z⟩=Q (J U m.line)/\w'.cell? ⟨O,0,Z⟩=Q (J U 4)/\w'.cell? ⟨O,1,Z⟩=Q (J U 0)/\w'.cell? ⟨O,2,Z⟩=Q (J U sp.line)/\w'.cell? ⟨O,3,Z⟩=Q (J U sp.cell)/\w'.cell? ⟨O,4,Z⟩=Q (J U J8)) (go_keep) (fail);obtain⟨f,x⟩:=d8.u;have b1:=((zI w5.heap.size w5).alloc (zB _) (V #[J U 1,J U m.line,J U 0,J U 0,J U 0,J U 4,J U 0,J U sp.line,J U sp.cell,J U J8,J U 6,J U 0,J U 0,J U 0,J U 0] 162)).drew;have bQ:(w5.alloc (V #[J U 1,J U m.line,J U 0,J U 0,J U 0,J U 4,J U 0,J U sp.line,J U sp.cell,J U J8,J U 6,J U 0,J U 0,J U 0,J U 0] 162)).drew.heap[w5.heap.size]?=_:=zN w5 (V #[J U 1,J U m.line,J U 0,J U 0,J U 0,J U 4,J U 0,J U sp.line,J U sp.cell,J U J8,J U 6,J U 0,J U 0,J U 0,J U 0] 162);have b3:=f.below b1;have a5:=zU x b1;have f2:=b3.mc.c6;rw[show ({ Rt.jN m sp iv with taken:=(k:Int)+1 }:Rt.Mc).line=m.line from HL.u]at f2;have hQ:=f.vz.size;have g0:=zQ bQ;have f9:=zQ x;clear f x b1 d8 c6 p0 p1 p2 p3 p4;generalize (w5.alloc (V #[J U 1,J U m.line,J U 0,J U 0,J U 0,J U 4,J U 0,J U sp.line,J U sp.cell,J U J8,J U 6,J U 0,J U 0,J U 0,J U 0] 162)).drew=w6 at *;generalize w5.heap.size=q at *;obtain⟨r0,r1,r2⟩:=yb a5;have z:=zS a5;have HF:=zD (fun a b c=>And.intro (b3.three a5 (by omega) (by unfold Xe;decide) a b c) (mu 3 bQ (show q≠w.heap.size+1 by omega) hQ a b c rfl (by omega)));clear b3 a5 bQ;go_wp2_with fail;refine zT (v:=L #[J U 0,J U (wrap64 (m.line+1)),I (Q ⟨q,0,Z⟩) 3 3]) ?_ rfl ⟨_,_,by rw[HP.u],by rw[HP.u];exact(HF.u _ _ _).1,by rw[HP.u,f5.u];exact(HF.u _ _ _).2⟩;simp[results,results148,go_sem,r0,r1,r2]
theorem setCell_any (h:jz w M B ty tail S m X) (hm:dL S m) (hf:qk w BB (Qd fm a1 a2 a3 c1 c2 c3) fm) (W:Rt.Small fm) (j:∀o∈fm.values,G o<=900) (hk:fm.kind=9) (d1:G fm.index<=900):Calls Tryz.prog 146 #[H (Q ⟨M,0,Z⟩),L (Qd fm a1 a2 a3 c1 c2 c3)] w (eE M B ty tail S X (Rt.perform S m fm) w):=by
 have a0:=((zI w.heap.size w).alloc (zB _) (V (Qd fm a1 a2 a3 c1 c2 c3) 143)).alloc (by simp) (V #[J U 0,J U 0,I Z 0 0] 157);have bF:=yR (zN w (V (Qd fm a1 a2 a3 c1 c2 c3) 143)) (V #[J U 0,J U 0,I Z 0 0] 157);have bR:=qD w (V (Qd fm a1 a2 a3 c1 c2 c3) 143) (V #[J U 0,J U 0,I Z 0 0] 157);have hA:=h.zP a0;have a9:=ZY hf a0;have HP:=zD (show Rt.perform S m fm=if (Rt.zr S m fm.index).2=0 then (if (Rt.kP S m fm).2=0 then (match Rt.kX S m fm.name (Rt.zr S m fm.index).1 with | none=>Rt.ended m 3 | some s=>⟨0,wrap64 (m.line+1),[Rt.stay m.line,Rt.stored m s],Rt.jN m s (Rt.kP S m fm).1⟩)else Rt.ended m (Rt.kP S m fm).2)else Rt.ended m (Rt.zr S m fm.index).2 by unfold Rt.perform;simp only;rw[zA (by omega),zE hk];rfl);have HH:=zD h;clear h hf hk;go_enter func146,ntmps146;go_wp2_with fail;have hI:(((w.alloc (V (Qd fm a1 a2 a3 c1 c2 c3) 143)).alloc (V #[J U 0,J U 0,I Z 0 0] 157)).ownsRow BB 236 3 (I a2 (G fm.index) c2) (G fm.index) (xX fm.index)):=by
  obtain⟨pv,iv,vv,vs,b5,_,q2,_,_⟩:=a9;have:iv=I a2 (G fm.index) c2:=by simp at b5;exact b5.2.1.symm
  rw[<-this];exact q2
 refine(Ju hA hm hI d1).mono ?_;rintro e w0 ⟨rfl,k⟩;have T:=a0.trans (k.mono (B':=w.heap.size) (by simp;omega));have d:=zU bF k;have A:=zU bR k;have h0:=hA.zP k;have b0:=ZY a9 k;clear hA a9 a0 bF bR k hI;generalize Rt.zr S m fm.index=ix at *;obtain⟨ix1,ix2⟩:=ix;simp only at HP;by_cases hx:ix2=0
 case neg=>
  replace HP:=zD (HP.u.trans (zA hx))
  have bv:(ix2 != 0)=D:=by simpa using hx
  obtain⟨r0,r1,r2⟩:=yb A;have z:=zS A;have HF:=zD (fun a b c=>(Z8.start HH.u T).three A (by omega) (by unfold Xe;decide) a b c);clear h0 T d A hx hm j W b0;go_wp2_with fail;refine zT (v:=L #[J U ix2,J U 0,I Z 0 0]) ?_ rfl ⟨_,_,by rw[HP.u];rfl,by rw[HP.u];exact HF.u _ _ _,by rw[HP.u];exact zW _ _ _ _⟩;simp[results,results146,go_sem,r0,r1,r2]
 subst hx
 replace HP:=zD (HP.u.trans (zE rfl))
 have f0:=zC d 0 (by simp);have f1:=zC d 1 (by simp);have f2:=zC d 2 (by simp);have f3:=zC d 3 (by simp);have f4:=zC d 4 (by simp);have f5:=zC d 5 (by simp);simp only[yQ,yH,zv]at f0 f1 f2 f3 f4 f5;go_wp2_with fail;refine(Ks h0 hm b0 W j).mono ?_;rintro e w1 ⟨rfl,F⟩;have R:=T.trans (F.mono (B':=w.heap.size) T.size);have b4:=zU d F;have y:=zU A F;have k1:=zC b4 1 (by simp);simp at k1;have h1:=h0.zP F;clear h0 b0 T d A F f0 f1 f2 f3 f4 f5;generalize Rt.kP S m fm=v at *;obtain⟨v1,v2⟩:=v;simp only at HP;by_cases hv:v2=0
 ·subst hv
  replace HP:=zD (HP.u.trans (zE rfl))
  go_wp2_with fail;refine(lU fm.name ix1 h1 hm).mono ?_;rintro e w2 ⟨rfl,a5⟩;have N:=R.trans (a5.mono (B':=w.heap.size) R.size);have h2:=h1.zP a5;have f:=zU y a5;clear h1 a5 R b4 y k1;cases hc:Rt.kX S m fm.name ix1 with
  | none=>
   rw[hc]at HP;have d2:=(zI w2.heap.size w2).alloc (zB _) (V #[J U 0,J U 0] 160);have b6:=zQ f;have d7:¬w.heap.size+1=w2.heap.size:=by omega
   have d6:¬w2.heap.size=w.heap.size+1:=by omega
   obtain⟨r0,r1,r2⟩:=yb f;have z:=zS f;have HF:=zD (fun a b c=>((Z8.start HH.u N).three f (by omega) (by unfold Xe;decide) a b c).below ((zI _ _).alloc (zB _) (V #[J U 0,J U 0] 160)));have HG:=zD (fun a b c:Value=>yb (yR (Km f a b c) (V #[J U 0,J U 0] 160)));clear h2 N f hc hm j W d2;simp only[cellR];go_wp2_with fail;refine zT (v:=L #[J U 3,J U 0,I Z 0 0]) ?_ rfl ⟨_,_,by rw[HP.u];rfl,by rw[HP.u];exact HF.u _ _ _,by rw[HP.u];exact zW _ _ _ _⟩;have E:=HG.u (J U 3) (J U 0) (I Z 0 0);revert E;generalize (W3 w2 (w.heap.size+1) (J U 3) (J U 0) (I Z 0 0)).alloc (V #[J U 0,J U 0] 160)=wz;intro E;simp[results,results146,go_sem,E.1,E.2.1,E.2.2]
  | some sp=>
  rw[hc]at HP;clear hc;simp only[cellR];have a4:=(zI w2.heap.size w2).alloc (zB _) (V #[J U sp.line,J U sp.cell] 160);have h3:=h2.zP a4;have b7:=N.trans (a4.mono (B':=w.heap.size) N.size);have a7:=zU f a4;have d4:=zN w2 (V #[J U sp.line,J U sp.cell] 160);clear h2 a4 N f;go_wp2_with fail;refine(Kv sp v1 h3 hm).mono ?_;rintro e w4 ⟨rfl,a8⟩;have b8:=(Z8.start HH.u b7).put a8;have b9:=(a8.2.block _ (zQ a7) (QF h3.own a7 (by decide))).trans a7;clear h3 b7 a7 d4 a8;have d5:=zD (show Rt.stored m sp=⟨4,0,sp,Rt.ZL m sp⟩from rfl);generalize Rt.ZL m sp=J8 at *;have b2:=(zI w4.heap.size w4).alloc (zB _) (V #[J U 4,J U 0,J U sp.line,J U sp.cell,J U J8] 162);have i:=b8.below b2;have x:=zU b9 b2;have c0:=zN w4 (V #[J U 4,J U 0,J U sp.line,J U sp.cell,J U J8] 162);have c6:=i.mc.c6;have HL:=zD (show (Rt.jN m sp v1).line=m.line from fU m sp v1);rw[HL.u]at c6;have d0:=qG i x;obtain⟨p0,p1,p2,p3,p4⟩:=QY c0;clear b8 i b9 x b2 c0;go_wp2_with fail;generalize w4.alloc (V #[J U 4,J U 0,J U sp.line,J U sp.cell,J U J8] 162)=w5 at *;generalize w4.heap.size=O at *;go_region_held3 (fun w'=>w'.cell? ⟨M,6,Z⟩=Q (J U m.line)/\w'.cell? ⟨O,0,Z⟩=Q (J U 4)/\w'.cell? ⟨O,1,Z⟩=Q (J U 0)/\w'.cell? ⟨O,2,Z⟩=Q (J U sp.line)/\w'.cell? ⟨O,3,Z⟩=Q (J U sp.cell)/\w'.cell? ⟨O,4,Z⟩=Q (J U J8)) (go_keep) (fail);obtain⟨i,x⟩:=d0.u;have b1:=((zI w5.heap.size w5).alloc (zB _) (V #[J U 1,J U m.line,J U 0,J U 0,J U 0,J U 4,J U 0,J U sp.line,J U sp.cell,J U J8] 162)).drew;have bQ:(w5.alloc (V #[J U 1,J U m.line,J U 0,J U 0,J U 0,J U 4,J U 0,J U sp.line,J U sp.cell,J U J8] 162)).drew.heap[w5.heap.size]?=_:=zN w5 (V #[J U 1,J U m.line,J U 0,J U 0,J U 0,J U 4,J U 0,J U sp.line,J U sp.cell,J U J8] 162);have b3:=i.below b1;have a6:=zU x b1;have d3:=b3.mc.c6;rw[HL.u]at d3;have hQ:=i.vz.size;have d8:=zQ bQ;have b6:=zQ x;clear i x b1 d0 c6 p0 p1 p2 p3 p4;generalize (w5.alloc (V #[J U 1,J U m.line,J U 0,J U 0,J U 0,J U 4,J U 0,J U sp.line,J U sp.cell,J U J8] 162)).drew=w6 at *;generalize w5.heap.size=q at *;obtain⟨r0,r1,r2⟩:=yb a6;have z:=zS a6;have HF:=zD (fun a b c=>And.intro (b3.three a6 (by omega) (by unfold Xe;decide) a b c) (mu 2 bQ (show q≠w.heap.size+1 by omega) hQ a b c rfl (by omega)));clear b3 a6 bQ;go_wp2_with fail;refine zT (v:=L #[J U 0,J U (wrap64 (m.line+1)),I (Q ⟨q,0,Z⟩) 2 2]) ?_ rfl ⟨_,_,by rw[HP.u],by rw[HP.u];exact(HF.u _ _ _).1,by rw[HP.u,d5.u];exact(HF.u _ _ _).2⟩;simp[results,results146,go_sem,r0,r1,r2]
 ·replace HP:=zD (HP.u.trans (zA hv))
  have bv:(v2 != 0)=D:=by simpa using hv
  obtain⟨r0,r1,r2⟩:=yb y;have z:=zS y;have HF:=zD (fun a b c=>(Z8.start HH.u R).three y (by omega) (by unfold Xe;decide) a b c);clear h1 R b4 y k1 hv hm j W;go_wp2_with fail;refine zT (v:=L #[J U v2,J U 0,I Z 0 0]) ?_ rfl ⟨_,_,by rw[HP.u];rfl,by rw[HP.u];exact HF.u _ _ _,by rw[HP.u];exact zW _ _ _ _⟩;simp[results,results146,go_sem,r0,r1,r2]
theorem Z8.from (i:jz w M B ty tail S m X) (f:Below w.heap.size w w1) (h:Z8 M B ty tail S X X' m' w1 w'):Z8 M B ty tail S X X' m' w w':=
 ⟨h.mc,(VM.jQ _ f).trans h.vz (vd.refl _ _),fun k hk=>by rcases h.grow k hk with d | d;exact Or.inl d;exact Or.inr (zi f.size d),zQ i.block⟩
theorem pK (h:jz w M B ty tail S m X) (y:G m.zH < 2):Calls Tryz.prog 151 #[H (Q ⟨M,0,Z⟩)] w (eE M B ty tail S X (Rt.ended m 1) w):=by
 have k:=h.c2;obtain⟨j,i,d⟩:=zK h.zH;rw[d]at k;have o:=zD h;have f:=zQ h.block;generalize (G m.zH)=n at *;go_enter func151,ntmps151;go_wp2_with fail;have x:=zD ((Z8.start o.u ((zI w.heap.size w).alloc (zB _) (V #[J U 1,J U 0,I Z 0 0] 157))));have E:=yb (zN w (V #[J U 1,J U 0,I Z 0 0] 157));refine zT (v:=L #[J U 1,J U 0,I Z 0 0]) ?_ rfl ⟨_,_,rfl,x.u,zW _ _ _ _⟩;revert E;generalize w.alloc (V #[J U 1,J U 0,I Z 0 0] 157)=wz;intro E;simp[results,results151,go_sem,E.1,E.2.1,E.2.2]
theorem Z8.keeps (i:jz w M B ty tail S m X) (h:Z8 M B ty tail S X X' m' w w') (f:w.heap[N]?=Q (V c t (0,0))) (d:N≠M) (j:t≠3/\t≠153/\t≠24):w'.heap[N]?=Q (V c t (0,0)):=by
 refine(h.vz.block N (zQ f) (fun hk=>?_)).trans f;rcases zw.mp hk with hk | hk
 ·exact d hk
 ·rw[<-i.xh]at hk;exact QF i.own f j hk
theorem eE.held {o:Rt.Out} {rv:Value} (d:jz w M B ty tail S m X) (h:Below w.heap.size w w1) (k:w1.heap[R]?=Q (V #[v0,v1,v2] 157 (0,0))) (f:w.heap.size<=R) (j:Z8 M B ty tail S X X' o.m w1 w4) (i:w4.ownsRow w1.heap.size 162 5 rv (G o.YU) (xE o.YU)):w4.heap[R]?=Q (V #[v0,v1,v2] 157 (0,0))/\∀a b c,eE M B ty tail S X o w (T (L #[J U o.fin,J U o.next,rv])) (W3 w4 R a b c):=by
 have y:=zQ d.block;have x:=Z8.keeps (d.zP h) j k (by omega) (by decide);refine⟨x,fun a b c=>⟨rv,X',rfl,(Z8.from d h j).three x f (by unfold Xe;decide) a b c,?_⟩⟩;refine yP (yn i h.size) (fun g hg=>?_);have:=(i.lt g hg).1;have:=zQ k;exact iF (by omega)
def Gu (M B:Nat) (ty:TypeId) (tail:List Value) (S:Rt.Src) (X:ZK) (m:Rt.Mc) (w:World) (e:Ending) (w':World):Prop:=
 ∃rv X',e=T rv/\Z8 M B ty tail S X X' (Rt.qd S m).1 w w'/\w'.ownsRow w.heap.size 162 5 rv (Rt.qd S m).2.length (xE (Rt.qd S m).2)
theorem iZ (S:Rt.Src) (m:Rt.Mc) (f:Rt.qS) (h:(Rt.perform S m f).fin≠0):(Rt.perform S m f).m=m:=by
 unfold Rt.perform at h ⊢;simp only at h ⊢
 repeat' split at h
 all_goals first | rfl | exact absurd rfl h | skip
 all_goals simp_all [Rt.ended]
theorem Vf {x:Int}:-9223372036854775808<=wrap64 x/\wrap64 x<=9223372036854775807:=by unfold wrap64;omega
theorem iW (S:Rt.Src) (m:Rt.Mc) (f:Rt.qS):-9223372036854775808<=(Rt.perform S m f).next/\(Rt.perform S m f).next<=9223372036854775807:=by
 have d:(-9223372036854775808:Int)<=0/\(0:Int)<=9223372036854775807:=by omega
 unfold Rt.perform;simp only
 repeat' split
 all_goals first | exact d | exact Vf | skip
 all_goals
  unfold Rt.ky;split
  all_goals exact Vf
theorem lH (n:Nat) (w:World) (B:Nat) (cs:Array Value) (f:B<=w.heap.size) (d:cs.size=n*5) (h:n<=1000):(w.alloc (V cs 162)).ownsRow B 162 5 (I (Q ⟨w.heap.size,0,Z⟩) n n) n cs.toList:=by
 refine⟨by simp[d],Or.inr ⟨w.heap.size,n,cs,rfl,f,zN w _,zB _,by unfold maxLen;omega,d,?_⟩⟩;exact yw (by simp[d])
theorem cutL {Goal:Prop} {F:Nat->Option Addr->Option Addr->Option Addr->Option Addr->Nat->Nat->Nat->Nat->World->Prop} {R:Code} {post:Exit->Act->World->Prop} {fr:Nat->Option Addr->Option Addr->Option Addr->Option Addr->Nat->Nat->Nat->Nat->Act} (d:(∀O a0 a1 a2 a3 c0 c1 c2 c3 wy,F O a0 a1 a2 a3 c0 c1 c2 c3 wy->Code.wp Tryz.prog R post (fr O a0 a1 a2 a3 c0 c1 c2 c3) wy)->Goal) (f:∀O a0 a1 a2 a3 c0 c1 c2 c3 wy,F O a0 a1 a2 a3 c0 c1 c2 c3 wy->Code.wp Tryz.prog R post (fr O a0 a1 a2 a3 c0 c1 c2 c3) wy):Goal:=d f
structure iH (B:Nat) (fm:Rt.qS) (w:World) (O:Nat) (a1 a2 a3:Option Addr) (c1 c2 c3:Nat) (wy:World):Prop where
 below:Below w.heap.size w wy
 form:wy.heap[O]?=some (.cells (Qd fm a1 a2 a3 c1 c2 c3) 143 (0,0))
 fv:qk wy B (Qd fm a1 a2 a3 c1 c2 c3) fm
 le:w.heap.size<=O
theorem iH.one (f:Below w.heap.size w w1) (h:qk w1 B (Qd fm a1 a2 a3 c1 c2 c3) fm):iH B fm w w1.heap.size a1 a2 a3 c1 c2 c3 (w1.alloc (V (Qd fm a1 a2 a3 c1 c2 c3) 143)):=by
 have d:=(zI w1.heap.size w1).alloc (zB _) (V (Qd fm a1 a2 a3 c1 c2 c3) 143);exact⟨f.trans (d.mono (B':=w.heap.size) f.size),zN _ _,ZY h d,f.size⟩
theorem iH.two (i:Below w.heap.size w w1) (f:w1.heap[O]?=Q (V #[v0,v1,v2,v3,v4,v5] 143 (0,0))) (h:qk w1 B (Qd fm a1 a2 a3 c1 c2 c3) fm) (d:w.heap.size<=O):iH B fm w O a1 a2 a3 c1 c2 c3 (W6 w1 O (J U fm.kind) (.string fm.name) (J U fm.cells) (I a1 (G fm.params) c1) (I a2 (G fm.index) c2) (I a3 (G fm.values) c3)):=by
 refine⟨YI i d _ _ _ _ _ _,?_,?_,d⟩
 ·have:=zf (zf (zf (zf (zf (zf f 0 (J U fm.kind)) 1 (.string fm.name)) 2 (J U fm.cells)) 3 (I a1 (G fm.params) c1)) 4 (I a2 (G fm.index) c2)) 5 (I a3 (G fm.values) c3);simpa using this
 ·exact Vc h f _ _ _ _ _ _
theorem En {zL:List Rt.PL} (h:vu w P B zL lk lv cs) (d:G zL<=101) (f:mX zL lk):Calls Tryz.prog 88 #[H (Q ⟨P,0,Z⟩)] w fun e w'=>e=T (J U (Rt.goOn zL lk 102 (wrap64 (Rt.xb zL Rt.xP+1))))/\Below w.heap.size w w':=by
 go_enter func88,ntmps88;go_wp2_with fail;refine(G3 Rt.xP h.v d).mono ?_;rintro e w1 ⟨rfl,rfl⟩;go_wp2_with fail;refine(pW _ h d f (Vf)).mono ?_;rintro e w2 ⟨rfl,i⟩;have j:=zD i;clear i h;go_wp2;go_ret;exact⟨rfl,j.u⟩
theorem wG (fm:Rt.qS) (a1 a2 a3:Option Addr) (c1 c2 c3:Nat) (hc:fm.cells<=1000):Calls Tryz.prog 144 #[L (Qd fm a1 a2 a3 c1 c2 c3)] w fun e w'=>Below w.heap.size w w'/\∃rv,e=T rv/\w'.ownsRow w.heap.size 3 1 rv (Rt.ji fm).length (xR (Rt.ji fm)):=by
 obtain⟨i0,H,G,F,A⟩:=yi XL;obtain⟨n,z⟩:∃n:Int,n=if fm.kind=1 then 1 else fm.cells:=⟨_,rfl⟩
 have HZ:=zD (show Rt.ji fm=List.replicate n.toNat 0 by rw[z];unfold Rt.ji;split <;> rfl);have a0:n<=1000:=by rw[z];split <;> omega
 have hb0:=(zI w.heap.size w).alloc (zB _) (V (Qd fm a1 a2 a3 c1 c2 c3) 143);generalize Rt.ji fm=zs at *;by_cases hk:fm.kind=1
 ·have O:(fm.kind==1)=D:=by simpa using hk
  rw[zE hk]at z;subst z;clear hk;go_enter func144,ntmps144;go_wp2_with fail;go_loopw [4,5] (fun v i wr=>∃k:Nat,(k:Int)<=max (1:Int) 0/\i=J U k/\wr.ownsRow w.heap.size 3 1 v k (xR (List.replicate k 0))/\Below w.heap.size w wr)
   (fun _ i _=>(1:Int).toNat+1-(intOf i).toNat)
  case atStart=>exact⟨0,by omega,rfl,zW _ _ _ _,hb0⟩
  case round=>
   obtain⟨k,hk,rfl,d,j⟩:=hrel;have y:=j.size;obtain⟨R,I,rfl⟩:=zK d;clear hb0;by_cases hlt:(k:Int) < (1:Int)
   ·go_wp2_with (at_builtin;refine xQ _ rfl _ _ 24 rfl w.heap.size 3 i0 _ 1 8 underlying24 H G F A rfl (by decide) _ _ _ rfl (d.alloc _) ⟨_,0,Z⟩ 1 1 [J U 0] rfl rfl (cell_one_new _ _ _) ?c2 ?c3 ?c4 ?c5 ?_)
    case c2=>intro u hu;simp at hu;rcases hu with rfl;rfl
    case c3=>unfold maxLen;omega
    case c4=>omega
    case c5=>simp;omega
    intro v' w3 f h _;have o:=qY j y d h;have x:=qG f o;clear f o h d j;go_wp2;go_roundw
    ·obtain⟨N,M⟩:=x.u;exact⟨k+1,by omega,by go_num,by rw[List.replicate_succ',xR,yB];exact N,M⟩
    ·simp[intOf];omega
   ·have HE:Hd (zs=List.replicate k 0):=zD (by rw[HZ.u];congr 1;omega);have x:=qG d j;clear d j;go_wp2;go_ret;exact⟨x.u.2,_,rfl,by rw[HE.u,qN];exact x.u.1⟩
 ·have O:(fm.kind==1)=W:=by simpa using hk
  rw[zA hk]at z;subst z;clear hk;go_enter func144,ntmps144;go_wp2_with fail;go_loopw [4,5] (fun v i wr=>∃k:Nat,(k:Int)<=max fm.cells 0/\i=J U k/\wr.ownsRow w.heap.size 3 1 v k (xR (List.replicate k 0))/\Below w.heap.size w wr)
   (fun _ i _=>fm.cells.toNat+1-(intOf i).toNat)
  case atStart=>exact⟨0,by omega,rfl,zW _ _ _ _,hb0⟩
  case round=>
   obtain⟨k,hk,rfl,d,j⟩:=hrel;have y:=j.size;obtain⟨R,I,rfl⟩:=zK d;clear hb0;by_cases hlt:(k:Int) < fm.cells
   ·go_wp2_with (at_builtin;refine xQ _ rfl _ _ 24 rfl w.heap.size 3 i0 _ 1 8 underlying24 H G F A rfl (by decide) _ _ _ rfl (d.alloc _) ⟨_,0,Z⟩ 1 1 [J U 0] rfl rfl (cell_one_new _ _ _) ?c2 ?c3 ?c4 ?c5 ?_)
    case c2=>intro u hu;simp at hu;rcases hu with rfl;rfl
    case c3=>unfold maxLen;omega
    case c4=>omega
    case c5=>simp;omega
    intro v' w3 f h _;have o:=qY j y d h;have x:=qG f o;clear f o h d j;go_wp2;go_roundw
    ·obtain⟨N,M⟩:=x.u;exact⟨k+1,by omega,by go_num,by rw[List.replicate_succ',xR,yB];exact N,M⟩
    ·simp[intOf];omega
   ·have HE:Hd (zs=List.replicate k 0):=zD (by rw[HZ.u];congr 1;omega);have x:=qG d j;clear d j;go_wp2;go_ret;exact⟨x.u.2,_,rfl,by rw[HE.u,qN];exact x.u.1⟩
namespace Rt
def jK (p:PL):PL:={ p with yY:=[] }
end Rt
theorem vu.setT {acc:List Rt.PL} {p:Rt.PL} {r:List Rt.PL} {g cap:Nat} (h:vu w P B (acc++p::r) lk (I (Q ⟨g,0,Z⟩) n cap) cs) (hP:P≠g) (M:n=(acc++p::r).length):∃cs',vu (w.setCell ⟨g,G acc*12,Z⟩ (I Z 0 0)) P B (acc++Rt.jK p::r) lk (I (Q ⟨g,0,Z⟩) n cap) cs':=by
 obtain⟨T,c,R,A,hl,hA,O,hC⟩:=h.lines.part;have d:∀k,k≠g->(w.setCell ⟨g,G acc*12,Z⟩ (I Z 0 0)).heap[k]?=w.heap[k]?:=fun k hk=>zO w ⟨g,G acc*12,Z⟩ _ k hk;have H:Qc w (w.setCell ⟨g,G acc*12,Z⟩ (I Z 0 0)) B B:=by
  intro ty J n' v xs o L;have y:=Ys L h.own o;exact yP L (fun g' hg'=>d g' (fun e=>y g' hg' (by rw[e];rfl)))
 have N:=O.len;obtain⟨tv,fv,V,U,D,h1,h2⟩:=O;have F:Kq w B (Rt.jK p) (c.set 0 (I Z 0 0)):=by
  obtain⟨pv,iv,vv,W,z,hr⟩:=h2;subst z;subst D;exact⟨I Z 0 0,_,V,U,rfl,zW _ _ _ _,⟨pv,iv,vv,W,rfl,hr⟩⟩
 refine⟨T++c.set 0 (I Z 0 0)::R,⟨?_,?_,?_,ja.join _ _ _ _ _ _ (H.lines _ _ hA) (H.line F) (H.lines _ _ hC),?_,?_⟩⟩
 ·have:=h.lt;simpa[World.setCell] using this
 ·rw[xG (a:=⟨P,0,Z⟩) (d P hP)];exact h.cell
 ·have f:=h.own;rw[<-M]at f;have j:cs.flatten=T.flatten++c++R.flatten:=by rw[A];simp
  rw[j]at f;have:=jP f 0 (I Z 0 0) (by omega);rw[hl]at this;rw[show (acc++Rt.jK p::r).length=n by rw[M];simp];simpa using this
 ·intro g' n' cap' e i x hx;injection e with j e2 e3;injection j with j;injection j with j;subst j;obtain⟨q1,q2⟩:=h.gE g n cap rfl i x hx;rw[yy (by omega),yy (by omega)];exact⟨q1,q2⟩
 ·rw[h.len];simp
theorem DL {zL:List Rt.PL} (h:vu w P B zL lk lv cs) (D:lv.ownBlock≠Q P) (V:G zL<=101):Calls Tryz.prog 87 #[H (Q ⟨P,0,Z⟩)] w fun e w'=>e=T (E #[])/\(∃cs',vu w' P B (zL.map Rt.jK) lk lv cs')/\w.grownBy w' lv.ownBlock:=by
 go_enter func87,ntmps87;go_wp2_with fail;go_loopw [2] (fun i wr=>∃(k:Nat) (cs':List (List Value)),k<=G zL/\i=J U k/\vu wr P B ((zL.take k).map Rt.jK++zL.drop k) lk lv cs'/\w.grownBy wr lv.ownBlock)
  (fun i _=>G zL+1-(intOf i).toNat)
 case atStart=>exact⟨0,cs,zo _,rfl,by simpa using h,⟨rfl,rfl,rfl,zB _,fun _ _ _=>rfl⟩⟩
 case round=>
  obtain⟨k,cs',hk,rfl,d,x⟩:=hrel;have M:((zL.take k).map Rt.jK++zL.drop k).length=G zL:=by simp;omega
  obtain⟨a5,a4,f,cP⟩:=d.v.Q3;rw[M]at f cP;by_cases hlt:k < G zL
  ·have F:(k:Int) < (G zL:Int):=by omega
   have O:(zL.take k).map Rt.jK++zL.drop k=(zL.take k).map Rt.jK++zL[k]::zL.drop (k+1):=by rw[zZ hlt]
   have A:(zL.take (k+1)).map Rt.jK++zL.drop (k+1)=(zL.take k).map Rt.jK++Rt.jK zL[k]::zL.drop (k+1):=by
    rw[kI,zJ hlt,yB,yK];rfl
   rw[O]at d;have z:((zL.take k).map Rt.jK).length=k:=by simp;omega
   obtain⟨g,cap,a0,a1,a2,a3,k0,k1,k2,k3,xe,xf,y,W,⟨t0,-⟩,⟨f0,-⟩,-⟩:=d.v.get;rw[f]at y;injection y with e1 e2 e3;clear e2;subst e1 e3;rw[z]at t0 f0;have L:P≠g:=by rw[f]at D;intro e;exact D (by rw[e];rfl)
   have o:G zL=((zL.take k).map Rt.jK++zL[k]::zL.drop (k+1)).length:=by rw[<-O,M]
   have j:=(f▸d).setT L o;rw[z,<-A,<-f]at j;have N:=qG j (gQ x (by rw[f];exact lF wr ⟨g,k*12,Z⟩ (I Z 0 0)));clear d x j O A M z o f L;generalize zL[k].yY.length=tl at *;go_wp2;go_roundw
   ·obtain⟨⟨R,q1⟩,q2⟩:=N.u;exact⟨k+1,R,by omega,by go_num,q1,q2⟩
   ·simp[intOf];omega
  ·have F:¬(k:Int) < (G zL:Int):=by omega
   have he:(zL.take k).map Rt.jK++zL.drop k=zL.map Rt.jK:=by rw[yw (by omega),zp (by omega),yX]
   rw[he]at d;have N:=qG d x;clear d x he f M;go_wp2;go_end0;exact⟨rfl,⟨_,N.u.1⟩,N.u.2⟩
theorem jz.D1 {wy:World} (h:jz w M B ty tail S m X) (z:Below w.heap.size w wx) (i:Below wx.heap.size wx wy) (cv:Value) (zs:List Int) (J:wx.ownsRow w.heap.size 3 1 cv (G zs) (xR zs)) (y:wy.grownBy w1 X.vv.ownBlock) (d:Value) (I:w1.ownsRow 0 24 1 d (G m.values+1) (X.YR++[cv])) (a4:∀g,d.ownBlock=Q g->X.vv.ownBlock=Q g\/wx.heap.size<=g):jz (w1.setCell ⟨M,3,Z⟩ d) M B ty tail S { m with values:=m.values++[zs] } { X with vv:=d,YR:=X.YR++[cv] }/\VM w (w1.setCell ⟨M,3,Z⟩ d) (M::Z4 X)/\vd w (Z4 X) (Z4 { X with vv:=d,YR:=X.YR++[cv] }):=by
 have H:=h.VH;have N:∀k,k < wx.heap.size->X.vv.ownBlock≠Q k->w1.heap[k]?=wx.heap[k]?:=fun k hk hv=>(y.block k (zX hk i.size) (xK hv)).trans (i.block k hk);have f:∀k,k < w.heap.size->X.vv.ownBlock≠Q k->w1.heap[k]?=w.heap[k]?:=fun k hk hv=>(N k (zX hk z.size) hv).trans (z.block k hk);have D:∀g,X.vv.ownBlock=Q g->∃c,w.heap[g]?=Q (V c 24 (0,0)):=fun g y=>yW H y;have R:X.vv.ownBlock≠Q M:=by
  intro e;obtain⟨c,o⟩:=D M e;rw[h.block]at o;injection o with o;injection o with _ o;exact h.ty.2.2.1 o
 have hk:∀(k:Nat) (x:Obj),w.heap[k]?=Q x->(∃c t,x=Obj.cells c t (0,0)/\Xe t)->w1.heap[k]?=Q x:=by
  intro k x W T;rw[f k (zQ W) (fun e=>by
   obtain⟨c,o⟩:=D k e;rw[W]at o;injection o with o;obtain⟨c',t',U,T⟩:=T;rw[o]at U;injection U with _ U;rw[<-U]at T;exact absurd T (by unfold Xe;decide))]
  exact W
 have F:rowsOf S.input X m=[zz X.iv S.input,⟨153,2,X.fv,G m.zH,fCells X.xg m.zH⟩]++⟨24,1,X.vv,G m.values,X.YR⟩::([zz X.ov m.output]++(List.zipWith zz X.xg (m.zH.map Rt.Fm.params)++List.zipWith zz X.YR m.values)):=rfl;have a2:=h.own.zP z;have a1:Own wx (rowsOf S.input X m++zz cv zs::[]):=by
  refine Own.add (A:=rowsOf S.input X m) (B:=[]) (by rw[yX];exact a2) (vr J) (fun g y hm=>?_);rw[yX]at hm;have h1:=h.own.lt g hm;have h2:=(J.lt g y).1;omega
 have a0:Own wx ([zz X.iv S.input,⟨153,2,X.fv,G m.zH,fCells X.xg m.zH⟩]++⟨24,1,X.vv,G m.values,X.YR⟩::([zz X.ov m.output]++(List.zipWith zz X.xg (m.zH.map Rt.Fm.params)++List.zipWith zz X.YR m.values)++[zz cv zs])):=a1;obtain⟨o1,o2⟩:=Own.swap (w':=w1) a0 (r':=⟨24,1,d,G m.values+1,X.YR++[cv]⟩) N I a4;have hz:List.zipWith zz (X.YR++[cv]) (m.values++[zs])=List.zipWith zz X.YR m.values++[zz cv zs]:=by
  rw[kN h.vl];rfl
 have j:rowsOf S.input { X with vv:=d,YR:=X.YR++[cv] } { m with values:=m.values++[zs] }=[zz X.iv S.input,⟨153,2,X.fv,G m.zH,fCells X.xg m.zH⟩]++⟨24,1,d,G m.values+1,X.YR++[cv]⟩::([zz X.ov m.output]++(List.zipWith zz X.xg (m.zH.map Rt.Fm.params)++List.zipWith zz X.YR m.values)++[zz cv zs]):=by
  unfold rowsOf;simp only[hz,ze,yl,yK,yF,xN]
 have L:=h.step (w1:=w1) (m':={ m with values:=m.values++[zs] }) (X':={ X with vv:=d,YR:=X.YR++[cv] }) (zi (zi z.size i.size) y.size) (f M (zQ h.block) R) hk 3 d (by simp[xC]) (by rw[j];exact o1) rfl rfl h.fl (by simp[h.vl]);refine⟨L,?_,?_⟩
 ·refine VM.B5 ⟨y.os.trans (i.os.trans z.os),y.tape.trans (i.tape.trans z.tape),y.output.trans (i.output.trans z.output),zi (zi z.size i.size) y.size,fun k hk2 J=>f k hk2 (fun e=>J (zm _ ?_))⟩ _ _;rw[<-h.xh];exact qU (r:=⟨24,1,X.vv,G m.values,X.YR⟩) (by rw[F];simp) e
 ·rw[<-h.xh,<-L.xh,j];intro k a3;have hk4:=o2 k a3;rcases hk4 with hk4 | hk4
  ·have O:k∈Go.Proofs.YthleadfkfnnadaaGreat.xh (rowsOf S.input X m++[zz cv zs]):=hk4
   replace hk4:=O
   rw[jd]at hk4;rcases zd.mp hk4 with hk5 | hk5
   ·exact Or.inl hk5
   ·refine Or.inr ?_;rw[ka]at hk5;cases e:(zz cv zs).v.ownBlock with
    | none=>rw[e]at hk5;simp[Go.Proofs.YthleadfkfnnadaaGreat.xh]at hk5
    | some g=>
     rw[e]at hk5;rcases zw.mp hk5 with rfl | hk5
     ·exact(J.lt _ e).1
     ·simp[Go.Proofs.YthleadfkfnnadaaGreat.xh]at hk5
  ·exact Or.inr (zi z.size hk4)
theorem cj:(Tryz.prog.info? 24).map (fun i=>(i.zero,i.size,i.bytes))=Q (Q (I Z 0 0),1,24):=by kernel_rfl
theorem py (h:jz w M B ty tail S m X) (hv:m.values=[]) (c0:G S.zL<=101) (D:∀p∈S.zL,p.form.cells<=1000):Calls Tryz.prog 89 #[H (Q ⟨M,0,Z⟩)] w fun e w'=>e=T (E #[])/\∃X',Z8 M B ty tail S X X' { m with values:=S.zL.map (fun p=>Rt.ji p.form) } w w':=by
 obtain⟨i0,b3,b0,a9,a8⟩:=yi cj;go_enter func89,ntmps89;go_wp2_with fail;go_loopw [2,3] (fun i _ wr=>∃(k:Nat) (X':ZK),k<=G S.zL/\i=J U k/\Z8 M B ty tail S X X' { m with values:=(S.zL.take k).map (fun p=>Rt.ji p.form) } w wr)
  (fun i _ _=>G S.zL+1-(intOf i).toNat)
 case atStart=>exact⟨0,X,zo _,rfl,by rw[List.take_zero,Ye,<-hv];exact Z8.start h (zI _ _)⟩
 case round=>
  obtain⟨k,X',hk,rfl,j⟩:=hrel;obtain⟨d5,d1,b2,cP⟩:=j.mc.prog.v.Q3;by_cases hlt:k < G S.zL
  ·have a4:(k:Int) < (G S.zL:Int):=by omega
   have a5:(S.zL.take k).length=k:=by simp;omega
   have W:=j.mc.prog;rw[KL hlt]at W;obtain⟨g,cap,a0,a1,a2,a3,k0,k1,k2,k3,xe,xf,A,d0,⟨-,t1,t2,t3,t4,t5,t6,-⟩,-,-⟩:=W.v.get;rw[b2]at A;injection A with e1 e2 e3;clear e2;subst e1 e3;rw[a5]at t1 t2 t3 t4 t5 t6;have b4:=D _ (zj hlt);have HT:=zD (show (S.zL.take (k+1)).map (fun p=>Rt.ji p.form)=(S.zL.take k).map (fun p=>Rt.ji p.form)++[Rt.ji (S.zL[k]).form] by rw[kI,zJ hlt,yB];rfl);have O:((S.zL.take k).map (fun p=>Rt.ji p.form)).length=k:=by rw[qR,a5]
   have c3:=j.mc.c3;obtain⟨d2,b8,F⟩:=zK j.mc.VH;rw[O]at F;rw[F]at c3;have HA:=zD j;have HV:=zD F;have HL:=zD O;generalize S.zL[k]=p at *;go_wp2_with fail;refine(wG p.form a1 a2 a3 k1 k2 k3 b4).mono ?_;rintro e w2 ⟨f,rv,rfl,R⟩;have d4:=cell_later f c3;have z:=yG HA.u.mc.VH f;rw[HV.u,HL.u]at z;have a6:=zQ (zU HA.u.mc.block f);obtain⟨N,x,y⟩:=zK R;have b6:=zD R;have b7:=zD f;rw[y];go_wp2_with (at_builtin;refine wpList_append_lies _ rfl _ _ 28 rfl 0 24 i0 _ 1 24 underlying28 b3 b0 a9 a8 rfl (by decide) _ _ _ rfl (z.alloc _) ⟨w2.heap.size,0,Z⟩ 1 1 [I N (Rt.ji p.form).length x] rfl rfl (cell_one_new _ _ _) (by simp[Value.oneCell']) (by omega) (by unfold maxLen;omega) (by omega) (zo _) (w2.heap.size+1) (by simp) ?_);intro g' cap' w4 o d hat b9;rw[<-HV.u]at d hat;rw[<-y]at o;have j:=HA.u;have f:=b7.u;have L:=(zI w2.heap.size w2).alloc (zB _) (V #[I N (Rt.ji p.form).length x] 24);obtain⟨q1,q2,q3⟩:=j.mc.D1 f L rv (Rt.ji p.form) b6.u d (I (Q ⟨g',0,Z⟩) (k+1) cap') (by show World.ownsRow _ 0 24 1 _ (((S.zL.take k).map (fun p=>Rt.ji p.form)).length+1) _;rw[HL.u];exact o) (fun g2 hg2=>by simp[Value.ownBlock]at hg2;subst hg2;rcases hat with h | h;exact Or.inl h;exact Or.inr (by omega));have b5:=j.more q1 q2 q3;have b1:(X'.vv).ownBlock≠Q M:=by
    intro e;obtain⟨c,D⟩:=yW j.mc.VH e;rw[j.mc.block]at D;injection D with D;injection D with _ D;exact j.mc.ty.2.2.1 D
   have a7:=(d.block M (zX a6 L.size) (xK b1)).trans (zU (zU j.mc.block f) L);have d3:w4.cell? ⟨M,3,Z⟩=Q X'.vv:=by have:=zC a7 3 (by simp);simpa using this
   have z3:=zS a7 3;have HF:=zD b5;go_wp2;go_roundw
   ·exact⟨k+1,_,by omega,by go_num,by rw[HT.u];exact HF.u⟩
   ·simp[intOf];omega
  ·have a4:¬(k:Int) < (G S.zL:Int):=by omega
   have HF:=zD j;go_wp2;go_end0;refine⟨rfl,X',?_⟩;have:=HF.u;rw[yw (by omega)]at this;exact this
namespace Rt
theorem fq (len:Nat):∀(ps:List PL) (n:Nat) (bs:List Zx) (lk:Qw),(nestLk len ps n bs lk).length=G lk
 | [],_,_,_=>rfl
 | p::r,n,bs,lk=>by
  unfold nestLk;split
  ·rw[fq len r,Jl]
  ·rfl
theorem pI {ps:List PL}:(vS ps).length=G ps+1:=by
 unfold vS;rw[fq,qN]
end Rt
structure Fit (s:Ia) (zL:List Rt.PL):Prop where
 len:(Xb s).length=zL.length
 fwd:mX (zL.map Rt.jK) (Xb s)
 cells:∀p∈zL,p.form.cells<=1000
def Zs (s:Ia) (zL:List Rt.PL) (qo:List Int):Rt.Src:=⟨zL.map Rt.jK,Xb s,qo⟩
abbrev KC:Array Value:=#[I Z 0 0,I Z 0 0,I Z 0 0,I Z 0 0,J U 0,I Z 0 0,J U 0,J U 0]
def NewP (s:Ia) (qo:List Int) (w:World) (e:Ending) (w':World):Prop:=
  Below w.heap.size w w'/\
  ((100 < G qo/\e=T (E #[L KC,J U 1,J U 0]))\/
   (G qo<=100/\∃er ln zL,Rt.qx s=(er,ln,zL)/\
     ((¬er=0/\e=T (E #[L KC,J U er,J U ln]))\/
      (er=0/\ln=0/\G zL<=101/\∃M X,e=T (E #[L (xC X (Rt.firstM (Zs s zL qo)) []),J U 0,J U 0])/\w.heap.size<=M/\(∀k∈Z4 X,w.heap.size<=k)/\jz w' M w.heap.size 90 [] (Zs s zL qo) (Rt.firstM (Zs s zL qo)) X))))
theorem xH {v6 v7:Value} (h:w.heap[N]?=Q (V #[v0,v1,v2,v3,v4,v5,v6,v7] t (0,0))):w.cell? ⟨N,0,Z⟩=Q v0/\w.cell? ⟨N,1,Z⟩=Q v1/\w.cell? ⟨N,2,Z⟩=Q v2/\w.cell? ⟨N,3,Z⟩=Q v3/\w.cell? ⟨N,4,Z⟩=Q v4/\w.cell? ⟨N,5,Z⟩=Q v5/\w.cell? ⟨N,6,Z⟩=Q v6/\w.cell? ⟨N,7,Z⟩=Q v7:=
 ⟨zC h 0 (by simp),zC h 1 (by simp),zC h 2 (by simp),zC h 3 (by simp),zC h 4 (by simp),zC h 5 (by simp),zC h 6 (by simp),zC h 7 (by simp)⟩
abbrev W8 (w:World) (N:Nat) (a b c d e f g h:Value):World:=(((((((w.setCell ⟨N,0,Z⟩ a).setCell ⟨N,1,Z⟩ b).setCell ⟨N,2,Z⟩ c).setCell ⟨N,3,Z⟩ d).setCell ⟨N,4,Z⟩ e).setCell ⟨N,5,Z⟩ f).setCell ⟨N,6,Z⟩ g).setCell ⟨N,7,Z⟩ h
theorem rP (h:w.heap[R]?=Q (V #[x0,x1,x2,x3,x4,x5,x6,x7] t (0,0))) (a b c d e f g i:Value):(W8 w R a b c d e f g i).heap[R]?=Q (V #[a,b,c,d,e,f,g,i] t (0,0)):=by
 have:=zf (zf (zf (zf (zf (zf (zf (zf h 0 a) 1 b) 2 c) 3 d) 4 e) 5 f) 6 g) 7 i;simpa using this
theorem yx (h:Below B w w1) (d:B<=N) (i:Nat) (v:Value):Below B w (w1.setCell ⟨N,i,Z⟩ v):=
 ⟨h.os,h.tape,h.output,by simpa[World.setCell] using h.size,fun k hk=>by rw[zO w1 ⟨N,i,Z⟩ v k (by show k≠N;omega)];exact h.block k hk⟩
theorem iA (j:Below B w w1) (i:B<=N) (a b c d e f g h:Value):Below B w (W8 w1 N a b c d e f g h):=
 yx (yx (yx (yx (yx (yx (yx (yx j i _ _) i _ _) i _ _) i _ _) i _ _) i _ _) i _ _) i _ _
abbrev GL (w3:World) (M:Nat) (iv':Value):World:=((w3.setCell ⟨M,1,Z⟩ iv').setCell ⟨M,2,Z⟩ (I (Q ⟨w3.heap.size,0,Z⟩) 1 1)).alloc (V #[I Z 0 0,J U 0] 153)
theorem sx {zL:List Rt.PL} {iv':Value} (M:vu w2 P B zL lk lv cs) (y:Below (w2.heap.size+1) (w2.alloc (V #[lv,I Z 0 0,I Z 0 0,I Z 0 0,J U 0,I Z 0 0,J U 0,J U 0] 90)) w3) (f:w3.ownsRow (w2.heap.size+1) 3 1 iv' (G qo) (qo.map (Value.int U))):jz (GL w3 w2.heap.size iv') w2.heap.size B 90 [] ⟨zL,lk,qo⟩ ⟨[Rt.Qe],[],0,[],0,0⟩ ⟨lv,iv',I (Q ⟨w3.heap.size,0,Z⟩) 1 1,I Z 0 0,I Z 0 0,[I Z 0 0],[],cs⟩/\Below w2.heap.size w2 (GL w3 w2.heap.size iv'):=by
 have z:=(y.block w2.heap.size (by omega)).trans (zN w2 (V #[lv,I Z 0 0,I Z 0 0,I Z 0 0,J U 0,I Z 0 0,J U 0,J U 0] 90));have F:=zQ z;have T:=zf z 1 iv';have R:=zf T 2 (I (Q ⟨w3.heap.size,0,Z⟩) 1 1);have j:((w3.setCell ⟨w2.heap.size,1,Z⟩ iv').setCell ⟨w2.heap.size,2,Z⟩ (I (Q ⟨w3.heap.size,0,Z⟩) 1 1)).heap.size=w3.heap.size:=by simp[World.setCell]
 have D:=yR R (V #[I Z 0 0,J U 0] 153);have A:Below w2.heap.size w2 w3:=((zI w2.heap.size w2).alloc (zB _) (V #[lv,I Z 0 0,I Z 0 0,I Z 0 0,J U 0,I Z 0 0,J U 0,J U 0] 90)).trans (y.mono (by omega));have i:Below w2.heap.size w2 (GL w3 w2.heap.size iv'):=(yx (yx A (zB _) 1 iv') (zB _) 2 (I (Q ⟨w3.heap.size,0,Z⟩) 1 1)).alloc (by rw[j];omega) _;have d:=M.zP i;have o:∀k,k < w3.heap.size->k≠w2.heap.size->(GL w3 w2.heap.size iv').heap[k]?=w3.heap[k]?:=by
  intro k N x;rw[show (GL w3 w2.heap.size iv').heap[k]?=((w3.setCell ⟨w2.heap.size,1,Z⟩ iv').setCell ⟨w2.heap.size,2,Z⟩ (I (Q ⟨w3.heap.size,0,Z⟩) 1 1)).heap[k]? from G4 _ _ (by rw[j];exact N)];rw[zO _ _ _ _ x,zO _ _ _ _ x]
 have L:(GL w3 w2.heap.size iv').ownsRow 0 3 1 iv' (G qo) (xR qo):=yP (vr f) (fun g hg=>o g (f.lt g hg).2 (by have:=(f.lt g hg).1;omega));have h:=zN ((w3.setCell ⟨w2.heap.size,1,Z⟩ iv').setCell ⟨w2.heap.size,2,Z⟩ (I (Q ⟨w3.heap.size,0,Z⟩) 1 1)) (V #[I Z 0 0,J U 0] 153);rw[j]at h;have H:(GL w3 w2.heap.size iv').ownsRow 0 153 2 (I (Q ⟨w3.heap.size,0,Z⟩) 1 1) 1 [I Z 0 0,J U 0]:=
  ⟨rfl,Or.inr ⟨w3.heap.size,1,#[I Z 0 0,J U 0],rfl,zo _,h,zB _,by unfold maxLen;omega,rfl,rfl⟩⟩;refine⟨⟨by simpa using D,⟨zQ D,?_,d.own,d.lines,d.gE,d.len⟩,⟨?_,?_⟩,rfl,rfl,by unfold FE;decide⟩,i⟩
 ·have:=zC D 0 (by simp);simpa using this
 ·intro r hr;simp only[rowsOf,qp,Ye,jT,List.zipWith_nil_left,yX,yF,xN,zw,qb,Z2]at hr;rcases hr with rfl | rfl | rfl | rfl | rfl
  ·exact L
  ·exact H
  ·exact zW _ _ _ _
  ·exact zW _ _ _ _
  ·exact zW _ _ _ _
 ·have O:xh (rowsOf qo ⟨lv,iv',I (some ⟨w3.heap.size,0,none⟩) 1 1,I none 0 0,I none 0 0,[I none 0 0],[],cs⟩ ⟨[Rt.Qe],[],0,[],0,0⟩)=(match iv'.ownBlock with | none=>[w3.heap.size] | some g=>[g,w3.heap.size]):=by
   unfold rowsOf;rw[yF,ka];rfl
  rw[O];cases e:iv'.ownBlock with
  | none=>simp
  | some g=>
   have:=(f.lt g e).2;simp;omega
theorem jz.shape (h:jz w M B ty tail S m X):∃la lc ia ic fa fc va vc oa oc,X.lv=I la (G S.zL) lc/\X.iv=I ia (G S.input) ic/\X.fv=I fa (G m.zH) fc/\X.vv=I va (G m.values) vc/\X.ov=I oa (G m.output) oc:=by
 obtain⟨la,lc,k⟩:=zK h.prog.own;obtain⟨ia,ic,j⟩:=zK h.input;obtain⟨fa,fc,i⟩:=zK h.zH;obtain⟨va,vc,f⟩:=zK h.VH;obtain⟨oa,oc,d⟩:=zK h.out;exact⟨la,lc,ia,ic,fa,fc,va,vc,oa,oc,k,j,i,f,d⟩
theorem jz.eight (h:jz w M B ty tail S m X) (D:w.heap[N]?=Q (V #[x0,x1,x2,x3,x4,x5,x6,x7] 90 (0,0))) (k:N≠M) (a b c d e f g i:Value):jz (W8 w N a b c d e f g i) M B ty tail S m X:=by
 have j:¬Xe 90/\90≠3/\90≠153/\90≠24:=by unfold Xe;decide
 have A:=zf D 0 a;have n2:=zf A 1 b;have z:=zf n2 2 c;have y:=zf z 3 d;have x:=zf y 4 e;have o:=zf x 5 f;have F:=zf o 6 g;exact(((((((h.aside D k j 0 a).aside A k j 1 b).aside n2 k j 2 c).aside z k j 3 d).aside y k j 4 e).aside x k j 5 f).aside o k j 6 g).aside F k j 7 i
theorem nC (s:Ia) {iv:Value} (hs:s.size<=maxLen) (hi:kA w iv qo) (b5:∀zL,Rt.qx s=(0,0,zL)->Fit s zL):Calls Tryz.prog 49 #[.string s,iv] w (NewP s qo w):=by
 obtain⟨i0,f2,d9,d8,g9⟩:=yi XL;have HI:=zD hi;obtain⟨g8,g2,rfl,_⟩:=hi;by_cases hl:100 < G qo
 ·have f1:(100:Int) < (G qo:Int):=by omega
  have HW:=zN w (V KC 90);have E:=xH HW;have HB:=zD ((zI w.heap.size w).alloc (zB _) (V KC 90));clear HW;go_enter func49,ntmps49;go_wp2_with fail;refine zT (v:=.tuple #[.agg KC,J U 1,J U 0]) ?_ rfl ⟨HB.u,Or.inl ⟨hl,rfl⟩⟩;revert E;generalize w.alloc (V KC 90)=wz;rintro ⟨E0,E1,E2,E3,E4,E5,E6,E7⟩;simp[results,results49,go_sem,E0,E1,E2,E3,E4,E5,E6,E7]
 ·have f1:¬(100:Int) < (G qo:Int):=by omega
  go_enter func49,ntmps49;go_wp2_with fail;refine(wm s _ hs).mono ?_;rintro e w1 ⟨a2,er,ln,zL,hR,hcase⟩;have b0:=(zI w.heap.size w).alloc (zB _) (V KC 90);have a4:Below w.heap.size w w1:=b0.trans (a2.mono (by simp));have F:=zU (zN w (V KC 90)) a2;rcases hcase with⟨her,rfl⟩| ⟨rfl,rfl,hlen,lv,cs,rfl,hown,hlines,hlk⟩
  ·have g4:(er != 0)=D:=by simpa using her
   have HB:=zD a4;have HR:=zD hR;obtain⟨e0,e1,e2,e3,e4,e5,e6,e7⟩:=xH F;have Z:=zS F;have b7:=zQ F;have b6:¬w.heap.size=w1.heap.size:=by omega
   clear a2 b0 a4 hR;go_wp2_with fail;have HW:=rP F (I none 0 0) (I none 0 0) (I none 0 0) (I none 0 0) (J U 0) (I none 0 0) (J U 0) (J U 0);have E:=xH (yR HW (V #[I none 0 0] 76));have HB2:=(iA HB.u (zB _) (I none 0 0) (I none 0 0) (I none 0 0) (I none 0 0) (J U 0) (I none 0 0) (J U 0) (J U 0));have g1:=HB2.alloc HB2.size (V #[I none 0 0] 76);refine zT (v:=.tuple #[.agg KC,J U er,J U ln]) ?_ rfl ⟨g1,Or.inr ⟨by omega,er,ln,zL,HR.u,Or.inl ⟨her,rfl⟩⟩⟩;revert E;generalize (W8 w1 w.heap.size (I none 0 0) (I none 0 0) (I none 0 0) (I none 0 0) (J U 0) (I none 0 0) (J U 0) (J U 0)).alloc (V #[I none 0 0] 76)=wz;rintro ⟨E0,E1,E2,E3,E4,E5,E6,E7⟩;simp[results,results49,go_sem,E0,E1,E2,E3,E4,E5,E6,E7]
  ·obtain⟨z,o,rfl⟩:=zK hown;have a8:=b5 zL hR;have O:=(zI w1.heap.size w1).alloc (zB _) (V #[I z (G zL) o] 76);have bP:=zN w1 (V #[I z (G zL) o] 76);have b4:vu (w1.alloc (V #[I z (G zL) o] 76)) w1.heap.size w.heap.size zL (Xb s) (I z (G zL) o) cs:=
    ⟨by simp,zC bP 0 (by simp),yn (yG hown O) (by simp),Qc.lines (w:=w1.alloc (V #[I z (G zL) o] 76)) (fun _ _ _ _ _ _ h=>yn h (by simp)) _ _ ((xZ O).lines _ _ hlines),hlk.zP hown O,a8.len⟩;have f0:(Value.slice z (G zL) o).ownBlock≠Q w1.heap.size:=by
    intro e;have:=(hown.lt _ e).2;omega
   have b7:=zQ F;have b6:¬w.heap.size=w1.heap.size:=by omega
   have T:=zU F O;have HX:=qG hown a4;have d5:=zD a8;have HR:=zD hR;clear hown hlines hlk a2 b0 a4 a8 hR;go_wp2_with fail;refine(DL b4 f0 hlen).mono ?_;rintro e w2 ⟨rfl,⟨f5,W⟩,a7⟩;have c2:=W.cell;have g3:=W.lt;have a3:Below w.heap.size w w2:=by
    have h1:Below w.heap.size w (w1.alloc (V #[I z (G zL) o] 76)):=HX.u.2.alloc HX.u.2.size _;exact h1.grown a7 h1.size (fun j hj=>by have:=(HX.u.1.lt j hj).1;simp at this;omega)
   have HB2:=qG (a3.alloc a3.size (V #[I z (G zL) o,I none 0 0,I none 0 0,I none 0 0,J U 0,I none 0 0,J U 0,J U 0] 90)) a3;clear b4 a3;go_wp2_with (at_builtin;refine Qh _ rfl _ _ 24 24 rfl (w2.heap.size+1) 3 i0 _ underlying24 f2 d9 d8 (by omega) rfl _ 0 [] rfl (zW _ _ _ _) _ (G qo) (qo.map (Value.int U)) rfl ?c0 ?c1 ?c2 ?_)
   case c0=>exact(HI.u.zP HB2.u.1).src
   case c1=>omega
   case c2=>simp
   intro v' w3 y x;obtain⟨d7,b3,rfl⟩:=zK y;have N:Below (w2.heap.size+1) (w2.alloc (V #[I z (G zL) o,I none 0 0,I none 0 0,I none 0 0,J U 0,I none 0 0,J U 0,J U 0] 90)) w3:=⟨x.os,x.tape,x.output,x.size,fun k hk=>x.block k (by simpa using hk) (by simp[Value.ownBlock])⟩;have H:=(N.block w2.heap.size (by omega)).trans (zN w2 (V #[I z (G zL) o,I none 0 0,I none 0 0,I none 0 0,J U 0,I none 0 0,J U 0,J U 0] 90));obtain⟨m0,m1,m2,m3,m4,m5,m6,m7⟩:=xH H;have zM:=zS H;have g7:=zQ H;have g5:¬w2.heap.size=w3.heap.size:=by omega
   have H3:=XX y N H;have d4:=qG W a7;clear y N H x W a7 bP T O;go_wp2_with fail;obtain⟨y,N,H⟩:=H3.u;obtain⟨a6,A⟩:=sx d4.u.1 N y;refine(En a6.prog (by simpa using hlen) d5.u.fwd).mono ?_;rintro e w5 ⟨rfl,a1⟩;have h5:=a6.zP a1;have g6:=h5.c6;have z6:=h5.fz 6;have T:w2.heap[w.heap.size]?=Q (V KC 90 (0,0)):=by
    refine(d4.u.2.block w.heap.size (by simp;omega) (fun e=>?_)).trans (yR F _);have:=(HX.u.1.lt _ e.symm).1;simp at this;omega
   have f4:=zQ T;have d2:=zU T (A.trans (a1.mono A.size));have b9:Below w.heap.size w w5:=HB2.u.2.trans ((A.trans (a1.mono A.size)).mono (B':=w.heap.size) HB2.u.2.size);have d6:=zD (show Rt.firstM (Zs s zL qo)=⟨[Rt.Qe],(zL.map Rt.jK).map (fun p=>Rt.ji p.form),0,[],Rt.goOn (zL.map Rt.jK) (Xb s) 102 (wrap64 (Rt.xb (zL.map Rt.jK) Rt.xP+1)),0⟩from rfl);have a5:=y.lt;generalize Rt.goOn (zL.map Rt.jK) (Xb s) 102 (wrap64 (Rt.xb (zL.map Rt.jK) Rt.xP+1))=L at *;have d0:=(Z8.start h5 (zI _ _)).own (m':=⟨[Rt.Qe],[],0,[],L,0⟩) 6 (J U L) (by simp[xC]) rfl rfl rfl;have d1:=(zO w5 ⟨w2.heap.size,6,none⟩ (J U L) w.heap.size (by show w.heap.size≠w2.heap.size;omega)).trans d2;have M:=zD (yx b9 (show w.heap.size<=w2.heap.size by omega) 6 (J U L));have b2:=zD d0;have d3:=zD d1;have b8:∀k∈Z4 ⟨I z (G zL) o,I d7 (G qo) b3,I (Q ⟨w3.heap.size,0,none⟩) 1 1,I none 0 0,I none 0 0,[I none 0 0],[],f5⟩,w.heap.size<=k:=by
    intro k hk;simp only[Z4,yF,xN,yX,ju,zw,qb,Z2]at hk;obtain⟨v,hv,hvk⟩:=hk;rcases hv with rfl | rfl | rfl | rfl | rfl
    ·have:=(a5 k hvk).1;omega
    ·simp[Value.ownBlock]at hvk;omega
    ·cases hvk
    ·cases hvk
    ·cases hvk
   have b1:=zD b8;have a0:∀p∈zL.map Rt.jK,p.form.cells<=1000:=by
    intro p hp;obtain⟨q,hq,rfl⟩:=xr.mp hp;exact d5.u.cells q hq
   clear y N H a6 A a1 h5 T d2 b9 d0 d1 b8 a5 m0 m1 m2 m3 m4 m5 m6 m7 zM c2;go_wp2_with fail;refine(py b2.u.mc rfl (by simpa using hlen) a0).mono ?_;rintro e w7 ⟨rfl,X7,hA7⟩;have R:=Z8.keeps b2.u.mc hA7 d3.u (by omega) (by decide);have h7:=hA7.mc;obtain⟨la,lc,ia,ic,fa,fc,va,vc,oa,oc,q1,q2,q3,q4,q5⟩:=h7.shape;have a9:=h7.block;rw[q1,q2,q3,q4,q5]at a9;obtain⟨x0,x1,x2,x3,x4,x5,x6,x7⟩:=xH a9;obtain⟨y0,y1,y2,y3,y4,y5,y6,y7⟩:=xH R;have zR:=zS R;have f3:¬w.heap.size=w2.heap.size:=by omega
   have f7:=zD (fun a b c d e f g i=>h7.eight R f3 a b c d e f g i);have f9:=zD (fun a b c d e f g i=>rP R a b c d e f g i);have g0:Hd (∀a b c d e f g i,Below w.heap.size w (W8 w7 w.heap.size a b c d e f g i)):=zD (fun a b c d e f g i=>iA ⟨hA7.vz.os.trans M.u.os,hA7.vz.tape.trans M.u.tape,hA7.vz.output.trans M.u.output,zi M.u.size hA7.vz.size,fun k hk=>(hA7.vz.block k (zX hk M.u.size) (fun hm=>by
    rcases zw.mp hm with rfl | hm
    ·omega
    ·have:=b1.u k hm;omega)).trans (M.u.block k hk)⟩ (zB _) a b c d e f g i)
   have f8:Hd (∀k∈Z4 X7,w.heap.size<=k):=zD (fun k hk=>by
    rcases hA7.grow k hk with h' | h'
    ·exact b1.u k h'
    ·exact zi M.u.size h')
   have HQ:=zD (show xC X7 (Rt.firstM (Zs s zL qo)) []=#[I la (zL.map Rt.jK).length lc,I ia (G qo) ic,I fa 1 fc,I va ((zL.map Rt.jK).map (fun p=>Rt.ji p.form)).length vc,J U 0,I oa 0 oc,J U L,J U 0] by
    rw[d6.u];simp only[xC,q1,q2,q3,q4,q5];rfl)
   clear hA7 R h7 a9 q1 q2 q3 q4 q5 b2 d3 b1;go_wp2_with fail;have f6:xC X7 (Rt.firstM (Zs s zL qo)) []=#[I la (G zL) lc,I ia (G qo) ic,I fa 1 fc,I va (G zL) vc,J U 0,I oa 0 oc,J U L,J U 0]:=by rw[HQ.u];simp
   have E:=xH (f9.u (I la (G zL) lc) (I ia (G qo) ic) (I fa 1 fc) (I va (G zL) vc) (J U 0) (I oa 0 oc) (J U L) (J U 0));refine zT (v:=.tuple #[.agg #[I la (G zL) lc,I ia (G qo) ic,I fa 1 fc,I va (G zL) vc,J U 0,I oa 0 oc,J U L,J U 0],J U 0,J U 0]) ?_ rfl ⟨g0.u _ _ _ _ _ _ _ _,Or.inr ⟨by omega,0,0,zL,HR.u,Or.inr ⟨rfl,rfl,hlen,w2.heap.size,X7,by rw[f6],by omega,f8.u,by rw[d6.u];exact f7.u _ _ _ _ _ _ _ _⟩⟩⟩;obtain⟨E0,E1,E2,E3,E4,E5,E6,E7⟩:=E;simp[results,results49,go_sem,E0,E1,E2,E3,E4,E5,E6,E7]
end
namespace Rt
theorem JG {zL:List PL} (h:qx s=(0,0,zL)):ZE s=W/\(rForms 0 (lines s) [kb]).1=0/\nestFrom ((rForms 0 (lines s) [kb]).2.drop 1) 1 [] [kb]=(0,zL,[])/\nameErr zL 1 (zL.drop 1)=0/\(yJ zL xP).kind=3:=by
 unfold qx at h;split at h
 ·injection h with h _;omega
 ·next h0=>
  rw[Yq]at h;split at h
  ·injection h with h _;omega
  ·next h1=>
   rw[vH]at h;split at h
   ·injection h with h _;omega
   ·next h2=>
    split at h
    ·injection h with h _;omega
    ·next h3=>
     rw[jV]at h;split at h
     ·injection h with h _;omega
     ·next h4=>
      split at h
      ·injection h with h _;omega
      ·next h5=>
       injection h with _ h;injection h with _ h;subst h;exact⟨by simpa using h0,by omega,Z6 (by simpa using h2) (Z6 rfl (Yg.mp h3)),Yg.mp h4,Yg.mp h5⟩
theorem eN:Small kb.form:=⟨by simp[kb],by simp[kb],by simp[kb],by simp[kb],by simp[kb]⟩
theorem QH {zL:List PL} (h:qx s=(0,0,zL)):(∀p∈zL,Small p.form)/\G zL<=101/\(Xb s).length=G zL:=by
 obtain⟨o,k,j,_,_⟩:=JG h;obtain⟨i,x⟩:=Vj o;obtain⟨a,b,f,c⟩:=Xn (lines s) 0 [kb] (rForms 0 (lines s) [kb]).2 (YM i) (fun p hp=>by rw[yN.mp hp];exact eN) (Z6 k rfl);obtain⟨d,e⟩:=Vu _ 1 [] [kb] zL [] (fun p hp=>by rw[yN.mp hp];exact eN) (fun p hp=>b p (List.mem_of_mem_drop hp)) j (by omega);rw[xp,a]at d;simp only[yl]at d;refine⟨e,by omega,?_⟩;unfold Xb;rw[pI,xp,a];simp only[yl];omega
theorem AY {zL:List PL} {p:PL} (h:(zL.map jK)[n]?=Q p):∃q,zL[n]?=Q q/\p=jK q:=by
 rw[yt]at h;cases e:zL[n]? with
 | none=>rw[e]at h;cases h
 | some q=>rw[e]at h;injection h with h;exact⟨q,rfl,h.symm⟩
theorem oE {zL:List PL} (h:qx s=(0,0,zL)):mX (zL.map jK) (Xb s):=by
 obtain⟨z,y,x,_,_⟩:=JG h;obtain⟨f,A⟩:=Vj z;obtain⟨a,b,d,c⟩:=Xn (lines s) 0 [kb] (rForms 0 (lines s) [kb]).2 (YM f) (fun p hp=>by rw[yN.mp hp];exact eN) (Z6 y rfl);have o:=Aj x (by rw[xp,a];simp only[yl];omega);intro n p j k;obtain⟨q,i,rfl⟩:=AY j;exact o n q i k
end Rt
theorem tQ {zL:List Rt.PL} (h:Rt.qx s=(0,0,zL)):Fit s zL:=
 ⟨(QH h).2.2,oE h,fun p hp=>by have:=((QH h).1 p hp).cells;omega⟩
section
open Go.RowKit
namespace Rt
theorem QO (zL:List PL) (n:Int):vU (zL.map jK) n=jK (vU zL n):=by
 unfold vU;split
 ·rfl
 ·rw[yt];cases zL[n.toNat]? <;> rfl
theorem Zl {zL:List PL} {n:Int}:yA (zL.map jK) n=yA zL n:=by
 unfold yA;split
 ·rfl
 ·rw[yt];cases zL[n.toNat]? <;> rfl
theorem Kj (x:Ia):∀(ps:List PL) (n:Nat),declFrom n (ps.map jK) x=declFrom n ps x
 | [],_=>rfl
 | p::r,n=>by
  rw[qp,declFrom,declFrom,Kj x r (n+1)];rfl
theorem XR {zL:List PL}:xb (zL.map jK) x=xb zL x:=by
 unfold xb;rw[<-List.map_drop,Kj]
theorem Jo {zL:List PL} {p:PL}:xV (zL.map jK) (jK p)=xV zL p:=by
 unfold xV;rw[Zl];rfl
theorem V1 (zL:List PL) (lk:Qw):∀(f:Nat) (n:Int),goOn (zL.map jK) lk f n=goOn zL lk f n
 | 0,_=>rfl
 | f+1,n=>by
  rw[goOn,goOn,qR,QO,Jo,Zl,V1 zL lk f,V1 zL lk f];rfl
end Rt
namespace Rf
open Rt
def kD (zL:List PL) (n:Int):Nat:=(vU zL n).proc.toNat
def frsOf (zL:List PL):List Fm->Int->List Fr
 | [],_=>[]
 | [f],n=>[⟨kD zL n,f.params,f.call⟩]
 | f::g::r,n=>⟨kD zL g.call,f.params,f.call⟩::frsOf zL (g::r) n
theorem QX (zL:List PL):∀(fs:List Fm) (f:Fm) (n:Int),frsOf zL (fs++[f]) n=frsOf zL fs f.call++[⟨kD zL n,f.params,f.call⟩]
 | [],f,n=>rfl
 | [a],f,n=>rfl
 | a::b::r,f,n=>by
  have:=QX zL (b::r) f n;show (⟨kD zL b.call,a.params,a.call⟩::frsOf zL ((b::r)++[f]) n)=_;rw[this];rfl
theorem XD (zL:List PL):∀(fs:List Fm) (n:Int),(frsOf zL fs n).length=G fs
 | [],_=>rfl
 | [_],_=>rfl
 | a::b::r,n=>by
  show (frsOf zL (b::r) n).length+1=_;rw[XD zL (b::r) n];rfl
theorem gR {zL:List PL} {n n':Int} (h:kD zL n=kD zL n'):∀fs:List Fm,frsOf zL fs n=frsOf zL fs n'
 | []=>rfl
 | [f]=>by show [_]=[_];rw[h]
 | a::b::r=>by
  show _::frsOf zL (b::r) n=_::frsOf zL (b::r) n';rw[gR h (b::r)]
def varsOf (zL:List PL) (vs:List (List Int)):List Int:=(List.range (G zL)).map (fun l:Nat=>if (yA zL (l:Nat)).kind=1 then ((vs[l]?).getD []).headD 0 else 0)
def Q8 (zL:List PL) (vs:List (List Int)):List (List Int):=(List.range (G zL)).map (fun l:Nat=>if (yA zL (l:Nat)).kind=2 then (vs[l]?).getD []else [])
def yT (zL:List PL) (m:Mc):Pl:=⟨frsOf zL m.zH m.line,varsOf zL m.values,Q8 zL m.values,m.taken.toNat,m.output,m.line,m.fin⟩
theorem II (x:Ia) (xs:Ib):∀f k,k+f=G xs->indexFrom xs x f k=parNo k (xs.drop k) x
 | 0,k,h=>by rw[indexFrom,zp (by omega),parNo]
 | f+1,k,h=>by
  have d:k < G xs:=by omega
  rw[indexFrom,zZ d,parNo,qq d,II x xs f (k+1) (by omega)]
structure Env (zL:List PL) (ls:List Ib) (S:Rt.Src) (m:Mc):Prop where
 both:ZM zL ls
 Ja:S.zL=zL.map jK
 ne:m.zH≠[]
 ok:V9 ls (yT zL m)
 here:∃d:Nat,∃hd:d < ls.length,(vU zL m.line).proc=(d:Int)+1/\((first ls[d]).toList==[112,114,111,99])=true
 VH:m.values.map List.length=zL.map (fun p=>(ji p.form).length)
 law:Lawful ls
section
variable {zL:List PL} {ls:List Ib} {S:Rt.Src} {m:Mc}
theorem nK (h:m.zH≠[]):m.zH=m.zH.dropLast++[m.zH.getLastD Qe]:=by
 rw[xk,xd h];exact(xj h).symm
theorem aO (h:m.zH≠[]):top (yT zL m)=⟨kD zL m.line,(m.zH.getLastD Qe).params,(m.zH.getLastD Qe).call⟩:=by
 unfold top yT;simp only
 conv=>lhs;rw[nK h]
 rw[QX,ze,yl,zu,xL,yU (zB _),jC];rfl
theorem Env.Gd (E:Env zL ls S m):XZ ls (top (yT zL m)).proc=(yA S.zL (qJ S m)).params:=by
 obtain⟨d,f,h,o⟩:=E.here;have i:qJ S m=(d:Int)+1:=by
  unfold qJ;rw[E.Ja,QO];exact h
 rw[aO E.ne,i,E.Ja,Zl];have j:kD zL m.line=d+1:=by unfold kD;rw[h];omega
 have k:=E.both.form f;have:=(KO k o).2;rw[show ((d+1:Nat):Int)=(d:Int)+1 by omega]at this;rw[this];show XZ ls (kD zL m.line)=_;rw[j,XZ,zu,yq f]
theorem JC (E:Env zL ls S m):G m.values=G zL:=by
 have:=qB List.length E.VH;simpa using this
theorem Dz (E:Env zL ls S m) (h:d < G zL):((m.values[d]?).getD []).length=(ji (yA zL (d:Nat))).length:=by
 have i:=JC E;have f:=qB (fun l=>l[d]?) E.VH;simp only[yt]at f;rw[zJ (by omega),zJ h]at f;rw[zJ (by omega),yA,zA (by omega),xS,zJ h];simpa using f
theorem uF (E:Env zL ls S m) (i:d < G zL) (h:(yA zL (d:Nat)).kind=1):∃a,m.values[d]?=Q [a]:=by
 have j:=JC E;have f:=Dz E i;rw[zJ (by omega)]at f ⊢;unfold ji at f;rw[zE h]at f;simp only[Zn,qN]at f
 match hv:m.values[d],f with
 | [a],_=>exact⟨a,rfl⟩
theorem Bk (m:Mc) (f:d < G zL):(yT zL m).vars.getD d 0=if (yA zL (d:Nat)).kind=1 then ((m.values[d]?).getD []).headD 0 else 0:=by
 unfold yT varsOf;rw[xL,yt,Xi f];rfl
theorem rB (m:Mc) (f:d < G zL):(yT zL m).cells.getD d []=if (yA zL (d:Nat)).kind=2 then (m.values[d]?).getD []else []:=by
 unfold yT Q8;rw[xL,yt,Xi f];rfl
theorem eZ (E:Env zL ls S m) (x:Ia):decl ls x < G zL:=by
 have:=E.both.len;have:=Qb ls x;omega
theorem az (E:Env zL ls S m) (h:(yJ zL x).kind≠0):0 < decl ls x:=by
 rcases E.both.bD x with⟨_,h2⟩| ⟨h1,_⟩
 ·rw[h2]at h;exact absurd rfl h
 ·omega
theorem pR {ps:Ib}:∀(i:Nat),parNo i ps x < 0->ps.any (fun y=>decide (y=x))=W:=by
 induction ps with
 | nil=>intro _ _;rfl
 | cons p r ih=>
  intro i h;rw[parNo]at h;split at h
  ·omega
  ·next hne=>rw[vw,ih (i+1) h,qP hne];rfl
theorem Bl (E:Env zL ls S m) (d:Rt.isVar zL (qJ S m) x=D):value ls (yT zL m) x=ZL m (vx S m x):=by
 have z:=E.Gd;unfold value vx;rw[z];have A:index (yA S.zL (qJ S m)).params x=parNo 0 (yA S.zL (qJ S m)).params x:=by
  have:=II x (yA S.zL (qJ S m)).params _ 0 (xW _);rw[Yf]at this;exact this
 rw[A];simp only;have f:0 < G m.zH:=kO.mpr E.ne;by_cases h0:0<=parNo 0 (yA S.zL (qJ S m)).params x
 ·rw[zE h0,zE h0,aO E.ne];unfold ZL cellsOf;simp only;rw[zA (by omega),zA (by omega),zE ⟨by first | rfl | trivial,f⟩,xL]
 ·rw[zA h0,zA h0,E.Ja,XR,E.both.Xh];have h:=pR (ps:=(yA S.zL (qJ S m)).params) (x:=x) 0 (by omega);unfold Rt.isVar VS at d;rw[E.Ja,Zl]at h;rw[h,Ve,jG]at d;have j:=eZ E x;have i:(yA zL ((decl ls x:Nat):Int)).kind=1:=by
   unfold yJ at d;rw[E.both.Xh]at d;exact d
  obtain⟨a,k⟩:=uF E j i;have y:=az E (x:=x) (by rw[d];decide);have o:=JC E;rw[Bk m j,zE i,k];unfold ZL cellsOf;simp only;rw[zA (by omega),zE ⟨by omega,by omega⟩,xS,k];rfl
theorem GD (E:Env zL ls S m) (d:ZW zL (qJ S m) x=D):(yT zL m).cells.getD (decl ls x) []=cellsOf m (xb S.zL x:Nat)/\0 < decl ls x/\xb S.zL x=decl ls x:=by
 have k:=eZ E x;unfold ZW at d;rw[zy,jG]at d;have i:(yA zL ((decl ls x:Nat):Int)).kind=2:=by
  have:=d.2;unfold yJ at this;rw[E.both.Xh]at this;exact this
 have f:=az E (x:=x) (by rw[d.2];decide);have h:=JC E;have j:xb S.zL x=decl ls x:=by rw[E.Ja,XR,E.both.Xh]
 rw[rB m k,zE i,j];refine⟨?_,f,rfl⟩;unfold cellsOf;rw[zE ⟨by omega,by omega⟩,xS]
end
end Rf
end
end Go.Proofs.YthleadfkfnnadaaGreat
