/- The document's session: one step forward. -/
import Derived.Test.YthleadfkfnnadaaGreatSnA
set_option maxHeartbeats 4000000
set_option maxRecDepth 100000
set_option linter.unusedSimpArgs false
namespace Go.Proofs.YthleadfkfnnadaaGreat
open Rt Go.Proofs.Tryz
open Go.RowKit
attribute [local go_sem ↓] Go.wp_at_zero Go.wp_at_succ
variable {k:Nat} {w:World}
def Q2 (kind fuel:Int):Int:=if kind < 0\/3 < kind then 7 else if fuel < 0\/1000 < fuel then 5 else 0
theorem uW (d fuel:Int) (w:World):Calls Tryz.prog 110 #[.int .i64 d,.int .i64 fuel] w fun e w'=>e=.returned (.int .i64 (Q2 d fuel))/\w'=w:=by
 obtain⟨R,f⟩:∃R,R=Q2 d fuel:=⟨_,rfl⟩;rw[<-f];have h:=zD f;clear f;have cs:d < 0\/(¬d < 0/\3 < d)\/(¬d < 0/\¬3 < d/\fuel < 0)\/(¬d < 0/\¬3 < d/\¬fuel < 0/\1000 < fuel)\/(¬d < 0/\¬3 < d/\¬fuel < 0/\¬1000 < fuel):=by omega
 rcases cs with h1 | ⟨h1,h2⟩| ⟨h1,h2,h3⟩| ⟨h1,h2,h3,h4⟩| ⟨h1,h2,h3,h4⟩
 all_goals
  go_enter func110,ntmps110;go_wp2;go_ret;refine⟨?_,rfl⟩;rw[h.u];unfold Q2
  first | (rw[zE (by omega)];rfl)| (rw[zA (by omega),zE (by omega)];rfl)| (rw[zA (by omega),zA (by omega)];rfl)
section
variable {C:Nat} {zL:List Rt.PL} {ls:List (List ByteArray)} {S:Rt.Src} {cap:Int} {len n low:Nat} {mk:List Bool} {Y:iQ}
theorem DU (h:vg w C zL ls S cap len n low mk Y) (O:n<=len) (d f:Int) (l:Nat) (I:(Rt.atM S n).line=(l:Int)) (b:Bool) (hb:mk[l]?=some b):Calls Tryz.prog 111 #[.pointer (some ⟨C,0,none⟩),.int .i64 d,.int .i64 f] w fun e w'=>e=.returned (.int .i64 (if kf d f (Rt.atM S n).zH.length=true then 1 else if b=true then 2 else 0))/\Below w.heap.size w w':=by
 obtain⟨g,c,X,V,k,H,A⟩:=h.cells O;obtain⟨c0,c1,c2,c3,c4,c5,c6,c7⟩:=xH h.block;rw[k]at c3;obtain⟨mg,mc,o,_,_,cM⟩:=yD h.Yw (j:=l) (u:=.bool b) (by rw[yt,hb];rfl);rw[o]at c7;have z:l < mk.length:=by
  rcases bj l mk.length with h1 | h1
  ·exact h1
  ·rw[xt h1]at hb;cases hb
 obtain⟨xa,xc,ya,yc,za,zc,oa,oc,J,f2,f3,Z⟩:=H.ZX;have y:=A 0 (by omega);have G:=A 5 (by omega);simp only[jh,yQ,zv,yH,qO]at y G;rw[J]at y;rw[show (ZN zL S n).zH.length=(Rt.atM S n).zH.length from Rf.XD _ _ _]at y;rw[show (ZN zL S n).line=(l:Int)from I]at G;have N:(0:Int)<=(n:Int):=by omega
 have M:(n:Int) < (len:Int)+1:=by omega
 have U:(0:Int)<=(l:Int):=by omega
 have T:(l:Int) < (mk.length:Int):=by omega
 obtain⟨fr,x⟩:∃fr,fr=(Rt.atM S n).zH.length:=⟨_,rfl⟩;rw[<-x]at y ⊢;unfold kf;clear h A V H k J f2 f3 Z x hb o c0 c1 c2 c4 c6 I z;generalize mk.length=ml at *;obtain⟨R,D⟩:∃R,R=(if (if d=0 then true else if d=1 then decide ((fr:Int)<=f)else if d=2 then decide ((fr:Int) < f)else false)=true then (1:Int)else if b=true then 2 else 0):=⟨_,rfl⟩;rw[<-D];have L:=zD D;clear D;have cs:(d=0\/d=1/\(fr:Int)<=f\/d=2/\(fr:Int) < f)\/(d=1/\¬(fr:Int)<=f\/d=2/\¬(fr:Int) < f\/d≠0/\d≠1/\d≠2):=by omega
 rcases cs with cs | cs
 ·have F:Hd (R=1):=zD (by
   rw[L.u,zE];rcases cs with e | ⟨e,h⟩| ⟨e,h⟩
   ·simp[e]
   ·simp[e,h]
   ·simp[e,h])
  rcases cs with e | ⟨e,h⟩| ⟨e,h⟩
  all_goals
   subst e;go_enter func111,ntmps111;go_wp2_with fail;go_quiet (fail);go_wp2;go_ret;exact⟨by rw[F.u];rfl,below_drewN _ _⟩
 ·have i:Hd (R=if b=true then 2 else 0):=zD (by
   rw[L.u,zA];rcases cs with⟨e,h⟩| ⟨e,h⟩| ⟨e,h,W⟩ <;> simp_all)
  have ck:(d==0)=false:=by simp;omega
  rcases cs with⟨e,h⟩| ⟨e,h⟩| ⟨e,h,W⟩
  ·subst e;cases b
   all_goals
    go_enter func111,ntmps111;go_wp2_with fail;go_quiet (fail);go_wp2_with fail;go_quiet (fail);go_wp2;go_ret;exact⟨by rw[i.u];rfl,(kT w).trans (kT _)⟩
  ·subst e;cases b
   all_goals
    go_enter func111,ntmps111;go_wp2_with fail;go_quiet (fail);go_wp2_with fail;go_quiet (fail);go_wp2;go_ret;exact⟨by rw[i.u];rfl,(kT w).trans (kT _)⟩
  ·have a1:(d==1)=false:=by simp;omega
   have a0:(d==2)=false:=by simp;omega
   cases b
   all_goals
    go_enter func111,ntmps111;go_wp2_with fail;go_quiet (fail);go_wp2_with fail;go_quiet (fail);go_wp2;go_ret;exact⟨by rw[i.u];rfl,(kT w).trans (kT _)⟩
end
abbrev Q1:Array Value:=#[.int .i64 0,.int .i64 0,.int .i64 0,.int .i64 0,.int .i64 0,.int .i64 0]
theorem ry (d fuel:Int) (w:World):Calls Tryz.prog 106 #[.int .i64 d,.int .i64 fuel] w fun e w'=>e=.returned (.int .i64 (Q2 d fuel))/\w'=w:=by
 obtain⟨R,f⟩:∃R,R=Q2 d fuel:=⟨_,rfl⟩;rw[<-f];have h:=zD f;clear f;have cs:d < 0\/(¬d < 0/\3 < d)\/(¬d < 0/\¬3 < d/\fuel < 0)\/(¬d < 0/\¬3 < d/\¬fuel < 0/\1000 < fuel)\/(¬d < 0/\¬3 < d/\¬fuel < 0/\¬1000 < fuel):=by omega
 rcases cs with h1 | ⟨h1,h2⟩| ⟨h1,h2,h3⟩| ⟨h1,h2,h3,h4⟩| ⟨h1,h2,h3,h4⟩
 all_goals
  go_enter func106,ntmps106;go_wp2;go_ret;refine⟨?_,rfl⟩;rw[h.u];unfold Q2
  first | (rw[zE (by omega)];rfl)| (rw[zA (by omega),zE (by omega)];rfl)| (rw[zA (by omega),zA (by omega)];rfl)
theorem GY (P:Nat) (d f:Int) (w:World) (h:¬Q2 d f=0):Calls Tryz.prog 65 #[.pointer (some ⟨P,0,none⟩),.int .i64 d,.int .i64 f] w fun e w'=>e=.returned (.tuple #[.agg Q1,.int .i64 (Q2 d f)])/\Below w.heap.size w w':=by
 have G:=zD (ry d f);have F:(Q2 d f != 0)=true:=by simpa using h
 clear h;generalize Q2 d f=R at *;have i:=zN w (.cells Q1 111);have j:=(zI w.heap.size w).alloc (zB _) (.cells Q1 111);obtain⟨D,A,y,x,o,k,_⟩:=YA i;have z:=zS i;have H:=qG j i;clear j i;go_enter func65,ntmps65;go_wp2_with fail;refine(G.u _).mono ?_;rintro e w0 ⟨rfl,rfl⟩;go_wp2_with fail;refine zT (v:=.tuple #[.agg Q1,.int .i64 R]) ?_ rfl ⟨rfl,H.u.1⟩;simp[results,results65,go_sem,D,A,y,x,o,k]
theorem Gp (C:Nat) (d f:Int) (w:World) (h:¬Q2 d f=0):Calls Tryz.prog 66 #[.pointer (some ⟨C,0,none⟩),.int .i64 d,.int .i64 f] w fun e w'=>e=.returned (.tuple #[.int .i64 0,.int .i64 0,.int .i64 (Q2 d f)])/\w'=w:=by
 have j:=zD (uW d f);have i:(Q2 d f != 0)=true:=by simpa using h
 clear h;generalize Q2 d f=R at *;go_enter func66,ntmps66;go_wp2_with fail;refine(j.u _).mono ?_;rintro e w0 ⟨rfl,rfl⟩;go_wp2_with fail;go_ret3;exact⟨rfl,rfl⟩
theorem sb_no (P:Nat) (d f:Int) (w:World) (h:¬Q2 d f=0):Calls Tryz.prog 67 #[.pointer (some ⟨P,0,none⟩),.int .i64 d,.int .i64 f] w fun e w'=>e=.returned (.tuple #[.agg Q1,.int .i64 (Q2 d f)])/\Below w.heap.size w w':=by
 have G:=zD (ry d f);have F:(Q2 d f != 0)=true:=by simpa using h
 clear h;generalize Q2 d f=R at *;have i:=zN w (.cells Q1 111);have j:=(zI w.heap.size w).alloc (zB _) (.cells Q1 111);obtain⟨D,A,y,x,o,k,_⟩:=YA i;have z:=zS i;have H:=qG j i;clear j i;go_enter func67,ntmps67;go_wp2_with fail;refine(G.u _).mono ?_;rintro e w0 ⟨rfl,rfl⟩;go_wp2_with fail;refine zT (v:=.tuple #[.agg Q1,.int .i64 R]) ?_ rfl ⟨rfl,H.u.1⟩;simp[results,results67,go_sem,D,A,y,x,o,k]
theorem cb_no (C:Nat) (d f:Int) (w:World) (h:¬Q2 d f=0):Calls Tryz.prog 68 #[.pointer (some ⟨C,0,none⟩),.int .i64 d,.int .i64 f] w fun e w'=>e=.returned (.tuple #[.int .i64 0,.int .i64 0,.int .i64 (Q2 d f)])/\w'=w:=by
 have j:=zD (uW d f);have i:(Q2 d f != 0)=true:=by simpa using h
 clear h;generalize Q2 d f=R at *;go_enter func68,ntmps68;go_wp2_with fail;refine(j.u _).mono ?_;rintro e w0 ⟨rfl,rfl⟩;go_wp2_with fail;go_ret3;exact⟨rfl,rfl⟩
theorem qm.uG {t u:TypeId} (f:qm w k t) (d:qm w k u):t=u:=
 Zt fun h=>f.ne d h rfl
section
variable {C:Nat} {ps zL:List Rt.PL} {ls:List (List ByteArray)} {S:Rt.Src} {cap:Int} {len n low:Nat} {mk:List Bool} {Y:iQ}
theorem wk {S:Rt.Src}:sC S (k+1)=sC S k++[((ku S k).length:Int)]:=by
 unfold sC;rw[List.range_succ,yB];rfl
theorem vg.more {w1 w2 w3 w4:World} (h:vg w C zL ls S cap len n low mk Y) (H:Below w.heap.size w w1) {X:Qg} (L:Xd w1 w.heap.size (ZN zL S (len+1)) X) {tv:Value} (G:w1.grownBy w2 Y.tv.ownBlock) (W:w2.ownsRow 0 72 7 tv (len+2) (trC (ZN zL S) 0 (Y.xs++[X]))) (hat:∀g,tv.ownBlock=some g->Y.tv.ownBlock=some g\/w1.heap.size<=g) (x:Below (w2.setCell ⟨C,3,none⟩ tv).heap.size (w2.setCell ⟨C,3,none⟩ tv) w3) {rv:Value} (j:w3.grownBy w4 Y.rv.ownBlock) (N:w4.ownsRow 0 3 1 rv (len+1) (xR (sC S (len+1)))) (hat2:∀g,rv.ownBlock=some g->Y.rv.ownBlock=some g\/w3.heap.size<=g):Ds C zL ls S cap (len+1) n low mk Y { Y with tv:=tv,rv:=rv,xs:=Y.xs++[X] } w (w4.setCell ⟨C,4,none⟩ rv):=by
 have O:=zQ h.block;have a7:=H.size;have a6:=G.size;have a5:w2.heap.size<=w3.heap.size:=by have:=x.size;simpa[World.setCell] using this
 have a4:=j.size;have a3:(w4.setCell ⟨C,4,none⟩ rv).heap.size=w4.heap.size:=by simp[World.setCell]
 have d:∀{B z m:Nat} {t:TypeId} {v:Value} {xs:List Value} {k:Nat},w.ownsRow B t z v m xs->v.ownBlock=some k->qm w k t:=fun hr e=>yW hr e;have I:qm w C 109:=⟨_,h.block⟩;have U:∀k,k < w1.heap.size->k≠C->Y.tv.ownBlock≠some k->Y.rv.ownBlock≠some k->(w4.setCell ⟨C,4,none⟩ rv).heap[k]?=w1.heap[k]?:=fun k hk n1 n2 n3=>by
  rw[zO w4 ⟨C,4,none⟩ _ k n1,j.block k (by omega) (xK n3),x.block k (by simp[World.setCell];omega),zO w2 ⟨C,3,none⟩ _ k n1,G.block k hk (xK n2)]
 have f:∀{k:Nat} {t:TypeId},qm w k t->t≠109->t≠72->Y.rv.ownBlock≠some k->(w4.setCell ⟨C,4,none⟩ rv).heap[k]?=w.heap[k]?:=fun {k t} hk t1 t2 n3=>
  (U k (by have:=hk.lt;omega) (fun e=>t1 (hk.uG (by rw[e];exact I))) (fun e=>t2 (hk.uG (d h.tr e))) n3).trans (H.block k hk.lt);have D:∀{k:Nat} {t:TypeId},qm w k t->t≠3->Y.rv.ownBlock≠some k:=fun hk ht e=>ht (hk.uG (d h.oH e));have y:∀k,Y.rv.ownBlock=some k->k < w.heap.size:=fun k e=>(h.oH.lt k e).2;have T:w2.heap[C]?=some (.cells (Du Y cap n low) 109 (0,0)):=(G.block C (by omega) (fun e=>by have:=I.uG (d h.tr e.symm);exact absurd this (by decide))).trans ((H.block C O).trans h.block);have R:=(j.block C (by omega) (fun e=>by have:=I.uG (d h.oH e.symm);exact absurd this (by decide))).trans (zU (zf T 3 tv) x);have a2:=zf R 4 rv;have a1:∀k,tv.ownBlock=some k->qm w2 k 72:=fun k e=>yW W e;have M:∀k,tv.ownBlock=some k->k≠C:=fun k e ec=>by
  have:=(a1 k e).uG (by rw[ec];exact⟨_,T⟩);exact absurd this (by decide)
 have V:∀k,tv.ownBlock=some k->Y.rv.ownBlock≠some k:=fun k e er=>by
  rcases hat k e with e1 | e1
  ·exact absurd ((d h.tr e1).uG (d h.oH er)) (by decide)
  ·have:=y k er;omega
 have A:∀k∈xh (yO X (ZN zL S (len+1))),w.heap.size<=k/\k < w1.heap.size:=fun k hk=>⟨L.new k hk,L.own.lt k hk⟩;have hnew:∀g,rv.ownBlock=some g->Y.rv.ownBlock=some g\/w1.heap.size<=g:=fun g e=>by
  rcases hat2 g e with e1 | e1
  ·exact Or.inl e1
  ·exact Or.inr (by omega)
 have F:∀i (hi:i < (Y.xs++[X]).length),Xd (w4.setCell ⟨C,4,none⟩ rv) 0 (ZN zL S i) (Y.xs++[X])[i]/\∀g,rv.ownBlock=some g->g∉xh (yO (Y.xs++[X])[i] (ZN zL S i)):=fun i hi=>by
  by_cases hiv:i < Y.xs.length
  ·rw[xI hiv];have J:=h.GV i hiv;refine⟨⟨⟨fun r hr=>yP (J.own.rows r hr) (fun q hq2=>?_),J.own.apart⟩,J.fl,J.cl,fun _ _=>zo _⟩,fun g e hm=>?_⟩
   ·refine f (d (J.own.rows r hr) hq2) (by rcases Yr hr with e | e | e <;> rw[e] <;> decide) (by rcases Yr hr with e | e | e <;> rw[e] <;> decide) (fun e=>(h.iP q e).2 i hiv (qU hr hq2))
   ·rcases hnew g e with e1 | e1
    ·exact(h.iP g e1).2 i hiv hm
    ·have:=J.own.lt g hm;omega
  ·have:i=Y.xs.length:=by simp at hi;omega
   subst this;rw[xm (zB _)];simp only[jC,zv];rw[h.xl];refine⟨⟨⟨fun r hr=>yP (L.own.rows r hr) (fun q hq2=>?_),L.own.apart⟩,L.fl,L.cl,fun _ _=>zo _⟩,fun g e hm=>?_⟩
   ·obtain⟨l1,l2⟩:=A q (qU hr hq2);exact U q l2 (by omega) (fun e=>by have:=(h.tr.lt q e).2;omega) (fun e=>by have:=y q e;omega)
   ·obtain⟨l1,l2⟩:=A g hm;rcases hnew g e with e1 | e1
    ·have:=y g e1;omega
    ·omega
 refine⟨⟨by simpa[Du] using a2,h.src.stay (fun k t ht hk=>f hk (by rcases ht with rfl | rfl | rfl <;> decide) (by rcases ht with rfl | rfl | rfl <;> decide) (D hk (by rcases ht with rfl | rfl | rfl <;> decide))),yP h.qo (fun k e=>f (d h.qo e) (by decide) (by decide) (fun e2=>(h.iP k e2).1 e)),?_,by simp[h.xl],fun i hi=>(F i hi).1,?_,yP h.Yw (fun k e=>f (d h.Yw e) (by decide) (by decide) (D (d h.Yw e) (by decide))),fun g e=>⟨fun e2=>?_,fun i hi=>(F i hi).2 g e⟩⟩,⟨?_,?_,?_,by omega,fun k hk hn=>?_⟩,fun k hk=>?_⟩
 ·refine yP (yG (yP W (w':=w2.setCell ⟨C,3,none⟩ tv) (fun k e=>zO w2 ⟨C,3,none⟩ _ k (M k e))) x) (fun k e=>?_);have Z:k < w3.heap.size:=by have:=(W.lt k e).2;omega
  rw[zO w4 ⟨C,4,none⟩ _ k (M k e),j.block k Z (xK (V k e))]
 ·refine yP N (fun k e=>zO w4 ⟨C,4,none⟩ _ k (fun ec=>?_));have h1:qm w4 k 3:=yW N e;have h2:qm w4 C 109:=⟨_,R⟩;exact absurd (h1.uG (by rw[show k=C from ec];exact h2)) (by decide)
 ·rcases hnew g e with e1 | e1
  ·exact(h.iP g e1).1 e2
  ·have:=(h.qo.lt g e2).2;omega
 ·exact j.os.trans (x.os.trans (G.os.trans H.os))
 ·exact j.tape.trans (x.tape.trans (G.tape.trans H.tape))
 ·exact j.output.trans (x.output.trans (G.output.trans H.output))
 ·have n1:k≠C:=fun e=>hn (by rw[e];exact xB ..);have n2:Y.tv.ownBlock≠some k:=fun e=>hn (zm _ (zY _ (zY _ (YY e))));have n3:Y.rv.ownBlock≠some k:=fun e=>hn (zm _ (zY _ (zb _ (YY e))));exact(U k (by omega) n1 n2 n3).trans (H.block k hk)
 ·have ot:∀{o:Option Nat} {g:Nat},g∈o.toList->o=some g:=fun G=>by simpa using G
  rcases zd.mp hk with hk | hk
  ·rcases zw.mp hk with rfl | hk
   ·exact Or.inl (zY _ (xB ..))
   ·rcases zd.mp hk with hk | hk
    ·rcases zd.mp hk with hk | hk
     ·rcases hat k (ot hk)with e | e
      ·exact Or.inl (zY _ (zm _ (zY _ (zY _ (YY e)))))
      ·exact Or.inr (by omega)
     ·rcases hnew k (ot hk)with e | e
      ·exact Or.inl (zY _ (zm _ (zY _ (zb _ (YY e)))))
      ·exact Or.inr (by omega)
    ·exact Or.inl (zY _ (zm _ (zb _ hk)))
  ·rcases zd.mp hk with hk | hk
   ·exact Or.inl (zb _ (zY _ hk))
   ·obtain⟨i,hi,hm⟩:=nM hk;rw[xW]at hm;have a0:i < (Y.xs++[X]).length:=hi;by_cases hiv:i < Y.xs.length
    ·have e1:({ Y with tv:=tv,rv:=rv,xs:=Y.xs++[X] }:iQ).xs[i]=Y.xs[i]:=xI hiv;rw[e1]at hm;exact Or.inl (zb _ (zb _ (td (i:=0) hiv (by rw[xW];exact hm))))
    ·have e0:i=Y.xs.length:=by simp at a0;omega
     subst e0;have e1:({ Y with tv:=tv,rv:=rv,xs:=Y.xs++[X] }:iQ).xs[Y.xs.length]=X:=by
      show (Y.xs++[X])[Y.xs.length]'_=X;rw[xm (zB _)];simp
     rw[e1,h.xl]at hm;exact Or.inr (A k hm).1
end
end Go.Proofs.YthleadfkfnnadaaGreat
