/- The document's session: the calls where it stands. -/
import Derived.Test.YthleadfkfnnadaaGreatSnA
import Derived.Test.YthleadfkfnnadaaGreatSsN
set_option maxHeartbeats 4000000
set_option maxRecDepth 100000
set_option linter.unusedSimpArgs false
namespace Go.Proofs.YthleadfkfnnadaaGreat
open Rf Rt Go.Proofs.Tryz
open Go.RowKit
attribute [local go_sem ↓] Go.wp_at_zero Go.wp_at_succ
variable {k:Nat} {w:World}
def Q2 (kind fuel:Int):Int:=if kind < 0\/3 < kind then 7 else if fuel < 0\/1000 < fuel then 5 else 0
theorem uW (d fuel:Int) (w:World):Calls Tryz.prog 110 #[.int .i64 d,.int .i64 fuel] w fun e w'=>e=.returned (.int .i64 (Q2 d fuel))/\w'=w:=by
 obtain⟨R,f⟩:∃R,R=Q2 d fuel:=⟨_,rfl⟩;rw[<-f];have h:=zD f;clear f;have cs:d < 0\/(¬d < 0/\3 < d)\/(¬d < 0/\¬3 < d/\fuel < 0)\/(¬d < 0/\¬3 < d/\¬fuel < 0/\1000 < fuel)\/(¬d < 0/\¬3 < d/\¬fuel < 0/\¬1000 < fuel):=by omega
 rcases cs with h1 | ⟨h1,h2⟩| ⟨h1,h2,h3⟩| ⟨h1,h2,h3,h4⟩| ⟨h1,h2,h3,h4⟩
 all_goals
  go_enter func110,ntmps110;go_wp2;go_ret;refine⟨?_,rfl⟩;rw[h.u];unfold Q2
  first | (rw[zE (by omega)];rfl)| (rw[zA (by omega),zE (by omega)];rfl)| (rw[zA (by omega),zA (by omega)];rfl)
section
variable {C:Nat} {zL:List Rt.PL} {ls:List (List ByteArray)} {S:Rt.Src} {cap:Int} {len n low:Nat} {mk:List Bool} {Y:iQ}
theorem DU (h:vg w C zL ls S cap len n low mk Y) (O:n<=len) (d f:Int) (l:Nat) (I:(Rt.atM S n).line=(l:Int)) (b:Bool) (hb:mk[l]?=some b):Calls Tryz.prog 111 #[.pointer (some ⟨C,0,none⟩),.int .i64 d,.int .i64 f] w fun e w'=>e=.returned (.int .i64 (if kf d f (Rt.atM S n).zH.length=true then 1 else if b=true then 2 else 0))/\Below w.heap.size w w':=by
 obtain⟨g,c,X,V,k,H,A⟩:=h.cells O;obtain⟨c0,c1,c2,c3,c4,c5,c6,c7⟩:=xH h.block;rw[k]at c3;obtain⟨mg,mc,o,_,_,cM⟩:=yD h.Yw (j:=l) (u:=.bool b) (by rw[yt,hb];rfl);rw[o]at c7;have z:l < mk.length:=by
  rcases bj l mk.length with h1 | h1
  ·exact h1
  ·rw[xt h1]at hb;cases hb
 obtain⟨xa,xc,ya,yc,za,zc,oa,oc,J,f2,f3,Z⟩:=H.ZX;have y:=A 0 (by omega);have G:=A 5 (by omega);simp only[jh,yQ,zv,yH,qO]at y G;rw[J]at y;rw[show (ZN zL S n).zH.length=(Rt.atM S n).zH.length from Rf.XD _ _ _]at y;rw[show (ZN zL S n).line=(l:Int)from I]at G;have N:(0:Int)<=(n:Int):=by omega
 have M:(n:Int) < (len:Int)+1:=by omega
 have U:(0:Int)<=(l:Int):=by omega
 have T:(l:Int) < (mk.length:Int):=by omega
 obtain⟨fr,x⟩:∃fr,fr=(Rt.atM S n).zH.length:=⟨_,rfl⟩;rw[<-x]at y ⊢;unfold kf;clear h A V H k J f2 f3 Z x hb o c0 c1 c2 c4 c6 I z;generalize mk.length=ml at *;obtain⟨R,D⟩:∃R,R=(if (if d=0 then true else if d=1 then decide ((fr:Int)<=f)else if d=2 then decide ((fr:Int) < f)else false)=true then (1:Int)else if b=true then 2 else 0):=⟨_,rfl⟩;rw[<-D];have L:=zD D;clear D;have cs:(d=0\/d=1/\(fr:Int)<=f\/d=2/\(fr:Int) < f)\/(d=1/\¬(fr:Int)<=f\/d=2/\¬(fr:Int) < f\/d≠0/\d≠1/\d≠2):=by omega
 rcases cs with cs | cs
 ·have F:Hd (R=1):=zD (by
   rw[L.u,zE];rcases cs with e | ⟨e,h⟩| ⟨e,h⟩
   ·simp[e]
   ·simp[e,h]
   ·simp[e,h])
  rcases cs with e | ⟨e,h⟩| ⟨e,h⟩
  all_goals
   subst e;go_enter func111,ntmps111;go_wp2_with fail;go_quiet (fail);go_wp2;go_ret;exact⟨by rw[F.u];rfl,below_drewN _ _⟩
 ·have i:Hd (R=if b=true then 2 else 0):=zD (by
   rw[L.u,zA];rcases cs with⟨e,h⟩| ⟨e,h⟩| ⟨e,h,W⟩ <;> simp_all)
  have ck:(d==0)=false:=by simp;omega
  rcases cs with⟨e,h⟩| ⟨e,h⟩| ⟨e,h,W⟩
  ·subst e;cases b
   all_goals
    go_enter func111,ntmps111;go_wp2_with fail;go_quiet (fail);go_wp2_with fail;go_quiet (fail);go_wp2;go_ret;exact⟨by rw[i.u];rfl,(kT w).trans (kT _)⟩
  ·subst e;cases b
   all_goals
    go_enter func111,ntmps111;go_wp2_with fail;go_quiet (fail);go_wp2_with fail;go_quiet (fail);go_wp2;go_ret;exact⟨by rw[i.u];rfl,(kT w).trans (kT _)⟩
  ·have a1:(d==1)=false:=by simp;omega
   have a0:(d==2)=false:=by simp;omega
   cases b
   all_goals
    go_enter func111,ntmps111;go_wp2_with fail;go_quiet (fail);go_wp2_with fail;go_quiet (fail);go_wp2;go_ret;exact⟨by rw[i.u];rfl,(kT w).trans (kT _)⟩
end
abbrev Q1:Array Value:=#[.int .i64 0,.int .i64 0,.int .i64 0,.int .i64 0,.int .i64 0,.int .i64 0]
theorem ry (d fuel:Int) (w:World):Calls Tryz.prog 106 #[.int .i64 d,.int .i64 fuel] w fun e w'=>e=.returned (.int .i64 (Q2 d fuel))/\w'=w:=by
 obtain⟨R,f⟩:∃R,R=Q2 d fuel:=⟨_,rfl⟩;rw[<-f];have h:=zD f;clear f;have cs:d < 0\/(¬d < 0/\3 < d)\/(¬d < 0/\¬3 < d/\fuel < 0)\/(¬d < 0/\¬3 < d/\¬fuel < 0/\1000 < fuel)\/(¬d < 0/\¬3 < d/\¬fuel < 0/\¬1000 < fuel):=by omega
 rcases cs with h1 | ⟨h1,h2⟩| ⟨h1,h2,h3⟩| ⟨h1,h2,h3,h4⟩| ⟨h1,h2,h3,h4⟩
 all_goals
  go_enter func106,ntmps106;go_wp2;go_ret;refine⟨?_,rfl⟩;rw[h.u];unfold Q2
  first | (rw[zE (by omega)];rfl)| (rw[zA (by omega),zE (by omega)];rfl)| (rw[zA (by omega),zA (by omega)];rfl)
theorem GY (P:Nat) (d f:Int) (w:World) (h:¬Q2 d f=0):Calls Tryz.prog 65 #[.pointer (some ⟨P,0,none⟩),.int .i64 d,.int .i64 f] w fun e w'=>e=.returned (.tuple #[.agg Q1,.int .i64 (Q2 d f)])/\Below w.heap.size w w':=by
 have G:=zD (ry d f);have F:(Q2 d f != 0)=true:=by simpa using h
 clear h;generalize Q2 d f=R at *;have i:=zN w (.cells Q1 111);have j:=(zI w.heap.size w).alloc (zB _) (.cells Q1 111);obtain⟨D,A,y,x,o,k,_⟩:=YA i;have z:=zS i;have H:=qG j i;clear j i;go_enter func65,ntmps65;go_wp2_with fail;refine(G.u _).mono ?_;rintro e w0 ⟨rfl,rfl⟩;go_wp2_with fail;refine zT (v:=.tuple #[.agg Q1,.int .i64 R]) ?_ rfl ⟨rfl,H.u.1⟩;simp[results,results65,go_sem,D,A,y,x,o,k]
theorem Gp (C:Nat) (d f:Int) (w:World) (h:¬Q2 d f=0):Calls Tryz.prog 66 #[.pointer (some ⟨C,0,none⟩),.int .i64 d,.int .i64 f] w fun e w'=>e=.returned (.tuple #[.int .i64 0,.int .i64 0,.int .i64 (Q2 d f)])/\w'=w:=by
 have j:=zD (uW d f);have i:(Q2 d f != 0)=true:=by simpa using h
 clear h;generalize Q2 d f=R at *;go_enter func66,ntmps66;go_wp2_with fail;refine(j.u _).mono ?_;rintro e w0 ⟨rfl,rfl⟩;go_wp2_with fail;go_ret3;exact⟨rfl,rfl⟩
theorem qm.uG {t u:TypeId} (f:qm w k t) (d:qm w k u):t=u:=
 Zt fun h=>f.ne d h rfl
section
variable {C:Nat} {ps zL:List Rt.PL} {ls:List (List ByteArray)} {S:Rt.Src} {cap:Int} {len n low:Nat} {mk:List Bool} {Y:iQ}
theorem wk {S:Rt.Src}:sC S (k+1)=sC S k++[((ku S k).length:Int)]:=by
 unfold sC;rw[List.range_succ,yB];rfl
theorem vg.more {w1 w2 w3 w4:World} (h:vg w C zL ls S cap len n low mk Y) (H:Below w.heap.size w w1) {X:Qg} (L:Xd w1 w.heap.size (ZN zL S (len+1)) X) {tv:Value} (G:w1.grownBy w2 Y.tv.ownBlock) (W:w2.ownsRow 0 72 7 tv (len+2) (trC (ZN zL S) 0 (Y.xs++[X]))) (hat:∀g,tv.ownBlock=some g->Y.tv.ownBlock=some g\/w1.heap.size<=g) (x:Below (w2.setCell ⟨C,3,none⟩ tv).heap.size (w2.setCell ⟨C,3,none⟩ tv) w3) {rv:Value} (j:w3.grownBy w4 Y.rv.ownBlock) (N:w4.ownsRow 0 3 1 rv (len+1) (xR (sC S (len+1)))) (hat2:∀g,rv.ownBlock=some g->Y.rv.ownBlock=some g\/w3.heap.size<=g):Ds C zL ls S cap (len+1) n low mk Y { Y with tv:=tv,rv:=rv,xs:=Y.xs++[X] } w (w4.setCell ⟨C,4,none⟩ rv):=by
 have O:=zQ h.block;have a7:=H.size;have a6:=G.size;have a5:w2.heap.size<=w3.heap.size:=by have:=x.size;simpa[World.setCell] using this
 have a4:=j.size;have a3:(w4.setCell ⟨C,4,none⟩ rv).heap.size=w4.heap.size:=by simp[World.setCell]
 have d:∀{B z m:Nat} {t:TypeId} {v:Value} {xs:List Value} {k:Nat},w.ownsRow B t z v m xs->v.ownBlock=some k->qm w k t:=fun hr e=>yW hr e;have I:qm w C 109:=⟨_,h.block⟩;have U:∀k,k < w1.heap.size->k≠C->Y.tv.ownBlock≠some k->Y.rv.ownBlock≠some k->(w4.setCell ⟨C,4,none⟩ rv).heap[k]?=w1.heap[k]?:=fun k hk n1 n2 n3=>by
  rw[zO w4 ⟨C,4,none⟩ _ k n1,j.block k (by omega) (xK n3),x.block k (by simp[World.setCell];omega),zO w2 ⟨C,3,none⟩ _ k n1,G.block k hk (xK n2)]
 have f:∀{k:Nat} {t:TypeId},qm w k t->t≠109->t≠72->Y.rv.ownBlock≠some k->(w4.setCell ⟨C,4,none⟩ rv).heap[k]?=w.heap[k]?:=fun {k t} hk t1 t2 n3=>
  (U k (by have:=hk.lt;omega) (fun e=>t1 (hk.uG (by rw[e];exact I))) (fun e=>t2 (hk.uG (d h.tr e))) n3).trans (H.block k hk.lt);have D:∀{k:Nat} {t:TypeId},qm w k t->t≠3->Y.rv.ownBlock≠some k:=fun hk ht e=>ht (hk.uG (d h.oH e));have y:∀k,Y.rv.ownBlock=some k->k < w.heap.size:=fun k e=>(h.oH.lt k e).2;have T:w2.heap[C]?=some (.cells (Du Y cap n low) 109 (0,0)):=(G.block C (by omega) (fun e=>by have:=I.uG (d h.tr e.symm);exact absurd this (by decide))).trans ((H.block C O).trans h.block);have R:=(j.block C (by omega) (fun e=>by have:=I.uG (d h.oH e.symm);exact absurd this (by decide))).trans (zU (zf T 3 tv) x);have a2:=zf R 4 rv;have a1:∀k,tv.ownBlock=some k->qm w2 k 72:=fun k e=>yW W e;have M:∀k,tv.ownBlock=some k->k≠C:=fun k e ec=>by
  have:=(a1 k e).uG (by rw[ec];exact⟨_,T⟩);exact absurd this (by decide)
 have V:∀k,tv.ownBlock=some k->Y.rv.ownBlock≠some k:=fun k e er=>by
  rcases hat k e with e1 | e1
  ·exact absurd ((d h.tr e1).uG (d h.oH er)) (by decide)
  ·have:=y k er;omega
 have A:∀k∈xh (yO X (ZN zL S (len+1))),w.heap.size<=k/\k < w1.heap.size:=fun k hk=>⟨L.new k hk,L.own.lt k hk⟩;have hnew:∀g,rv.ownBlock=some g->Y.rv.ownBlock=some g\/w1.heap.size<=g:=fun g e=>by
  rcases hat2 g e with e1 | e1
  ·exact Or.inl e1
  ·exact Or.inr (by omega)
 have F:∀i (hi:i < (Y.xs++[X]).length),Xd (w4.setCell ⟨C,4,none⟩ rv) 0 (ZN zL S i) (Y.xs++[X])[i]/\∀g,rv.ownBlock=some g->g∉xh (yO (Y.xs++[X])[i] (ZN zL S i)):=fun i hi=>by
  by_cases hiv:i < Y.xs.length
  ·rw[xI hiv];have J:=h.GV i hiv;refine⟨⟨⟨fun r hr=>yP (J.own.rows r hr) (fun q hq2=>?_),J.own.apart⟩,J.fl,J.cl,fun _ _=>zo _⟩,fun g e hm=>?_⟩
   ·refine f (d (J.own.rows r hr) hq2) (by rcases Yr hr with e | e | e <;> rw[e] <;> decide) (by rcases Yr hr with e | e | e <;> rw[e] <;> decide) (fun e=>(h.iP q e).2 i hiv (qU hr hq2))
   ·rcases hnew g e with e1 | e1
    ·exact(h.iP g e1).2 i hiv hm
    ·have:=J.own.lt g hm;omega
  ·have:i=Y.xs.length:=by simp at hi;omega
   subst this;rw[xm (zB _)];simp only[jC,zv];rw[h.xl];refine⟨⟨⟨fun r hr=>yP (L.own.rows r hr) (fun q hq2=>?_),L.own.apart⟩,L.fl,L.cl,fun _ _=>zo _⟩,fun g e hm=>?_⟩
   ·obtain⟨l1,l2⟩:=A q (qU hr hq2);exact U q l2 (by omega) (fun e=>by have:=(h.tr.lt q e).2;omega) (fun e=>by have:=y q e;omega)
   ·obtain⟨l1,l2⟩:=A g hm;rcases hnew g e with e1 | e1
    ·have:=y g e1;omega
    ·omega
 refine⟨⟨by simpa[Du] using a2,h.src.stay (fun k t ht hk=>f hk (by rcases ht with rfl | rfl | rfl <;> decide) (by rcases ht with rfl | rfl | rfl <;> decide) (D hk (by rcases ht with rfl | rfl | rfl <;> decide))),yP h.qo (fun k e=>f (d h.qo e) (by decide) (by decide) (fun e2=>(h.iP k e2).1 e)),?_,by simp[h.xl],fun i hi=>(F i hi).1,?_,yP h.Yw (fun k e=>f (d h.Yw e) (by decide) (by decide) (D (d h.Yw e) (by decide))),fun g e=>⟨fun e2=>?_,fun i hi=>(F i hi).2 g e⟩⟩,⟨?_,?_,?_,by omega,fun k hk hn=>?_⟩,fun k hk=>?_⟩
 ·refine yP (yG (yP W (w':=w2.setCell ⟨C,3,none⟩ tv) (fun k e=>zO w2 ⟨C,3,none⟩ _ k (M k e))) x) (fun k e=>?_);have Z:k < w3.heap.size:=by have:=(W.lt k e).2;omega
  rw[zO w4 ⟨C,4,none⟩ _ k (M k e),j.block k Z (xK (V k e))]
 ·refine yP N (fun k e=>zO w4 ⟨C,4,none⟩ _ k (fun ec=>?_));have h1:qm w4 k 3:=yW N e;have h2:qm w4 C 109:=⟨_,R⟩;exact absurd (h1.uG (by rw[show k=C from ec];exact h2)) (by decide)
 ·rcases hnew g e with e1 | e1
  ·exact(h.iP g e1).1 e2
  ·have:=(h.qo.lt g e2).2;omega
 ·exact j.os.trans (x.os.trans (G.os.trans H.os))
 ·exact j.tape.trans (x.tape.trans (G.tape.trans H.tape))
 ·exact j.output.trans (x.output.trans (G.output.trans H.output))
 ·have n1:k≠C:=fun e=>hn (by rw[e];exact xB ..);have n2:Y.tv.ownBlock≠some k:=fun e=>hn (zm _ (zY _ (zY _ (YY e))));have n3:Y.rv.ownBlock≠some k:=fun e=>hn (zm _ (zY _ (zb _ (YY e))));exact(U k (by omega) n1 n2 n3).trans (H.block k hk)
 ·have ot:∀{o:Option Nat} {g:Nat},g∈o.toList->o=some g:=fun G=>by simpa using G
  rcases zd.mp hk with hk | hk
  ·rcases zw.mp hk with rfl | hk
   ·exact Or.inl (zY _ (xB ..))
   ·rcases zd.mp hk with hk | hk
    ·rcases zd.mp hk with hk | hk
     ·rcases hat k (ot hk)with e | e
      ·exact Or.inl (zY _ (zm _ (zY _ (zY _ (YY e)))))
      ·exact Or.inr (by omega)
     ·rcases hnew k (ot hk)with e | e
      ·exact Or.inl (zY _ (zm _ (zY _ (zb _ (YY e)))))
      ·exact Or.inr (by omega)
    ·exact Or.inl (zY _ (zm _ (zb _ hk)))
  ·rcases zd.mp hk with hk | hk
   ·exact Or.inl (zb _ (zY _ hk))
   ·obtain⟨i,hi,hm⟩:=nM hk;rw[xW]at hm;have a0:i < (Y.xs++[X]).length:=hi;by_cases hiv:i < Y.xs.length
    ·have e1:({ Y with tv:=tv,rv:=rv,xs:=Y.xs++[X] }:iQ).xs[i]=Y.xs[i]:=xI hiv;rw[e1]at hm;exact Or.inl (zb _ (zb _ (td (i:=0) hiv (by rw[xW];exact hm))))
    ·have e0:i=Y.xs.length:=by simp at a0;omega
     subst e0;have e1:({ Y with tv:=tv,rv:=rv,xs:=Y.xs++[X] }:iQ).xs[Y.xs.length]=X:=by
      show (Y.xs++[X])[Y.xs.length]'_=X;rw[xm (zB _)];simp
     rw[e1,h.xl]at hm;exact Or.inr (A k hm).1
end
section
variable {C:Nat} {zL:List Rt.PL} {ls:List (List ByteArray)} {S:Rt.Src} {cap:Int} {len n low:Nat} {mk:List Bool} {Y:iQ}
theorem cvalue_ref (h:vg w C zL ls S cap len n low mk Y) (hn:n<=len) (E:Rf.Env zL ls S (Rt.atM S n)) (x:ByteArray):Calls Tryz.prog 70 #[.pointer (some ⟨C,0,none⟩),.string x] w fun e w'=>e=.returned (.tuple #[.int .i64 (Rt.G4 S (Rt.atM S n) x).1,.int .i64 (Rt.G4 S (Rt.atM S n) x).2])/\Below w.heap.size w w':=by
 rw[<-valD_eq E x];have a4:V9 ls (ZN zL S n):=E.ok;have f:Hd (valD ls (ZN zL S n) x=_):=zD (by unfold valD;rfl);have c0:w.cell? ⟨C,0,none⟩=some (.pointer (some ⟨Y.sb,0,none⟩)):=zC h.block 0 (by simp[Du]);have a6:=zD (AD h hn);have A:=XX h E a4;have L:=E.law.len;have d7:=zQ h.block;show Calls _ _ _ _ fun e w'=>e=.returned (.tuple #[.int .i64 (valD ls (ZN zL S n) x).1,.int .i64 (valD ls (ZN zL S n) x).2])/\_;clear h E a4;generalize ZN zL S n=p at *;go_enter func70,ntmps70;go_wp2_with fail;refine a6.u.mono ?_;rintro e w1 ⟨G,X,_,hq,rfl⟩;obtain⟨xa,xc,ya,yc,za,zc,oa,oc,f1,f2,f3,f4⟩:=hq.ZX;have a3:jh X.fv X.vv X.cv X.ov p=(G5 xa xc ya yc za zc oa oc p):=by rw[f1,f2,f3,f4];rfl
 have I:=(zI w1.heap.size w1).alloc (zB _) (.cells (jh X.fv X.vv X.cv X.ov p) 72);have hR:=(((hq.zP G).zP I).val A.u.2.2.some (by have:=A.u.2.2.cells;omega)).at (zN w1 (.cells (jh X.fv X.vv X.cv X.ov p) 72));rw[a3]at I hR ⊢;have V:=G.trans (I.mono (B':=w.heap.size) G.size);have d0:=cell_later V c0;have d6:¬C=w1.heap.size:=by have:=G.size;omega
 obtain⟨k,hk⟩:∃k,p.zH.length=k+1:=⟨p.zH.length-1,by have:=A.u.2.2.some;omega⟩;obtain⟨b,o,cp,av,c1,c2,c3,c4,b4⟩:=hR.top hk;have b2:=A.u.2.2.top;have b0:=A.u.2.2.VJ;obtain⟨fl,fh,Z,_⟩:=b2;obtain⟨D,T⟩:∃q,(Rf.top p).proc=q+1:=⟨(Rf.top p).proc-1,by omega⟩;rw[T,zu,yq (show D < ls.length by omega)]at Z;rw[T,show ((D+1:Nat):Int)=(D:Int)+1 by omega]at c2;have j:D < ls.length:=by omega
 have b8:IntKind.i64.wrap ((k:Int)+1-1)=k:=by rw[show (k:Int)+1-1=(k:Int) by omega];exact zl _ ⟨by omega,by omega⟩
 have b9:IntKind.i64.wrap (k:Int)=k:=zl _ ⟨by omega,by omega⟩;have d4:(0:Int)<=(k:Int):=by omega
 have d3:(k:Int) < (k:Int)+1:=by omega
 have d2:(k:Int)<=1000:=by omega
 have a2:XZ ls (Rf.top p).proc=ls[D].drop 2:=by rw[T,XZ,zu,yq j]
 rw[a2]at f;have a8:=zD Z;have HR:=qG hR V;clear hq f1 f2 f3 f4 a3 I hR V G Z b4 a2 a6 c0 hk;go_wp2_with fail;generalize a9:w1.alloc (.cells (G5 xa xc ya yc za zc oa oc p) 72)=wa at *;clear a9;have d1:(ls[D].drop 2).length<=1000:=by have:=(A.u.2.1.law.XO j).1;simp;omega
 have HG:=zD (show ∀W,Below wa.heap.size wa W->Calls Tryz.prog 117 #[.pointer (some ⟨Y.sb,0,none⟩),.int .i64 ((D:Int)+1)] W fun e w'=>∃v,e=.returned v/\xA w' v (ls[D].drop 2)/\Below W.heap.size W w' from fun W hW=>Jd D ((A.u.1.src.zP HR.u.2).zP hW) j L a8.u (A.u.2.1.law.XO j).1);generalize ls[D].drop 2=ps at *;generalize w1.heap.size=N at *;clear c3 c4 a8 b0 fl fh;go_region_held3 (fun w'=>w'.cell? ⟨C,0,none⟩=some (.pointer (some ⟨Y.sb,0,none⟩))/\w'.cell? ⟨N,0,none⟩=some (.slice (some ⟨b,o,none⟩) (k+1) cp)/\w'.cell? ⟨b,o+k*3,none⟩=some (.int .i64 ((D:Int)+1))) (go_keep) (first
  | (go_at_call 117;refine(HG.u _ (zh _)).mono ?_;rintro e w2 ⟨pv,rfl,R,M⟩;have F:=yh M;obtain⟨b7,b6,rfl,_⟩:=R.form;have a0:=qG R F;have e0:=cell_later F d0;have e1:=cell_later F c1;have e2:=cell_later F c2;clear F M R)
  | (go_at_call 116;refine(lr x a0.u.1 (by omega)).mono ?_;rintro e wx ⟨rfl,a1⟩;rw[a1];clear a1 wx));have U:=HR.u.2.trans (a0.u.2.mono (B':=w.heap.size) HR.u.2.size);have H:=XX (A.u.1.src.zP U) (HR.u.1.zP a0.u.2) U;clear U;have O:Hd (∀W,Below w2.heap.size w2 W->Calls Tryz.prog 118 #[.pointer (some ⟨Y.sb,0,none⟩),.pointer (some ⟨N,0,none⟩),.string x] W fun e w'=>e=.returned (.int .i64 (Rf.value ls p x))/\Below W.heap.size W w'):=zD (fun W hW=>wK x (H.u.1.zP hW) A.u.2.1.law (H.u.2.1.zP hW) A.u.2.2);generalize Rf.index ps x=ix at *;generalize Rf.value ls p x=vl at *;clear e1 e2 d0 c1 c2;by_cases hi:0<=ix
 case pos=>
  rw[zE hi]at f;have b1:¬ix < 0:=by omega
  go_wp2_with fail;refine(O.u _ (zI _ _)).mono ?_;rintro e w3 ⟨rfl,i⟩;have HB:=zD (H.u.2.2.trans (i.mono (B':=w.heap.size) H.u.2.2.size));clear i;go_wp2_with fail;go_ret2;exact⟨by rw[f.u] <;> rfl,HB.u⟩
 case neg=>
  rw[zA hi]at f;have b1:ix < 0:=by omega
  go_wp2_with fail;refine(qg x H.u.1 A.u.2.1.law).mono ?_;rintro e w3 ⟨rfl,i⟩;have b3:=Qb ls x;have z:=H.u.2.2.trans (i.mono (B':=w.heap.size) H.u.2.2.size);have g0:=cell_later i e0;have HB:=qG i z;clear i z e0;by_cases h0:Rf.decl ls x=0
  case pos=>
   rw[zE h0]at f;rw[h0];go_wp2_with fail;go_ret2;exact⟨by rw[f.u] <;> rfl,HB.u.2⟩
  case neg=>
   rw[zA h0]at f;obtain⟨d,hd⟩:∃d,Rf.decl ls x=d+1:=⟨Rf.decl ls x-1,by omega⟩;have a5:d < ls.length:=by omega
   rw[hd,zu,yq a5]at f;rw[hd,show ((d+1:Nat):Int)=(d:Int)+1 by omega];have d5:((d:Int)+1==0)=false:=by rw[zV];omega
   have a7:=zD (xz d (H.u.1.zP HB.u.1) a5 L);clear h0 hd b3;generalize Rf.first ls[d]=fs at *;go_wp2_with fail;refine a7.u.mono ?_;rintro e w4 ⟨rfl,z⟩;have y:=HB.u.1.trans (z.mono (B':=w2.heap.size) HB.u.1.size);have g1:=cell_later z g0;have J:=qG y (H.u.2.2.trans (y.mono (B':=w.heap.size) H.u.2.2.size));clear z y g0 a7;cases hv:(fs.toList==[118,97,114])with
   | false=>
    rw[zA (by rw[hv];simp)]at f;go_wp2_with fail;go_ret2;exact⟨by rw[f.u] <;> rfl,J.u.2⟩
   | true=>
    rw[zE hv]at f;go_wp2_with fail;refine(O.u _ J.u.1).mono ?_;rintro e w5 ⟨rfl,y⟩;have b5:=zD (J.u.2.trans (y.mono (B':=w.heap.size) J.u.2.size));clear y;go_wp2_with fail;go_ret2;exact⟨by rw[f.u] <;> rfl,b5.u⟩
end
section
variable {C:Nat} {zL:List Rt.PL} {ls:List (List ByteArray)} {S:Rt.Src} {cap:Int} {len n low:Nat} {mk:List Bool} {Y:iQ}
theorem ccell_ref (h:vg w C zL ls S cap len n low mk Y) (hn:n<=len) (E:Rf.Env zL ls S (Rt.atM S n)) (x:ByteArray) (i:Int):Calls Tryz.prog 72 #[.pointer (some ⟨C,0,none⟩),.string x,.int .i64 i] w fun e w'=>e=.returned (.tuple #[.int .i64 (Rt.cellR S (Rt.atM S n) x i).1,.int .i64 (Rt.cellR S (Rt.atM S n) x i).2])/\Below w.heap.size w w':=by
 rw[<-celD_eq E x i];have a5:V9 ls (ZN zL S n):=E.ok;have f:Hd (celD ls (ZN zL S n) x i=_):=zD (by unfold celD;rfl);have c0:w.cell? ⟨C,0,none⟩=some (.pointer (some ⟨Y.sb,0,none⟩)):=zC h.block 0 (by simp[Du]);have b0:=zD (AD h hn);have G:=XX h E a5;have L:=E.law.len;have g3:=zQ h.block;show Calls _ _ _ _ fun e w'=>e=.returned (.tuple #[.int .i64 (celD ls (ZN zL S n) x i).1,.int .i64 (celD ls (ZN zL S n) x i).2])/\_;clear h E a5;generalize ZN zL S n=p at *;go_enter func72,ntmps72;go_wp2_with fail;refine b0.u.mono ?_;rintro e w1 ⟨hb1,X,_,hq,rfl⟩;obtain⟨xa,xc,ya,yc,za,zc,oa,oc,f1,f2,f3,f4⟩:=hq.ZX;have a4:jh X.fv X.vv X.cv X.ov p=(G5 xa xc ya yc za zc oa oc p):=by rw[f1,f2,f3,f4];rfl
 have H:=(zI w1.heap.size w1).alloc (zB _) (.cells (jh X.fv X.vv X.cv X.ov p) 72);have hR:=(((hq.zP hb1).zP H).val G.u.2.2.some (by have:=G.u.2.2.cells;omega)).at (zN w1 (.cells (jh X.fv X.vv X.cv X.ov p) 72));rw[a4]at H hR ⊢;have U:=hb1.trans (H.mono (B':=w.heap.size) hb1.size);have d0:=cell_later U c0;have g2:¬C=w1.heap.size:=by have:=hb1.size;omega
 obtain⟨k,hk⟩:∃k,p.zH.length=k+1:=⟨p.zH.length-1,by have:=G.u.2.2.some;omega⟩;obtain⟨b,o,cp,av,c1,c2,c3,c4,b8⟩:=hR.top hk;have b6:=G.u.2.2.top;have b5:=G.u.2.2.VJ;obtain⟨fl,fh,V,_⟩:=b6;obtain⟨A,R⟩:∃q,(Rf.top p).proc=q+1:=⟨(Rf.top p).proc-1,by omega⟩;rw[R,zu,yq (show A < ls.length by omega)]at V;rw[R,show ((A+1:Nat):Int)=(A:Int)+1 by omega]at c2;have z:A < ls.length:=by omega
 have d2:IntKind.i64.wrap ((k:Int)+1-1)=k:=by rw[show (k:Int)+1-1=(k:Int) by omega];exact zl _ ⟨by omega,by omega⟩
 have d3:IntKind.i64.wrap (k:Int)=k:=zl _ ⟨by omega,by omega⟩;have d7:(0:Int)<=(k:Int):=by omega
 have d6:(k:Int) < (k:Int)+1:=by omega
 have d5:(k:Int)<=1000:=by omega
 have a3:XZ ls (Rf.top p).proc=ls[A].drop 2:=by rw[R,XZ,zu,yq z]
 rw[a3]at f;have b2:=zD V;have HR:=qG hR U;clear hq f1 f2 f3 f4 a4 H hR U hb1 V b8 a3 b0 c0 hk;go_wp2_with fail;generalize b4:w1.alloc (.cells (G5 xa xc ya yc za zc oa oc p) 72)=wa at *;clear b4;have d4:(ls[A].drop 2).length<=1000:=by have:=(G.u.2.1.law.XO z).1;simp;omega
 have HG:=zD (show ∀W,Below wa.heap.size wa W->Calls Tryz.prog 117 #[.pointer (some ⟨Y.sb,0,none⟩),.int .i64 ((A:Int)+1)] W fun e w'=>∃v,e=.returned v/\xA w' v (ls[A].drop 2)/\Below W.heap.size W w' from fun W hW=>Jd A ((G.u.1.src.zP HR.u.2).zP hW) z L b2.u (G.u.2.1.law.XO z).1);generalize ls[A].drop 2=ps at *;generalize w1.heap.size=N at *;clear c3 c4 b2 b5 fl fh;go_region_held3 (fun w'=>w'.cell? ⟨C,0,none⟩=some (.pointer (some ⟨Y.sb,0,none⟩))/\w'.cell? ⟨N,0,none⟩=some (.slice (some ⟨b,o,none⟩) (k+1) cp)/\w'.cell? ⟨b,o+k*3,none⟩=some (.int .i64 ((A:Int)+1))) (go_keep) (first
  | (go_at_call 117;refine(HG.u _ (zh _)).mono ?_;rintro e w2 ⟨pv,rfl,O,M⟩;have F:=yh M;obtain⟨d1,b9,rfl,_⟩:=O.form;have a0:=qG O F;have e0:=cell_later F d0;have e1:=cell_later F c1;have e2:=cell_later F c2;clear F M O)
  | (go_at_call 116;refine(lr x a0.u.1 (by omega)).mono ?_;rintro e wx ⟨rfl,a2⟩;rw[a2];clear a2 wx));have T:=HR.u.2.trans (a0.u.2.mono (B':=w.heap.size) HR.u.2.size);have Z:=XX (G.u.1.src.zP T) (HR.u.1.zP a0.u.2) T;clear T;generalize Rf.index ps x=ix at *;clear e1 e2 d0 c1 c2;go_wp2_with fail;refine(qg x Z.u.1 G.u.2.1.law).mono ?_;rintro e w3 ⟨rfl,J⟩;have b7:=Qb ls x;have D:=Z.u.2.2.trans (J.mono (B':=w.heap.size) Z.u.2.2.size);have g0:=cell_later J e0;have HB:=qG J D;clear J D e0;by_cases hi:0<=ix
 case pos=>
  rw[zE (Or.inl hi)]at f;go_wp2_with fail;go_ret2;exact⟨by rw[f.u] <;> rfl,HB.u.2⟩
 case neg=>
  have f6:ix < 0:=by omega
  by_cases h0:Rf.decl ls x=0
  case pos=>
   rw[zE (Or.inr h0)]at f;rw[h0];go_wp2_with fail;go_ret2;exact⟨by rw[f.u] <;> rfl,HB.u.2⟩
  case neg=>
   rw[zA (by omega)]at f;obtain⟨d,hd⟩:∃d,Rf.decl ls x=d+1:=⟨Rf.decl ls x-1,by omega⟩;have a8:d < ls.length:=by omega
   rw[hd,zu,yq a8]at f;rw[hd,show ((d+1:Nat):Int)=(d:Int)+1 by omega];have f7:((d:Int)+1==0)=false:=by rw[zV];omega
   have b1:=zD (xz d (Z.u.1.zP HB.u.1) a8 L);have g1:=G.u.2.2.cells;clear h0 hd b7 hi;generalize Rf.first ls[d]=fs at *;go_wp2_with fail;refine b1.u.mono ?_;rintro e w4 ⟨rfl,D⟩;have I:=HB.u.1.trans (D.mono (B':=w2.heap.size) HB.u.1.size);have a9:=Z.u.2.1.zP I;have a1:=qG I (Z.u.2.2.trans (I.mono (B':=w.heap.size) Z.u.2.2.size));clear D I g0 b1;cases hv:(fs.toList==[97,114,114,97,121])with
   | false=>
    rw[zA (by rw[hv];simp)]at f;go_wp2_with fail;go_ret2;exact⟨by rw[f.u] <;> rfl,a1.u.2⟩
   | true=>
    rw[zE hv]at f;obtain⟨cb,co,cc,k2,kc⟩:=a9.cells;obtain⟨cv,ki,y⟩:=kc (d+1) (by omega);have a7:p.cells.getD (d+1) []=p.cells[d+1]:=by rw[xL,zJ (by omega)];rfl
    rw[a7]at f;obtain⟨ca,cq,rfl⟩:=y.form;have HI:=zD y;have f9:(0:Int)<=(d:Int)+1:=by omega
    have f8:(d:Int)+1 < (p.cells.length:Int):=by omega
    clear y a9 kc a7;generalize p.cells[d+1]=cl at *;by_cases hb:i < 0\/(cl.length:Int)<=i
    case pos=>
     rw[zE hb]at f;by_cases hb1:i < 0
     all_goals
      go_wp2_with fail;go_ret2;exact⟨by rw[f.u] <;> rfl,a1.u.2⟩
    case neg=>
     rw[zA hb]at f;obtain⟨j,rfl⟩:∃j:Nat,i=(j:Int):=⟨i.toNat,by omega⟩;have a6:j < cl.length:=by omega
     obtain⟨ab,ao,ac,he,ci⟩:=HI.u.get a6;simp only[xJ,jH]at he;obtain⟨rfl,he⟩:=he;have f5:¬(j:Int) < 0:=by omega
     have f0:¬(cl.length:Int)<=(j:Int):=by omega
     have d9:(j:Int) < (cl.length:Int):=by omega
     have d8:(0:Int)<=(j:Int):=by omega
     have b3:Hd (celD ls p x j=(cl[j],0)):=zD (by rw[f.u,xS,xL,zJ a6];rfl);clear hb he f;generalize cl[j]=r at *;go_wp2_with fail;go_ret2;exact⟨by rw[b3.u] <;> rfl,a1.u.2⟩
end
section
variable {C:Nat} {zL:List Rt.PL} {ls:List (List ByteArray)} {S:Rt.Src} {cap:Int} {len n low:Nat} {mk:List Bool} {Y:iQ}
theorem ccalls_ref (h:vg w C zL ls S cap len n low mk Y) (hn:n<=len) (E:Rf.Env zL ls S (Rt.atM S n)):Calls Tryz.prog 39 #[.pointer (some ⟨C,0,none⟩)] w fun e w'=>Below w.heap.size w w'/\∃v,e=.returned v/\kA w' v (Rt.G3 (Rt.atM S n)):=by
 rw[<-callsD (zL:=zL) (Rt.atM S n)];obtain⟨i0,Z,T,R,O⟩:=yi XL;have z:V9 ls (ZN zL S n):=E.ok;have M:=zD (AD h hn);show Calls _ _ _ _ fun e w'=>_/\∃v,e=.returned v/\kA w' v (((ZN zL S n).zH.drop 1).map Rf.Fr.call);have a1:=zD z;have a2:=z.VJ;have F:=z.some;clear h E z;generalize ZN zL S n=p at *;obtain⟨cl,G⟩:∃cl,cl=(p.zH.drop 1).map Rf.Fr.call:=⟨_,rfl⟩;rw[<-G];have HL:=zD (show cl.length+1=p.zH.length/\∀k,(hk:k+1 < p.zH.length)->cl.take k++[p.zH[k+1].call]=cl.take (k+1) by
  subst G;refine⟨by simp;omega,fun k hk=>?_⟩;have:((p.zH.drop 1).map Rf.Fr.call)[k]?=some p.zH[k+1].call:=by
   rw[yt,vp,show 1+k=k+1 by omega,zJ hk];rfl
  rw[kI,this];simp)
 clear G;go_enter func39,ntmps39;go_wp2_with fail;refine M.u.mono ?_;rintro e w1 ⟨y,X,_,W,rfl⟩;obtain⟨xa,xc,ya,yc,za,zc,oa,oc,f1,f2,f3,f4⟩:=W.ZX;have H:jh X.fv X.vv X.cv X.ov p=(G5 xa xc ya yc za zc oa oc p):=by rw[f1,f2,f3,f4];rfl
 have A:=(zI w1.heap.size w1).alloc (zB _) (.cells (jh X.fv X.vv X.cv X.ov p) 72);have hR:=(((W.zP y).zP A).val F (by have:=a1.u.cells;omega)).at (zN w1 (.cells (jh X.fv X.vv X.cv X.ov p) 72));rw[H]at A hR ⊢;have J:=y.trans (A.mono (B':=w.heap.size) y.size);obtain⟨b,o,cp,c1,cf⟩:=hR.zH;have HR:=qG J cf;have a3:=y.size;clear W f1 f2 f3 f4 H A hR J y M cf;go_wp2_with fail;generalize U:w1.alloc (.cells (G5 xa xc ya yc za zc oa oc p) 72)=wa at *;clear U;go_loopw [4,5] (fun v i wr=>∃k:Nat,k+1<=p.zH.length/\i=.int .i64 ((k:Int)+1)/\wr.ownsRow wa.heap.size 3 1 v k (xR (cl.take k))/\Below wa.heap.size wa wr) (fun _ i _=>p.zH.length+1-(intOf i).toNat)
 case atStart=>exact⟨0,by omega,rfl,zW _ _ _ _,zI _ _⟩
 case round=>
  obtain⟨k,hk,rfl,d,f⟩:=hrel;have V:=f.size;obtain⟨a0,L,rfl⟩:=zK d;have c2:=cell_later f c1;by_cases hlt:k+1 < p.zH.length
  ·obtain⟨av,_,_,hc,_⟩:=HR.u.2 (k+1) hlt;have k2:=cell_later f hc;have hg:=cellb_lt k2;have HT:=zD (HL.u.2 k hlt);generalize p.zH[k+1].call=q at *;have I:((k:Int)+1) < (p.zH.length:Int):=by omega
   have a4:(0:Int)<=(k:Int)+1:=by omega
   have ek:((k:Int)+1).toNat=k+1:=by omega
   clear hc;go_wp2_with (at_builtin;refine xQ _ rfl _ _ 24 rfl wa.heap.size 3 i0 _ 1 8 underlying24 Z T R O rfl (by decide) _ _ _ rfl (d.alloc _) ⟨_,0,none⟩ 1 1 [.int .i64 q] rfl rfl (cell_one_new _ _ _) ?c2 ?c3 ?c4 ?c5 ?_)
   case c2=>intro u hu;simp at hu;rcases hu with rfl;rfl
   case c3=>unfold maxLen;omega
   case c4=>omega
   case c5=>simp;omega
   intro v' w3 j x _;have D:=qY f V d x;have N:=qG j D;clear j D x d f c2 k2;go_wp2_with fail;go_roundw
   case rel=>
    obtain⟨q2,q3⟩:=N.u;exact⟨k+1,by omega,by go_num,by rw[<-HT.u,xR,yB];exact q2,q3⟩
   case measure=>simp[intOf];omega
  ·have N:=qG d f;have I:¬((k:Int)+1) < (p.zH.length:Int):=by omega
   have HE:=zD (show cl.take k=cl/\cl.length=k from by
    have h1:=HL.u.1;exact⟨yw (by omega),by omega⟩)
   clear d f;go_wp2;go_ret;refine⟨HR.u.1.trans (N.u.2.mono (B':=w.heap.size) HR.u.1.size),_,rfl,?_⟩;have h:=N.u.1;rw[HE.u.1]at h;have h3:kA wr (.slice a0 k L) cl:=by
    have e:=HE.u.2;subst e;exact YX h
   exact h3
end
end Go.Proofs.YthleadfkfnnadaaGreat
