/- The law: All. -/
import Derived.Test.YthleadfkfnnadaaGreatLnK
set_option maxHeartbeats 4000000
set_option maxRecDepth 100000
set_option linter.all false
namespace Go.Proofs.YthleadfkfnnadaaGreat
open Value renaming int->J,pointer->H,bool->A
open IntKind renaming i64->U
open Option renaming none->Z,some->Q
open Bool renaming true->D
open List renaming length->G
open Ending renaming returned->T
open Obj renaming cells->V
open Go.Proofs.Tryz
open Go.RowKit
variable {w:World}
section
variable {S:Nat} {pv lv:Value} {vs:List Value} {prs:List mU} {tag:Nat -> Nat}
theorem WI.ran {w':World} {e:Ending} (h:WI w S pv lv vs prs tag) (F:RanG S pv lv vs w e w'):bf S vs prs w e w':=by
 obtain⟨D,z,d,o,j,H,x,f,hlv⟩:=F;have A:=fun k e=>(h.lg.own.lt k e).2;refine⟨D,z,pv,o,vs++j,prs,fun k=>if k < w.heap.size then tag k else 0,⟨H,?_,fun i hi=>?_,fun i hi k hk=>?_,fun k e=>?_,fun k e=>?_,fun i hi k e=>?_⟩,by simp;omega,by omega,fun M hM s hs=>by have:=hM s hs;omega⟩
 ·refine yP h.ps (fun k e=>d k (h.ps.lt k e).2 (fun hc=>by have:=(h.ps.lt k e).1;omega) (fun e2=>?_));obtain⟨J,h1⟩:=yW h.ps e;obtain⟨I,y⟩:=yW h.lg.own e2;exact absurd ((qm.intro h1).one (qm.intro y)) (by decide)
 ·refine(h.each i hi).stay z.size (fun k hk=>d k ((h.each i hi).lt hk) (fun hc=>by have:=(h.tags i hi k hk).2;omega) (fun e=>by have h1:=(h.tags i hi k hk).1;have:=h.Ce k e;omega)) (fun k t ht hk=>?_);have x:∀u,qm w k u->eF u->False:=fun u h1 y=>by
   rw[hk.one h1]at ht;exact y.CU ht
  exact d k hk.lt (fun e=>x _ (by rw[e];exact qm.intro h.lg.block) (by simp[eF])) (fun e=>x _ (yW h.lg.own e) (by simp[eF]))
 ·simp only[zE ((h.each i hi).lt hk)];exact h.tags i hi k hk
 ·rcases hlv k e with h1 | h1
  ·simp only[zE (A k h1)];exact h.Ce k h1
  ·rw[zA (by omega)]
 ·simp only[zE (h.ps.lt k e).2];exact h.FP k e
 ·by_cases hiv:i < G vs
  ·rw[xI hiv]at e;simp only[zE (h.lg.lt i hiv k e).2];exact h.GR i hiv k e
  ·rw[xm (by omega)]at e;have:=f _ _ k e;rw[zA (by omega)]
end
theorem iI.any {S:Nat} {k:Nat} (h:iI S w k) (j:rS) (J:∀pv lv vs prs tag,WI w S pv lv vs prs tag->G vs<=2*k->Calls Tryz.prog 10 #[H (Q ⟨S,0,Z⟩),iO j] w (bf S vs prs w)):Calls Tryz.prog 10 #[H (Q ⟨S,0,Z⟩),iO j] w fun e w'=>e=T (A D)/\Below S w w'/\iI S w' (k+1):=by
 obtain⟨pv,lv,vs,prs,tag,z,y,L,x⟩:=h;refine(J pv lv vs prs tag z y).mono ?_;rintro e w' ⟨rfl,o,pv',i,f,d,tag',I,N,M,F⟩;exact⟨rfl,o,pv',i,f,d,tag',I,by omega,by omega,fun s hs=>by have:=F _ x s hs;omega⟩
theorem run_few (S:Rt.Src):∀(k:Nat) (m:Rt.Mc),XW S m->Good S->(Rt.runM S k m).1.output.length<=50
 | 0,m,h,_=>h.out
 | k+1,m,h,hS=>by
  rw[Rt.runM];split
  ·exact run_few S k _ (fK hS h) hS
  ·exact h.out
theorem runA_few (s:Ia) (l:List Int) (d:Int):(IZ s l d).out.length<=1000:=by
 unfold IZ;split
 ·simp
 ·next h1=>
  split
  ·simp
  ·next h2=>
   split
   ·simp
   ·have f:=ui (qo:=l) (zL:=(Rt.qx s).2.2) (s:=s) (Rt.uS (Yg.mp h2)) (by omega);have:=run_few _ d.toNat _ (ph f) f;simp only;omega
theorem runs_as:RunsAs IZ:=⟨runA_few,fun s l fuel w v hs hi=>run_all s fuel hs hi,fun s l fuel w v hs hi=>Run_ref s fuel hs hi⟩
section
attribute [local go_sem ↓] Go.wp_at_zero Go.wp_at_succ
theorem All_ref {v:Value} {ops:List rS} (h:BX w v ops) (L:G ops<=1048576):Calls Tryz.prog 8 #[v] w fun e w'=>e=T (A D)/\Below w.heap.size w w':=by
 have M:=zD h;obtain⟨O,cap,rfl,_⟩:=h.cells;have F:=(zI w.heap.size w).alloc (zB _) (V #[J U 1,J U 2,J U 3,J U 4,J U 5,J U 6,J U 7,J U 8,J U 9,J U 10,J U 11,J U 12,J U 13] 3);have y:=zN w (V #[J U 1,J U 2,J U 3,J U 4,J U 5,J U 6,J U 7,J U 8,J U 9,J U 10,J U 11,J U 12,J U 13] 3);have d:=qG F y;clear F y h;go_enter func8,ntmps8;go_wp2_with fail;have x:=M.u.zP d.u.1;refine(AB (ops:=ops) (ks:=[1,2,3,4,5,6,7,8,9,10,11,12,13]) _ x (fun j hj=>by
  have I:j=0\/j=1\/j=2\/j=3\/j=4\/j=5\/j=6\/j=7\/j=8\/j=9\/j=10\/j=11\/j=12:=by simp at hj;omega
  rcases I with rfl | rfl | rfl | rfl | rfl | rfl | rfl | rfl | rfl | rfl | rfl | rfl | rfl
  ·exact zC d.u.2 0 (by simp)
  ·exact zC d.u.2 1 (by simp)
  ·exact zC d.u.2 2 (by simp)
  ·exact zC d.u.2 3 (by simp)
  ·exact zC d.u.2 4 (by simp)
  ·exact zC d.u.2 5 (by simp)
  ·exact zC d.u.2 6 (by simp)
  ·exact zC d.u.2 7 (by simp)
  ·exact zC d.u.2 8 (by simp)
  ·exact zC d.u.2 9 (by simp)
  ·exact zC d.u.2 10 (by simp)
  ·exact zC d.u.2 11 (by simp)
  ·exact zC d.u.2 12 (by simp)) (by simp) (by omega) (fun w' h1 _=>ses_start h1) (we ops (by omega) (fun w1 k hk hm hI hb=>?_))).mono ?_
 ·have H:=x.lst _ (zj hk);have f:=H.1.zP hb;have o:=(x.FN _ (zj hk)).1;simp only[zw,qb,Z2]at hm;rcases hm with hm | hm | hm | hm | hm | hm | hm | hm | hm | hm | hm | hm | hm
  ·exact hI.any _ (fun pv lv vs prs tag hW hv=>stepW_tidy (w:=w1) hW hm (DE f) (x.str _ (zj hk)))
  ·exact hI.any _ (fun pv lv vs prs tag hW hv=>stepW_stops (w:=w1) hW hm (DE f) (x.str _ (zj hk)) (by omega))
  ·exact hI.any _ (fun pv lv vs prs tag hW hv=>(step_run runs_as (w:=w1) hm hW.lg f H.2 (x.str _ (zj hk)) (by omega)).mono (fun _ _ o=>hW.ran o))
  ·exact hI.new _ hm f H.2 (x.str _ (zj hk)) (by omega)
  ·exact hI.step _ (by omega) f o (by omega) (fun w2 s hp hl hb2=>mo (w:=w2) hp hm (DE f))
  ·exact hI.step _ (by omega) f o (by omega) (fun w2 s hp hl hb2=>ny (w:=w2) hp hm (DE f) (by omega))
  ·exact hI.step _ (by omega) f o (by omega) (fun w2 s hp hl hb2=>session_bwd (w:=w2) hp hm (DE f) (by omega))
  ·exact hI.step _ (by omega) f o (by omega) (fun w2 s hp hl hb2=>session_value (w:=w2) hp hm (DE f))
  ·exact hI.step _ (by omega) f o (by omega) (fun w2 s hp hl hb2=>session_cell (w:=w2) hp hm (DE f))
  ·exact hI.stepW _ (by omega) f o (by omega) (fun w2 pv lv vs prs tag i hi2 hW hv hb2=>session_calls (w:=w2) hW hi2 hm (DE f) (by omega))
  ·exact hI.stepW _ (by omega) f o (by omega) (fun w2 pv lv vs prs tag i hi2 hW hv hb2=>session_output (w:=w2) hW hi2 hm (DE f) (by omega))
  ·exact hI.step _ (by omega) f o (by omega) (fun w2 s hp hl hb2=>session_held (w:=w2) hp hm (DE f) (by omega))
  ·exact hI.step _ (by omega) f o (by omega) (fun w2 s hp hl hb2=>iS (w:=w2) hp hm (DE f))
 ·rintro e w1 ⟨rfl,z⟩;have N:=zD (d.u.1.trans (z.mono d.u.1.size));clear z;go_wp2;go_ret;exact⟨rfl,N.u⟩
end
end Go.Proofs.YthleadfkfnnadaaGreat
