/- 'retracelaw.All' returns true for every script of bulk at most 1048576, and the script reads as it did. -/
import Derived.Test.YthleadfkfnnadaaGreatAlA
set_option maxHeartbeats 4000000
set_option maxRecDepth 100000
set_option linter.all false
namespace Go.Proofs.YthleadfkfnnadaaGreat
open Value renaming slice->I
open Option renaming none->Z,some->Q
open Bool renaming true->D
open Go.Proofs.Tryz
open Go.ChangeShapes Go.WideShapes Go.ChangeAt Go.RowKit
theorem all_lifted (R:Os) (f:R.Started) (H:Type) (enc:TypeId×Value->H) (F:Stop.Interp):ReturnsInHanded {} Tryz.checked R 8 .any ((Rows.OpenSpec.upto Rows.allSpec).pre6 enc Tryz.prog Tryz.f8 Rows.allUptoRow.domain false) (((Rows.OpenSpec.upto Rows.allSpec).at F).post enc Tryz.prog Tryz.f8 false D false false):=by
 refine returnsInHanded_of_cond_sized (C:=Tryz.checked) (s:=Rows.OpenSpec.upto Rows.allSpec) (k:=Rows.uptoSmall) rfl Tryz.own f (by kernel_rfl) func8
  (OpenSpec.witness (enc:=enc) (C:=Tryz.checked) (s:=Rows.OpenSpec.upto Rows.allSpec) (k:=Rows.uptoSmall) rfl false ⟨#[],#[I Z 0 0],[]⟩ 8 (by kernel_rfl) (by kernel_rfl) (by kernel_rfl)
   (x:=([.nil],[],[])) (by kernel_rfl) rfl (by kernel_rfl)) ?_;intro W base args V gs M i T _ J y _;have z:(DataW.weightsEach Tryz.prog (Tryz.f8.params.toList++Rows.allSpec.plain.varTypes Tryz.prog) (V++gs)).all (·<=reachBytes)=D:=y;clear y;have o:∀(j:Nat) t v,Tryz.f8.params[j]?=Q t->args[j]?=Q v->Value.okWide Tryz.prog W .any base t v:=i;have G:=T;obtain⟨p,q,L,hV,rfl,_,_⟩:=T;have U:DataW.TrodAll enc Tryz.prog W 0 (fun _=>D) D Tryz.f8.params.toList args.toList V p:=L;rw[params8]at U o z;obtain⟨v0,d0,rfl,rfl,O⟩:=trodAll_one U;obtain⟨rfl,rfl⟩:=trodVars_none hV;obtain⟨a0,len,cap,rfl⟩:=okWide_slice underlying22 (o 0 22 v0 rfl rfl);clear L i;simp only[yX]at G J;have N:∀x∈p,x.block < W.heap.size:=fun x hx=>by simpa using G.lt x hx
 have A:∀(W':World),Below W.heap.size W W'->DataW.Trod enc Tryz.prog W' 0 (fun b=>decide (b < W.heap.size)) D 22 (I a0 len cap) d0 p:=
  fun W' hn=>Below.trod Tryz.laidOut (by kernel_rfl) (qf (by kernel_rfl)) O hn N;obtain⟨a1,hS,a2,_⟩:=Fq O (by
  rw[vZ]at z ⊢;intro q hq;exact z q (DataW.weights_mem_each (j:=0) (t:=22) (d:=d0) rfl rfl q hq))
 have a3:=CA O J;refine(All_ref hS (by omega)).mono fun e W' ⟨he,hnx⟩=>?_;subst he;exact⟨_,rfl,_,_,_,[],p,[],G,trodAll_mk1 (shut_bool underlying4 _),trodAll_mk1 (A _ hnx),rfl,hnx.frame _,fun h=>by cases h⟩
theorem all_row:Rows.AllUptoSaid:=
 OpenClaim.holds_of_cond 8 Tryz.f8 rfl rfl rfl rfl rfl rfl rfl ⟨rfl,rfl,rfl,rfl,rfl⟩ rfl rfl rfl rfl rfl (by kernel_rfl) func8 (by kernel_rfl)
  (qf (by kernel_rfl)) (by unfold Func.isWrapper;first | (rw[zE (by decide +kernel)];kernel_rfl)| (rw[zA (by decide +kernel)];exact⟨rfl,rfl⟩))
  (fun os started H enc _ F=>all_lifted os started H enc F)
end Go.Proofs.YthleadfkfnnadaaGreat
