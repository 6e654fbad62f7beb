/- 'retracelaw.Looks' returns true for every script of bulk at most 1048576, and the script reads as it did. -/
import Derived.Test.YthleadfkfnnadaaGreatLoA
set_option maxHeartbeats 4000000
set_option maxRecDepth 100000
set_option linter.unusedSimpArgs false
namespace Go.Proofs.YthleadfkfnnadaaGreat
open Go.Proofs.Tryz
open Go.ChangeShapes Go.WideShapes Go.ChangeAt Go.RowKit
theorem looks_lifted (N:Os) (f:N.Started) (H:Type) (enc:TypeId×Value->H) (F:Stop.Interp):ReturnsInHanded {} Tryz.checked N 6 .any ((Rows.OpenSpec.upto Rows.looksSpec).pre6 enc Tryz.prog Tryz.f6 Rows.looksUptoRow.domain false) (((Rows.OpenSpec.upto Rows.looksSpec).at F).post enc Tryz.prog Tryz.f6 false true false false):=by
 refine returnsInHanded_of_cond_sized (C:=Tryz.checked) (s:=Rows.OpenSpec.upto Rows.looksSpec) (k:=Rows.uptoSmall) rfl Tryz.own f (by kernel_rfl) func6
  (OpenSpec.witness (enc:=enc) (C:=Tryz.checked) (s:=Rows.OpenSpec.upto Rows.looksSpec) (k:=Rows.uptoSmall) rfl false ⟨#[],#[.slice none 0 0],[]⟩ 8 (by kernel_rfl) (by kernel_rfl) (by kernel_rfl)
   (x:=([.nil],[],[])) (by kernel_rfl) rfl (by kernel_rfl)) ?_;intro W base args T gs J i O _ G y _;have z:(DataW.weightsEach Tryz.prog (Tryz.f6.params.toList++Rows.looksSpec.plain.varTypes Tryz.prog) (T++gs)).all (·<=reachBytes)=true:=y;clear y;have o:∀(j:Nat) t v,Tryz.f6.params[j]?=some t->args[j]?=some v->Value.okWide Tryz.prog W .any base t v:=i;have D:=O;obtain⟨p,q,I,hV,rfl,_,_⟩:=O;have R:DataW.TrodAll enc Tryz.prog W 0 (fun _=>true) true Tryz.f6.params.toList args.toList T p:=I;rw[params6]at R o z;obtain⟨V,U,rfl,rfl,M⟩:=trodAll_one R;obtain⟨rfl,rfl⟩:=trodVars_none hV;obtain⟨a0,len,cap,rfl⟩:=okWide_slice underlying22 (o 0 22 V rfl rfl);clear I i;simp only[yX]at D G;have L:∀x∈p,x.block < W.heap.size:=fun x hx=>by simpa using D.lt x hx
 have A:∀(W':World),Below W.heap.size W W'->DataW.Trod enc Tryz.prog W' 0 (fun b=>decide (b < W.heap.size)) true 22 (.slice a0 len cap) U p:=
  fun W' hn=>Below.trod Tryz.laidOut (by kernel_rfl) (qf (by kernel_rfl)) M hn L;obtain⟨Z,hS,a1,_⟩:=Fq M (by
  rw[vZ]at z ⊢;intro q hq;exact z q (DataW.weights_mem_each (j:=0) (t:=22) (d:=U) rfl rfl q hq))
 have a2:=CA M G;refine(Looks_ref hS (by omega)).mono fun e W' ⟨he,hnx⟩=>?_;subst he;exact⟨_,rfl,_,_,_,[],p,[],D,trodAll_mk1 (shut_bool underlying4 _),trodAll_mk1 (A _ hnx),rfl,hnx.frame _,fun h=>by cases h⟩
theorem looks_row:Rows.LooksUptoSaid:=
 OpenClaim.holds_of_cond 6 Tryz.f6 rfl rfl rfl rfl rfl rfl rfl ⟨rfl,rfl,rfl,rfl,rfl⟩ rfl rfl rfl rfl rfl (by kernel_rfl) func6 (by kernel_rfl)
  (qf (by kernel_rfl)) (by unfold Func.isWrapper;first | (rw[zE (by decide +kernel)];kernel_rfl)| (rw[zA (by decide +kernel)];exact⟨rfl,rfl⟩))
  (fun os started H enc _ F=>looks_lifted os started H enc F)
end Go.Proofs.YthleadfkfnnadaaGreat
