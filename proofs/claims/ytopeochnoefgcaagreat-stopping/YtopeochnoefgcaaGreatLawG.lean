/- The row of 'retracelaw.Stopping', given what the program's Stops answers. -/
import Derived.Test.YtopeochnoefgcaaGreatLawF
namespace Go.Proofs.YtopeochnoefgcaaGreat
open Go.ChangeShapes Go.WideShapes Go.ChangeAt Go.RowKit

theorem stopping_row (HP : ∀ (s : ByteArray) (w : World), s.size ≤ maxLen → Calls Tryz.prog 23 #[.string s] w (StopsBoth s w)) : Rows.StoppingSaid :=
  OpenClaim.holds_of_wide 4 Tryz.f4 rfl rfl rfl rfl rfl rfl rfl ⟨rfl, rfl, rfl, rfl, rfl⟩ rfl rfl rfl rfl rfl (by kernel_rfl) Tryz.func4 (by kernel_rfl)
    (of_decide_eq_true (by kernel_rfl)) (by unfold Func.isWrapper; first | (rw [if_pos (by decide +kernel)]; kernel_rfl) | (rw [if_neg (by decide +kernel)]; exact ⟨rfl, rfl⟩))
    (fun os started H enc _ => stopping_lifted HP os started H enc)

end Go.Proofs.YtopeochnoefgcaaGreat

