/- The row of 'retracelaw.Tidies', given what the program's Tidy answers. -/
import Derived.Test.YtopeochnoefgcaaGreatLawI
namespace Go.Proofs.YtopeochnoefgcaaGreat
open Go.ChangeShapes Go.WideShapes Go.ChangeAt Go.RowKit

theorem tidies_row (HP : ∀ (s : ByteArray) (w : World), s.size ≤ maxLen → Calls Tryz.prog 20 #[.string s] w (TidyBoth s w)) : Rows.TidiesSaid :=
  OpenClaim.holds_of_wide 3 Tryz.f3 rfl rfl rfl rfl rfl rfl rfl ⟨rfl, rfl, rfl, rfl, rfl⟩ rfl rfl rfl rfl rfl (by kernel_rfl) Tryz.func3 (by kernel_rfl)
    (of_decide_eq_true (by kernel_rfl)) (by unfold Func.isWrapper; first | (rw [if_pos (by decide +kernel)]; kernel_rfl) | (rw [if_neg (by decide +kernel)]; exact ⟨rfl, rfl⟩))
    (fun os started H enc _ => tidies_lifted HP os started H enc)

end Go.Proofs.YtopeochnoefgcaaGreat

