/- What is proved: 'retracelaw.Tidies' returns true for every script, and the script reads afterwards as it read before. No condition of ours: the statement as it was given. -/
import Derived.Test.YtopeochnoefgcaaGreatLawJ
import Derived.Test.YtopeochnoefgcaaGreatEqvE
namespace Go.Proofs.YtopeochnoefgcaaGreat
open Go.RowKit

theorem tidy_both (s : ByteArray) (w : World) (hs : s.size ≤ maxLen) : Calls Tryz.prog 20 #[.string s] w (TidyBoth s w) := by
  refine (tidy_any s w hs (Rf.readS_fit s)).mono ?_
  rintro e w' ⟨hb, er, ln, pls, hR, h⟩
  obtain ⟨e1, e2, e3⟩ := Rf.read_eq s
  rw [hR] at e1 e2 e3
  simp only at e1 e2 e3
  rcases h with ⟨h1, rfl⟩ | ⟨rfl, rfl, rfl⟩
  · exact ⟨hb, by rw [Rf.tidyText, if_neg (by rw [← e1]; exact h1), e1, e2]⟩
  · exact ⟨hb, by rw [Rf.tidyText, if_pos e1.symm, ← e1, ← e2, Rf.tidy_eq (e3 rfl)]⟩

theorem tidies_holds : Rows.TidiesSaid := tidies_row tidy_both

end Go.Proofs.YtopeochnoefgcaaGreat

