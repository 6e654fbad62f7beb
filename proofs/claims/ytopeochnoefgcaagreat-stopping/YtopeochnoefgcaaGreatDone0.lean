/- What is proved: 'retracelaw.Stopping' returns true for every script, and the script reads afterwards as it read before. No condition of ours: the statement as it was given. -/
import Derived.Test.YtopeochnoefgcaaGreatLawG
import Derived.Test.YtopeochnoefgcaaGreatTop0
import Derived.Test.YtopeochnoefgcaaGreatEqvA
namespace Go.Proofs.YtopeochnoefgcaaGreat
open Go.RowKit

theorem ints_map (l : List Nat) : ints (l.map (fun n : Nat => (n : Int))) = (l.map (fun n : Nat => (n : Int))).map (Value.int .i64) := rfl
theorem stops_both (s : ByteArray) (w : World) (hs : s.size ≤ maxLen) : Calls Tryz.prog 23 #[.string s] w (StopsBoth s w) := by
  refine (stops_any s w hs).mono ?_
  rintro e w' ⟨hb, er, ln, pls, hR, h⟩
  obtain ⟨e1, e2, e3⟩ := Rf.read_eq s
  rw [hR] at e1 e2 e3
  simp only at e1 e2 e3
  rcases h with ⟨h1, rfl⟩ | ⟨rfl, rfl, v, rfl, hv⟩
  · refine ⟨hb, noOps, by rw [e1, e2], ?_⟩
    rw [Rf.stopList, if_neg (by rw [← e1]; exact h1)]
    exact World.ownsRow_nil _ _ _ _
  · refine ⟨hb, v, by rw [← e1, ← e2], ?_⟩
    rw [Rf.stopList, if_pos e1.symm]
    have hst := Rf.stops_same (e3 rfl)
    rw [hst] at hv
    exact hv

theorem stopping_holds : Rows.StoppingSaid := stopping_row stops_both

end Go.Proofs.YtopeochnoefgcaaGreat

