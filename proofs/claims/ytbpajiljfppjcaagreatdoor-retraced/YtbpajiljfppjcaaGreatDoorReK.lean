/- What is proved: 'retracekeep.Retraced' returns true for all lists of numbers and all numbers, and they read afterwards as they read before; the package-level variables that its row lists are tied to the program's text. No condition of ours: the statement as it was given. -/
import Derived.Test.YtbpajiljfppjcaaGreatDoorReR
import Derived.Test.YtbpajiljfppjcaaGreatDoorTie
import Derived.Test.YtbpajiljfppjcaaGreatDoorCards
import Derived.SevenTiedAt
namespace Go.Proofs.YtbpajiljfppjcaaGreatDoor
open Go

theorem retraced_holds : Rows.RetracedCardSaid :=
  Claim7.holds_tied_plain_at .later [] [.data, .data, .data] true (true, "bb46b692d71e53d459c690bac609191d7f2a848dfd89085fb6b84dffa0d3aa6c") false
    retraced_row (fun _ h => by cases h) (by kernel_rfl) (fun _ h => by cases h) retraced_row_tie rfl ⟨rfl, rfl⟩ (by kernel_rfl) rfl
    (fun f fn hf hfn => by
      obtain rfl : f = 5 := Option.some.inj ((show Tryz.prog.funcNamed "retrace/retracekeep.Retraced" = some 5 by kernel_rfl).symm.trans hf) |>.symm
      obtain rfl : fn = Tryz.f5 := (Option.some.inj (Tryz.func5.symm.trans hfn)).symm
      exact ⟨by kernel_rfl, fun j t ht => by
        rw [Tryz.params5] at ht
        have hm : t ∈ [22, 22, 3, 3] := by simpa using Array.mem_of_getElem? ht
        have hall : ([22, 22, 3, 3].all fun u => !Tryz.prog.wantsStandIn u) = true := by kernel_rfl
        exact (show Tryz.prog.wantsStandIn t = false by simpa using List.all_eq_true.1 hall t hm)⟩)
    (by kernel_rfl)
end Go.Proofs.YtbpajiljfppjcaaGreatDoor

