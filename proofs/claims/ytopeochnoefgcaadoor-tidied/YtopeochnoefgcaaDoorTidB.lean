/- What is proved: 'retracekeep.Tidied' returns true for all lists of numbers, and they read afterwards as they read before; the package-level variables that its row lists are tied to the program's text. No condition of ours: the statement as it was given. -/
import Derived.Test.YtopeochnoefgcaaDoorTidA
import Derived.Test.YtopeochnoefgcaaDoorTie
import Derived.Test.YtopeochnoefgcaaDoorCards
import Derived.SevenTiedAt
namespace Go.Proofs.YtopeochnoefgcaaDoor
open Go

theorem tidied_holds : Rows.TidiedCardSaid :=
  Claim7.holds_tied_plain_at .later [] [.data, .data, .data] true (true, "1f7e1cfb85db4b37823883f3c54ba4973481e235741506b47c46efc4005a5564") false
    tidied_row (fun _ h => by cases h) (by kernel_rfl) (fun _ h => by cases h) tidied_row_tie rfl ⟨rfl, rfl⟩ (by kernel_rfl) rfl
    (fun f fn hf hfn => by
      obtain rfl : f = 3 := Option.some.inj ((show Tryd.prog.funcNamed "retrace/retracekeep.Tidied" = some 3 by kernel_rfl).symm.trans hf) |>.symm
      obtain rfl : fn = Tryd.f3 := (Option.some.inj (Tryd.func3.symm.trans hfn)).symm
      exact ⟨by kernel_rfl, fun j t ht => by
        rw [Tryd.params3] at ht
        have hm : t ∈ [22] := by simpa using Array.mem_of_getElem? ht
        have hall : ([22].all fun u => !Tryd.prog.wantsStandIn u) = true := by kernel_rfl
        exact (show Tryd.prog.wantsStandIn t = false by simpa using List.all_eq_true.1 hall t hm)⟩)
    (by kernel_rfl)
end Go.Proofs.YtopeochnoefgcaaDoor

