/-
  DERIVED. GIVEN WITH THE SEED: THE CARDS: each row of YtopeochnoefgcaaDoorRows.lean that lists a variable, with what it lists TIED to the program's text (the seventh form; the later family's looks); each row that meets fmt, with fmt's text TOLD by the authors' own Lean function (tested against real Go, not proved from fmt's source: count such statements apart). THE CARD IS WHAT COUNTS. Prove the row's statement (the work); the ties are given (YtopeochnoefgcaaDoorTie.lean); close each card by the builder's one call (the guide's Derived/Test/ToyasCard.lean, 'card_holds'). Laid BY PROGRAM, IN A SANDBOX (cutbox-door.mjs). By AI agents, Wed Nov 11 2026. No macro, syntax, notation, axiom, sorry.
-/
import Derived.Test.YtopeochnoefgcaaDoorRows
import GoSem.ClaimSeven
namespace Go.Proofs.YtopeochnoefgcaaDoor
namespace Rows

/-- THE TIED CARD OF 'retracekeep.Tidied'. -/
def tidiedCard : Claim7 := { stood := { row := tidiedRow, standIns := [], harness := (true, "1f7e1cfb85db4b37823883f3c54ba4973481e235741506b47c46efc4005a5564"), looks := false }, kinds := [], alts := [], laidByText := true, laidKinds := [.data, .data, .data], laidTests := true, laidLooks := .later }
def TidiedCardSaid : Prop := Claim7.holds Tryd.pinned (.plain (OpenSpec.ofChange tidiedSpec)) tidiedCard

/-- THE SECOND FORM's CARD OF 'retracekeep.Tidied'. -/
def tidiedUptoCard : Claim7 := { stood := { row := tidiedUptoRow, standIns := [], harness := (true, "1f7e1cfb85db4b37823883f3c54ba4973481e235741506b47c46efc4005a5564"), looks := false }, kinds := [], alts := [], laidByText := true, laidKinds := [.data, .data, .data], laidTests := true, laidLooks := .later }
def TidiedUptoCardSaid : Prop := Claim7.holds Tryd.pinned (.plain (OpenSpec.upto tidiedSpec)) tidiedUptoCard
end Rows
end Go.Proofs.YtopeochnoefgcaaDoor
