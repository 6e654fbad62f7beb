/-
  DERIVED. GIVEN WITH THE SEED: THE CARDS: each row of YtbpajiljfppjcaaGreatDoorRows.lean that lists a variable, with what it lists TIED to the program's text (the seventh form; the later family's looks); each row that meets fmt, with fmt's text TOLD by the authors' own Lean function (tested against real Go, not proved from fmt's source: count such statements apart). THE CARD IS WHAT COUNTS. Prove the row's statement (the work); the ties are given (YtbpajiljfppjcaaGreatDoorTie.lean); close each card by the builder's one call (the guide's Derived/Test/ToyasCard.lean, 'card_holds'). Laid BY PROGRAM, IN A SANDBOX (cutbox-door.mjs). By AI agents, Wed Nov 11 2026. No macro, syntax, notation, axiom, sorry.
-/
import Derived.Test.YtbpajiljfppjcaaGreatDoorRows
import GoSem.ClaimSeven
namespace Go.Proofs.YtbpajiljfppjcaaGreatDoor
namespace Rows

/-- THE TIED CARD OF 'retracekeep.Straight'. -/
def straightCard : Claim7 := { stood := { row := straightRow, standIns := [], harness := (true, "bb46b692d71e53d459c690bac609191d7f2a848dfd89085fb6b84dffa0d3aa6c"), looks := false }, kinds := [], alts := [], laidByText := true, laidKinds := [.data, .data, .data], laidTests := true, laidLooks := .later }
def StraightCardSaid : Prop := Claim7.holds Tryz.pinned (.plain (OpenSpec.ofChange straightSpec)) straightCard

/-- THE TIED CARD OF 'retracekeep.Strides'. -/
def stridesCard : Claim7 := { stood := { row := stridesRow, standIns := [], harness := (true, "bb46b692d71e53d459c690bac609191d7f2a848dfd89085fb6b84dffa0d3aa6c"), looks := false }, kinds := [], alts := [], laidByText := true, laidKinds := [.data, .data, .data], laidTests := true, laidLooks := .later }
def StridesCardSaid : Prop := Claim7.holds Tryz.pinned (.plain (OpenSpec.ofChange stridesSpec)) stridesCard

/-- THE TIED CARD OF 'retracekeep.Retraced'. -/
def retracedCard : Claim7 := { stood := { row := retracedRow, standIns := [], harness := (true, "bb46b692d71e53d459c690bac609191d7f2a848dfd89085fb6b84dffa0d3aa6c"), looks := false }, kinds := [], alts := [], laidByText := true, laidKinds := [.data, .data, .data], laidTests := true, laidLooks := .later }
def RetracedCardSaid : Prop := Claim7.holds Tryz.pinned (.plain (OpenSpec.ofChange retracedSpec)) retracedCard

/-- THE TIED CARD OF 'retracekeep.Undone'. -/
def undoneCard : Claim7 := { stood := { row := undoneRow, standIns := [], harness := (true, "bb46b692d71e53d459c690bac609191d7f2a848dfd89085fb6b84dffa0d3aa6c"), looks := false }, kinds := [], alts := [], laidByText := true, laidKinds := [.data, .data, .data], laidTests := true, laidLooks := .later }
def UndoneCardSaid : Prop := Claim7.holds Tryz.pinned (.plain (OpenSpec.ofChange undoneSpec)) undoneCard

/-- THE TIED CARD OF 'retracekeep.Bounded'. -/
def boundedCard : Claim7 := { stood := { row := boundedRow, standIns := [], harness := (true, "bb46b692d71e53d459c690bac609191d7f2a848dfd89085fb6b84dffa0d3aa6c"), looks := false }, kinds := [], alts := [], laidByText := true, laidKinds := [.data, .data, .data], laidTests := true, laidLooks := .later }
def BoundedCardSaid : Prop := Claim7.holds Tryz.pinned (.plain (OpenSpec.ofChange boundedSpec)) boundedCard

/-- THE TIED CARD OF 'retracekeep.Roomy'. -/
def roomyCard : Claim7 := { stood := { row := roomyRow, standIns := [], harness := (true, "bb46b692d71e53d459c690bac609191d7f2a848dfd89085fb6b84dffa0d3aa6c"), looks := false }, kinds := [], alts := [], laidByText := true, laidKinds := [.data, .data, .data], laidTests := true, laidLooks := .later }
def RoomyCardSaid : Prop := Claim7.holds Tryz.pinned (.plain (OpenSpec.ofChange roomySpec)) roomyCard

/-- THE TIED CARD OF 'retracekeep.Retreats'. -/
def retreatsCard : Claim7 := { stood := { row := retreatsRow, standIns := [], harness := (true, "bb46b692d71e53d459c690bac609191d7f2a848dfd89085fb6b84dffa0d3aa6c"), looks := false }, kinds := [], alts := [], laidByText := true, laidKinds := [.data, .data, .data], laidTests := true, laidLooks := .later }
def RetreatsCardSaid : Prop := Claim7.holds Tryz.pinned (.plain (OpenSpec.ofChange retreatsSpec)) retreatsCard

/-- THE SECOND FORM's CARD OF 'retracekeep.Straight'. -/
def straightUptoCard : Claim7 := { stood := { row := straightUptoRow, standIns := [], harness := (true, "bb46b692d71e53d459c690bac609191d7f2a848dfd89085fb6b84dffa0d3aa6c"), looks := false }, kinds := [], alts := [], laidByText := true, laidKinds := [.data, .data, .data], laidTests := true, laidLooks := .later }
def StraightUptoCardSaid : Prop := Claim7.holds Tryz.pinned (.plain (OpenSpec.upto straightSpec)) straightUptoCard

/-- THE SECOND FORM's CARD OF 'retracekeep.Strides'. -/
def stridesUptoCard : Claim7 := { stood := { row := stridesUptoRow, standIns := [], harness := (true, "bb46b692d71e53d459c690bac609191d7f2a848dfd89085fb6b84dffa0d3aa6c"), looks := false }, kinds := [], alts := [], laidByText := true, laidKinds := [.data, .data, .data], laidTests := true, laidLooks := .later }
def StridesUptoCardSaid : Prop := Claim7.holds Tryz.pinned (.plain (OpenSpec.upto stridesSpec)) stridesUptoCard

/-- THE SECOND FORM's CARD OF 'retracekeep.Retraced'. -/
def retracedUptoCard : Claim7 := { stood := { row := retracedUptoRow, standIns := [], harness := (true, "bb46b692d71e53d459c690bac609191d7f2a848dfd89085fb6b84dffa0d3aa6c"), looks := false }, kinds := [], alts := [], laidByText := true, laidKinds := [.data, .data, .data], laidTests := true, laidLooks := .later }
def RetracedUptoCardSaid : Prop := Claim7.holds Tryz.pinned (.plain (OpenSpec.upto retracedSpec)) retracedUptoCard

/-- THE SECOND FORM's CARD OF 'retracekeep.Undone'. -/
def undoneUptoCard : Claim7 := { stood := { row := undoneUptoRow, standIns := [], harness := (true, "bb46b692d71e53d459c690bac609191d7f2a848dfd89085fb6b84dffa0d3aa6c"), looks := false }, kinds := [], alts := [], laidByText := true, laidKinds := [.data, .data, .data], laidTests := true, laidLooks := .later }
def UndoneUptoCardSaid : Prop := Claim7.holds Tryz.pinned (.plain (OpenSpec.upto undoneSpec)) undoneUptoCard

/-- THE SECOND FORM's CARD OF 'retracekeep.Bounded'. -/
def boundedUptoCard : Claim7 := { stood := { row := boundedUptoRow, standIns := [], harness := (true, "bb46b692d71e53d459c690bac609191d7f2a848dfd89085fb6b84dffa0d3aa6c"), looks := false }, kinds := [], alts := [], laidByText := true, laidKinds := [.data, .data, .data], laidTests := true, laidLooks := .later }
def BoundedUptoCardSaid : Prop := Claim7.holds Tryz.pinned (.plain (OpenSpec.upto boundedSpec)) boundedUptoCard

/-- THE SECOND FORM's CARD OF 'retracekeep.Roomy'. -/
def roomyUptoCard : Claim7 := { stood := { row := roomyUptoRow, standIns := [], harness := (true, "bb46b692d71e53d459c690bac609191d7f2a848dfd89085fb6b84dffa0d3aa6c"), looks := false }, kinds := [], alts := [], laidByText := true, laidKinds := [.data, .data, .data], laidTests := true, laidLooks := .later }
def RoomyUptoCardSaid : Prop := Claim7.holds Tryz.pinned (.plain (OpenSpec.upto roomySpec)) roomyUptoCard

/-- THE SECOND FORM's CARD OF 'retracekeep.Retreats'. -/
def retreatsUptoCard : Claim7 := { stood := { row := retreatsUptoRow, standIns := [], harness := (true, "bb46b692d71e53d459c690bac609191d7f2a848dfd89085fb6b84dffa0d3aa6c"), looks := false }, kinds := [], alts := [], laidByText := true, laidKinds := [.data, .data, .data], laidTests := true, laidLooks := .later }
def RetreatsUptoCardSaid : Prop := Claim7.holds Tryz.pinned (.plain (OpenSpec.upto retreatsSpec)) retreatsUptoCard
end Rows
end Go.Proofs.YtbpajiljfppjcaaGreatDoor
