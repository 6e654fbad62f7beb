/-
  No cell of these rows narrows 'for every input' (looked for: loops, veiled, ifaces, maps, wideKeys, modest, calm, conditions, laid).
  DERIVED. THE GIVEN ROWS OF THIS SEAT. 6 by the template 'for every input the law returns true; each argument reads behind the call as it read before'; 0 by the template 'total and deterministic' (their statements: YthleadfkfnnadaaGreatTotals.lean).
  GIVEN WITH THE SEED: the statements are not yours to turn. If you find one false, say at which input.
  Laid BY PROGRAM, IN A SANDBOX (cutbox-rows.mjs): the forced cells as the released guide's own fill.sh prints them over the translation 0fd477ccf0fbd253… (all of the seat's roots in one cut). By AI agents, Wed Nov 11 2026. No macro, syntax, notation, axiom, sorry.
-/
import Derived.Test.YthleadfkfnnadaaGreatChecked
import GoSem.Claim
import GoSem.ClaimJoined
import GoSem.ClaimMapViews
import Derived.JoinedTies
import Derived.KernelRfl
namespace Go.Proofs.YthleadfkfnnadaaGreat
/- THE CELL 'sum', in the pinned program and in every row, IS THE sha256 OF THE DUMP (.gsa) THAT YthleadfkfnnadaaGreatProg.lean LOADS. Nothing in Lean hashes anything: it is a label: what it is worth is what the hold of that sum in a sandbox is worth. -/
noncomputable def Tryz.pinned : Pinned := { name := "ythleadfkfnnadaagreat", sum := "0fd477ccf0fbd253948ef03d8c1ea537c0a4567cae521b7658198759a8340456", checked := Tryz.checked }
namespace Rows
def none {H : Type} : Left H := { results := [], args := [] }

/-- 'retracelaw.Runs': WHATEVER THE INPUT: true; the input reads as it did. -/
def runsSpec : ChangeSpec := { name := "runs", fn := fun _ => fun
  | [d] => { results := [.lit (.bool true)], args := [d] }
  | _ => none }
def runsRow : OpenClaim := { program := "ythleadfkfnnadaagreat", sum := "0fd477ccf0fbd253948ef03d8c1ea537c0a4567cae521b7658198759a8340456", func := "retrace/retracelaw.Runs", spec := "runs", recurses := true, apart := false }
def RunsSaid : Prop := runsRow.holds Tryz.pinned (OpenSpec.ofChange runsSpec)

/-- ITS FALSE NEIGHBOUR: 'it returns false'. Refute it at one input. -/
def runsWrong : ChangeSpec := { name := "runs", fn := fun _ => fun
  | [d] => { results := [.lit (.bool false)], args := [d] }
  | _ => none }
def RunsWrongFalsely : Prop := runsRow.holds Tryz.pinned (OpenSpec.ofChange runsWrong)

/-- 'retracelaw.News': WHATEVER THE INPUT: true; the input reads as it did. -/
def newsSpec : ChangeSpec := { name := "news", fn := fun _ => fun
  | [d] => { results := [.lit (.bool true)], args := [d] }
  | _ => none }
def newsRow : OpenClaim := { program := "ythleadfkfnnadaagreat", sum := "0fd477ccf0fbd253948ef03d8c1ea537c0a4567cae521b7658198759a8340456", func := "retrace/retracelaw.News", spec := "news", recurses := true, apart := false }
def NewsSaid : Prop := newsRow.holds Tryz.pinned (OpenSpec.ofChange newsSpec)

/-- ITS FALSE NEIGHBOUR: 'it returns false'. Refute it at one input. -/
def newsWrong : ChangeSpec := { name := "news", fn := fun _ => fun
  | [d] => { results := [.lit (.bool false)], args := [d] }
  | _ => none }
def NewsWrongFalsely : Prop := newsRow.holds Tryz.pinned (OpenSpec.ofChange newsWrong)

/-- 'retracelaw.Forwards': WHATEVER THE INPUT: true; the input reads as it did. -/
def forwardsSpec : ChangeSpec := { name := "forwards", fn := fun _ => fun
  | [d] => { results := [.lit (.bool true)], args := [d] }
  | _ => none }
def forwardsRow : OpenClaim := { program := "ythleadfkfnnadaagreat", sum := "0fd477ccf0fbd253948ef03d8c1ea537c0a4567cae521b7658198759a8340456", func := "retrace/retracelaw.Forwards", spec := "forwards", recurses := true, apart := false }
def ForwardsSaid : Prop := forwardsRow.holds Tryz.pinned (OpenSpec.ofChange forwardsSpec)

/-- ITS FALSE NEIGHBOUR: 'it returns false'. Refute it at one input. -/
def forwardsWrong : ChangeSpec := { name := "forwards", fn := fun _ => fun
  | [d] => { results := [.lit (.bool false)], args := [d] }
  | _ => none }
def ForwardsWrongFalsely : Prop := forwardsRow.holds Tryz.pinned (OpenSpec.ofChange forwardsWrong)

/-- 'retracelaw.Looks': WHATEVER THE INPUT: true; the input reads as it did. -/
def looksSpec : ChangeSpec := { name := "looks", fn := fun _ => fun
  | [d] => { results := [.lit (.bool true)], args := [d] }
  | _ => none }
def looksRow : OpenClaim := { program := "ythleadfkfnnadaagreat", sum := "0fd477ccf0fbd253948ef03d8c1ea537c0a4567cae521b7658198759a8340456", func := "retrace/retracelaw.Looks", spec := "looks", recurses := true, apart := false }
def LooksSaid : Prop := looksRow.holds Tryz.pinned (OpenSpec.ofChange looksSpec)

/-- ITS FALSE NEIGHBOUR: 'it returns false'. Refute it at one input. -/
def looksWrong : ChangeSpec := { name := "looks", fn := fun _ => fun
  | [d] => { results := [.lit (.bool false)], args := [d] }
  | _ => none }
def LooksWrongFalsely : Prop := looksRow.holds Tryz.pinned (OpenSpec.ofChange looksWrong)

/-- 'retracelaw.Backs': WHATEVER THE INPUT: true; the input reads as it did. -/
def backsSpec : ChangeSpec := { name := "backs", fn := fun _ => fun
  | [d] => { results := [.lit (.bool true)], args := [d] }
  | _ => none }
def backsRow : OpenClaim := { program := "ythleadfkfnnadaagreat", sum := "0fd477ccf0fbd253948ef03d8c1ea537c0a4567cae521b7658198759a8340456", func := "retrace/retracelaw.Backs", spec := "backs", recurses := true, apart := false }
def BacksSaid : Prop := backsRow.holds Tryz.pinned (OpenSpec.ofChange backsSpec)

/-- ITS FALSE NEIGHBOUR: 'it returns false'. Refute it at one input. -/
def backsWrong : ChangeSpec := { name := "backs", fn := fun _ => fun
  | [d] => { results := [.lit (.bool false)], args := [d] }
  | _ => none }
def BacksWrongFalsely : Prop := backsRow.holds Tryz.pinned (OpenSpec.ofChange backsWrong)

/-- 'retracelaw.All': WHATEVER THE INPUT: true; the input reads as it did. -/
def allSpec : ChangeSpec := { name := "all", fn := fun _ => fun
  | [d] => { results := [.lit (.bool true)], args := [d] }
  | _ => none }
def allRow : OpenClaim := { program := "ythleadfkfnnadaagreat", sum := "0fd477ccf0fbd253948ef03d8c1ea537c0a4567cae521b7658198759a8340456", func := "retrace/retracelaw.All", spec := "all", recurses := true, apart := false }
def AllSaid : Prop := allRow.holds Tryz.pinned (OpenSpec.ofChange allSpec)

/-- ITS FALSE NEIGHBOUR: 'it returns false'. Refute it at one input. -/
def allWrong : ChangeSpec := { name := "all", fn := fun _ => fun
  | [d] => { results := [.lit (.bool false)], args := [d] }
  | _ => none }
def AllWrongFalsely : Prop := allRow.holds Tryz.pinned (OpenSpec.ofChange allWrong)

/- THE SECOND FORM. 'bulk': how many values and letters a reading holds, each counted each time it is reached (what is shared counts as often as it is met; a slice's spare places count too). A statement '..UptoSaid' is the law's where the arguments, and the package variables that the reading takes, are together of bulk at most 1048576: NARROWER than '..Said'. Prove '..Said' where nothing that the law and all that it calls make is longer than what came in: it says more and counts as full. Else prove '..UptoSaid'. A law counts once. -/
mutual
def uptoBulk {H : Type} : DataW H → Nat
  | .lit (.string bytes) => bytes.length + 1
  | .lit _ => 1
  | .nil => 1
  | .ptr d => uptoBulk d + 1
  | .slice elems spare => uptoBulkAll elems + uptoBulkAll spare + 1
  | .agg parts => uptoBulkAll parts + 1
  | .iface _ d => uptoBulk d + 1
  | .map entries => uptoBulkEntries entries + 1
  | .held _ => 1
def uptoBulkAll {H : Type} : List (DataW H) → Nat
  | [] => 0
  | d :: r => uptoBulk d + uptoBulkAll r
def uptoBulkEntries {H : Type} : List (Lit × DataW H) → Nat
  | [] => 0
  | x :: r => uptoBulkEntry x + uptoBulkEntries r
def uptoBulkEntry {H : Type} : Lit × DataW H → Nat
  | (.string bytes, d) => bytes.length + uptoBulk d + 1
  | (_, d) => uptoBulk d + 1
 end
def uptoSmall : (H : Type) → List (DataW H) → Bool := fun _ ds => decide (uptoBulkAll ds ≤ 1048576)
def OpenSpec.upto (s : _root_.Go.ChangeSpec) : _root_.Go.OpenSpec := { _root_.Go.OpenSpec.ofChange s with cond := some uptoSmall }

/-- 'retracelaw.Runs', WHERE WHAT IT READS IS OF BULK AT MOST 1048576: true; the input reads as it did. -/
def runsUptoRow : OpenClaim := { program := "ythleadfkfnnadaagreat", sum := "0fd477ccf0fbd253948ef03d8c1ea537c0a4567cae521b7658198759a8340456", func := "retrace/retracelaw.Runs", spec := "runs", recurses := true, apart := false, narrowed := true }
def RunsUptoSaid : Prop := runsUptoRow.holds Tryz.pinned (OpenSpec.upto runsSpec)

/-- 'retracelaw.News', WHERE WHAT IT READS IS OF BULK AT MOST 1048576: true; the input reads as it did. -/
def newsUptoRow : OpenClaim := { program := "ythleadfkfnnadaagreat", sum := "0fd477ccf0fbd253948ef03d8c1ea537c0a4567cae521b7658198759a8340456", func := "retrace/retracelaw.News", spec := "news", recurses := true, apart := false, narrowed := true }
def NewsUptoSaid : Prop := newsUptoRow.holds Tryz.pinned (OpenSpec.upto newsSpec)

/-- 'retracelaw.Forwards', WHERE WHAT IT READS IS OF BULK AT MOST 1048576: true; the input reads as it did. -/
def forwardsUptoRow : OpenClaim := { program := "ythleadfkfnnadaagreat", sum := "0fd477ccf0fbd253948ef03d8c1ea537c0a4567cae521b7658198759a8340456", func := "retrace/retracelaw.Forwards", spec := "forwards", recurses := true, apart := false, narrowed := true }
def ForwardsUptoSaid : Prop := forwardsUptoRow.holds Tryz.pinned (OpenSpec.upto forwardsSpec)

/-- 'retracelaw.Looks', WHERE WHAT IT READS IS OF BULK AT MOST 1048576: true; the input reads as it did. -/
def looksUptoRow : OpenClaim := { program := "ythleadfkfnnadaagreat", sum := "0fd477ccf0fbd253948ef03d8c1ea537c0a4567cae521b7658198759a8340456", func := "retrace/retracelaw.Looks", spec := "looks", recurses := true, apart := false, narrowed := true }
def LooksUptoSaid : Prop := looksUptoRow.holds Tryz.pinned (OpenSpec.upto looksSpec)

/-- 'retracelaw.Backs', WHERE WHAT IT READS IS OF BULK AT MOST 1048576: true; the input reads as it did. -/
def backsUptoRow : OpenClaim := { program := "ythleadfkfnnadaagreat", sum := "0fd477ccf0fbd253948ef03d8c1ea537c0a4567cae521b7658198759a8340456", func := "retrace/retracelaw.Backs", spec := "backs", recurses := true, apart := false, narrowed := true }
def BacksUptoSaid : Prop := backsUptoRow.holds Tryz.pinned (OpenSpec.upto backsSpec)

/-- 'retracelaw.All', WHERE WHAT IT READS IS OF BULK AT MOST 1048576: true; the input reads as it did. -/
def allUptoRow : OpenClaim := { program := "ythleadfkfnnadaagreat", sum := "0fd477ccf0fbd253948ef03d8c1ea537c0a4567cae521b7658198759a8340456", func := "retrace/retracelaw.All", spec := "all", recurses := true, apart := false, narrowed := true }
def AllUptoSaid : Prop := allUptoRow.holds Tryz.pinned (OpenSpec.upto allSpec)

end Rows
end Go.Proofs.YthleadfkfnnadaaGreat
