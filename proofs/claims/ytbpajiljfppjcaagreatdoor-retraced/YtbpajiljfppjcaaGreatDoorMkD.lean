/- Made sources: the walks of the maker's top and block. -/
import Derived.Test.YtbpajiljfppjcaaGreatDoorRtTidy
import Derived.Test.YtbpajiljfppjcaaGreatDoorPlainb
import Derived.Deep.RegionHeld3
import Derived.Deep.AppendLies
import Derived.Deep.DrawnRows
import Derived.Deep.QuietTactic
import Derived.BigQuiet
namespace Go.Proofs.YtbpajiljfppjcaaGreatDoor
namespace Rt

/-- Which of n things a raw number speaks of. -/
def pickP (c n : Int) : Int := (if c < 0 then -(c + 1) else c) % n
/-- Lines, each with its newline. -/
def unl (ls : List ByteArray) : ByteArray := ls.foldl (fun t s => t ++ s ++ ⟨#[10]⟩) ⟨#[]⟩
theorem unl_snoc (ls : List ByteArray) (s : ByteArray) : unl (ls ++ [s]) = unl ls ++ s ++ ⟨#[10]⟩ := by simp [unl]

def ifT (a n : ByteArray) : ByteArray := ⟨#[105, 102, 32]⟩ ++ a ++ ⟨#[32, 60, 32]⟩ ++ n
def whT (a n : ByteArray) : ByteArray := ⟨#[119, 104, 105, 108, 101, 32]⟩ ++ a ++ ⟨#[32, 60, 32]⟩ ++ n
def incT (a : ByteArray) : ByteArray := ⟨#[115, 101, 116, 32]⟩ ++ a ++ ⟨#[32, 116, 111, 32]⟩ ++ a ++ ⟨#[32, 43, 32, 49]⟩
def elT : ByteArray := ⟨#[101, 108, 115, 101]⟩
def enT : ByteArray := ⟨#[101, 110, 100]⟩
def prT (a n : ByteArray) : ByteArray := ⟨#[112, 114, 105, 110, 116, 32]⟩ ++ a ++ ⟨#[32, 42, 32]⟩ ++ n
def dvT (a n : ByteArray) : ByteArray := ⟨#[115, 101, 116, 32]⟩ ++ a ++ ⟨#[32, 116, 111, 32]⟩ ++ n ++ ⟨#[32, 47, 32]⟩ ++ a
def plainE (k : Int) (a b n : ByteArray) : ByteArray :=
  if k = 0 then ⟨#[115, 101, 116, 32]⟩ ++ a ++ ⟨#[32, 116, 111, 32]⟩ ++ a ++ ⟨#[32, 43, 32]⟩ ++ n
  else if k = 1 then ⟨#[115, 101, 116, 32]⟩ ++ a ++ ⟨#[32, 116, 111, 32]⟩ ++ b ++ ⟨#[32, 42, 32, 51, 32, 45, 32]⟩ ++ a
  else if k = 2 then ⟨#[115, 101, 116, 32, 116, 91]⟩ ++ a ++ ⟨#[32, 42, 32]⟩ ++ a ++ ⟨#[32, 37, 32, 52, 93, 32, 116, 111, 32]⟩ ++ b
  else if k = 3 then ⟨#[115, 101, 116, 32]⟩ ++ a ++ ⟨#[32, 116, 111, 32, 116, 91]⟩ ++ n ++ ⟨#[32, 37, 32, 54, 93]⟩
  else if k = 4 then ⟨#[112, 114, 105, 110, 116, 32]⟩ ++ a
  else if k = 5 then ⟨#[114, 101, 97, 100, 32]⟩ ++ a
  else if k = 6 then ⟨#[99, 97, 108, 108, 32, 102, 32]⟩ ++ a ++ ⟨#[44, 32]⟩ ++ n
  else ⟨#[115, 101, 116, 32]⟩ ++ a ++ ⟨#[32, 116, 111, 32, 40]⟩ ++ a ++ ⟨#[32, 61, 32]⟩ ++ b ++ ⟨#[41, 32, 43, 32]⟩ ++ n
/-- What the innermost block is; 0: none is open. -/
def topE (o : List Int) : Int := o.getLastD 0
/-- The lines of a block's number, and the blocks that are open behind it. -/
def blockE (o : List Int) (k : Int) (a n : ByteArray) : List ByteArray × List Int :=
  if k = 0 then ([ifT a n], o ++ [1])
  else if k = 1 then ([whT a n, incT a], o ++ [3])
  else if k = 2 ∧ topE o = 1 then ([elT], o.dropLast ++ [2])
  else if k = 3 ∧ 0 < topE o then ([enT], o.dropLast)
  else if k = 2 then ([prT a n], o)
  else ([dvT a n], o)
def digitT (d : Int) : ByteArray := ⟨#[UInt8.ofNat (48 + d.toNat)]⟩
def varE (vars : List ByteArray) (i : Int) : ByteArray := (vars[i.toNat]?).getD ⟨#[]⟩
def stepE (vars : List ByteArray) (c : Int) (o : List Int) : List ByteArray × List Int :=
  let v := pickP c 1099511627776
  let a := varE vars (v / 12 % vars.length)
  let b := varE vars (v / 60 % vars.length)
  let n := digitT (v / 300 % 10)
  if v % 12 < 8 then ([plainE (v % 12) a b n], o) else blockE o (v % 12 - 8) a n
def bodyE (vars : List ByteArray) : List Int → List Int → List ByteArray × List Int
  | [], o => ([], o)
  | c :: r, o => ((stepE vars c o).1 ++ (bodyE vars r (stepE vars c o).2).1, (bodyE vars r (stepE vars c o).2).2)
def bodyL (vars : List ByteArray) (code : List Int) : List ByteArray :=
  (bodyE vars (code.take 14) []).1 ++ List.replicate ((bodyE vars (code.take 14) []).2.length + 1) enT

def varsF : List ByteArray := [⟨#[112]⟩, ⟨#[113]⟩, ⟨#[120]⟩, ⟨#[112]⟩, ⟨#[122]⟩]
def varsM : List ByteArray := [⟨#[120]⟩, ⟨#[121]⟩, ⟨#[122]⟩]
def headT : List ByteArray := [⟨#[118, 97, 114, 32, 120]⟩, ⟨#[118, 97, 114, 32, 121]⟩, ⟨#[118, 97, 114, 32, 122]⟩, ⟨#[97, 114, 114, 97, 121, 32, 116, 32, 52]⟩, ⟨#[112, 114, 111, 99, 32, 102, 32, 112, 32, 113]⟩]
def mainT : ByteArray := ⟨#[112, 114, 111, 99, 32, 109, 97, 105, 110]⟩
def srcL (code : List Int) : List ByteArray := headT ++ bodyL varsF (code.take (code.length / 2)) ++ [mainT] ++ bodyL varsM (code.drop (code.length / 2))
/-- A right source, out of numbers. -/
def srcB (code : List Int) : ByteArray := unl (srcL code)

/-- A name that is a variable or a parameter there. -/
def vName (pars : List ByteArray) (x : ByteArray) : Bool := pars.any (fun y => decide (y = x)) || varsM.any (fun y => decide (y = x))
def tName : ByteArray := ⟨#[116]⟩
def fName : ByteArray := ⟨#[102]⟩
def opGood (pars : List ByteArray) (o : Pop) : Bool := if o.code = 2 then vName pars o.name else if o.code = 3 then decide (o.name = tName) else true
/-- A form whose names may stand in a procedure with these parameters. -/
def fmGood (pars : List ByteArray) (fm : PForm) : Bool :=
  fm.index.all (opGood pars) && fm.values.all (fun e => e.all (opGood pars)) &&
  (if fm.kind = 8 ∨ fm.kind = 11 then vName pars fm.name else if fm.kind = 9 then decide (fm.name = tName) else if fm.kind = 12 then decide (fm.name = fName) && decide (fm.values.length = 2) else decide (fm.kind = 4 ∨ fm.kind = 5 ∨ fm.kind = 6 ∨ fm.kind = 7 ∨ fm.kind = 10))
/-- A line of that kind that may stand in a procedure with these parameters. -/
def lnGood (pars : List ByteArray) (k : Int) (s : ByteArray) : Bool :=
  match rdLine s with
  | none => false
  | some p => decide (p.form.kind = k) && fmGood pars p.form && decide (s.size ≤ 40) && decide (p.depth = 0) && decide (p.opener = 0) && decide (p.proc = 0)

def parsF : List ByteArray := [⟨#[112]⟩, ⟨#[113]⟩]
def digs : List ByteArray := [⟨#[48]⟩, ⟨#[49]⟩, ⟨#[50]⟩, ⟨#[51]⟩, ⟨#[52]⟩, ⟨#[53]⟩, ⟨#[54]⟩, ⟨#[55]⟩, ⟨#[56]⟩, ⟨#[57]⟩]
end Rt
end Go.Proofs.YtbpajiljfppjcaaGreatDoor

namespace Go.Proofs.YtbpajiljfppjcaaGreatDoor
open Go.RowKit

theorem pick_any (w : World) (c n : Int) (h1 : -9223372036854775808 ≤ c) (h2 : c ≤ 9223372036854775807) (hn : 0 < n) (hn2 : n ≤ 9223372036854775807) :
    Calls Tryz.prog 11 #[.int .i64 c, .int .i64 n] w fun e w' => e = .returned (.int .i64 (Rt.pickP c n)) ∧ w' = w := by
  have hn0 : (n == 0) = false := by simp; omega
  by_cases h0 : c < 0
  · have HE : Hid (Rt.pickP c n = (-(c + 1)) % n) := hide (by unfold Rt.pickP; rw [if_pos h0])
    have e1 : IntKind.i64.wrap (c + 1) = c + 1 := by rw [IntWalk.i64_left, IntWalk.wrap64_in _ (by omega)]
    have e2 : IntKind.i64.wrap (-(c + 1)) = -(c + 1) := by rw [IntWalk.i64_left, IntWalk.wrap64_in _ (by omega)]
    go_enter Tryz.func11, Tryz.ntmps11
    go_wp2_with fail
    go_ret
    have e3 : -((c + 1).tmod n) = (-(c + 1)) % n := by rw [← Int.neg_tmod, Int.tmod_eq_emod_of_nonneg (by omega)]
    exact ⟨by rw [unhide HE, ← e3]; rfl, rfl⟩
  · have HE : Hid (Rt.pickP c n = c % n) := hide (by unfold Rt.pickP; rw [if_neg h0])
    go_enter Tryz.func11, Tryz.ntmps11
    go_wp2_with fail
    go_ret
    exact ⟨by rw [unhide HE]; rfl, rfl⟩

theorem small_any (w : World) (d : Int) (h0 : 0 ≤ d) (h1 : d < 10) :
    Calls Tryz.prog 133 #[.int .i64 d] w fun e w' => e = .returned (.string (Rt.digitT d)) ∧ Below w.heap.size w w' := by
  have hd : d = 0 ∨ d = 1 ∨ d = 2 ∨ d = 3 ∨ d = 4 ∨ d = 5 ∨ d = 6 ∨ d = 7 ∨ d = 8 ∨ d = 9 := by omega
  rcases hd with rfl | rfl | rfl | rfl | rfl | rfl | rfl | rfl | rfl | rfl
  all_goals
    go_enter Tryz.func133, Tryz.ntmps133
    go_wp2_with fail
    go_ret
    exact ⟨rfl, Below.refl _ _⟩
theorem formatInt_any (w : World) (d : Int) (h0 : 0 ≤ d) (h1 : d < 10) :
    Calls Tryz.prog 114 #[.int .i64 d, .int .i64 10] w fun e w' => e = .returned (.string (Rt.digitT d)) ∧ Below w.heap.size w w' := by
  have h2 : d < 100 := by omega
  go_enter Tryz.func114, Tryz.ntmps114
  go_wp2_with fail
  refine (small_any _ d h0 h1).mono ?_
  rintro e w1 ⟨rfl, hb⟩
  go_wp2_with fail
  go_ret
  exact ⟨rfl, hb⟩
theorem itoa1_any (w : World) (d : Int) (h0 : 0 ≤ d) (h1 : d < 10) :
    Calls Tryz.prog 82 #[.int .i64 d] w fun e w' => e = .returned (.string (Rt.digitT d)) ∧ Below w.heap.size w w' := by
  go_enter Tryz.func82, Tryz.ntmps82
  go_wp2_with fail
  refine (formatInt_any _ d h0 h1).mono ?_
  rintro e w1 ⟨rfl, hb⟩
  go_wp2_with fail
  go_ret
  exact ⟨rfl, hb⟩
theorem itoa_any (w : World) (d : Int) (h0 : 0 ≤ d) (h1 : d < 10) :
    Calls Tryz.prog 57 #[.int .i64 d] w fun e w' => e = .returned (.string (Rt.digitT d)) ∧ Below w.heap.size w w' := by
  go_enter Tryz.func57, Tryz.ntmps57
  go_wp2_with fail
  refine (itoa1_any _ d h0 h1).mono ?_
  rintro e w1 ⟨rfl, hb⟩
  go_wp2_with fail
  go_ret
  exact ⟨rfl, hb⟩
end Go.Proofs.YtbpajiljfppjcaaGreatDoor

namespace Go.Proofs.YtbpajiljfppjcaaGreatDoor
open Go.RowKit

/-- The maker at block M: its lines, and the blocks that are open. -/
structure MakS (w : World) (M : Nat) (ls : List ByteArray) (o : List Int) (ov : Value) : Prop where
  block : w.heap[M]? = some (.cells #[.string (Rt.unl ls), ov] 67 (0, 0))
  own : w.ownsRow (M + 1) 3 1 ov o.length (o.map (Value.int .i64))
/-- What a maker's call leaves as it was. -/
structure MFr (M : Nat) (w w' : World) : Prop where
  os : w'.os = w.os
  tape : w'.tape = w.tape
  output : w'.output = w.output
  size : w.heap.size ≤ w'.heap.size
  block : ∀ k x, w.heap[k]? = some x → k ≠ M → (k < M ∨ ∀ c, x ≠ .cells c 3 (0, 0)) → w'.heap[k]? = some x
theorem MFr.refl (M : Nat) (w : World) : MFr M w w := ⟨rfl, rfl, rfl, Nat.le_refl _, fun _ _ h _ _ => h⟩
theorem MFr.trans {M : Nat} {w w1 w2 : World} (h : MFr M w w1) (h2 : MFr M w1 w2) : MFr M w w2 :=
  ⟨h2.os.trans h.os, h2.tape.trans h.tape, h2.output.trans h.output, Nat.le_trans h.size h2.size, fun k x hk hne hx => h2.block k x (h.block k x hk hne hx) hne hx⟩
theorem MFr.of_below {M : Nat} {w w1 : World} (h : Below w.heap.size w w1) : MFr M w w1 := ⟨h.os, h.tape, h.output, h.size, fun k x hk _ _ => by rw [h.block k (block_lt hk)]; exact hk⟩
theorem MakS.later {w w' : World} {M : Nat} {ls : List ByteArray} {o : List Int} {ov : Value} (h : MakS w M ls o ov) (hb : Below w.heap.size w w') : MakS w' M ls o ov := ⟨block_later h.block hb, own_later h.own hb⟩
/-- What a maker's call says. -/
def MakP (M : Nat) (ls : List ByteArray) (o : List Int) (w : World) (e : Ending) (w' : World) : Prop := e = .returned (.tuple #[]) ∧ (∃ ov, MakS w' M ls o ov) ∧ MFr M w w'

theorem madd_text {a b : ByteArray} (h : a.size + b.size ≤ 9223372036854775807) (w : World) : (Op.stringOp .add a b).run Tryz.prog w = .ok (.string (a ++ b)) w := run_string_add_sum w a b h

set_option maxHeartbeats 1000000 in
theorem mline_any (w : World) (M : Nat) (ls : List ByteArray) (o : List Int) (ov : Value) (s : ByteArray) (h : MakS w M ls o ov) (hsz : (Rt.unl ls).size + s.size ≤ 1000000) :
    Calls Tryz.prog 32 #[.pointer (some ⟨M, 0, none⟩), .string s] w fun e w' => e = .returned (.tuple #[]) ∧ MakS w' M (ls ++ [s]) o ov ∧ MFr M w w' := by
  have c0 := cell_of_block h.block 0 (by simp)
  have f0 := free_of_block h.block 0
  simp at c0
  have a1 := madd_text (a := Rt.unl ls) (b := s) (by omega)
  have a2 := madd_text (a := Rt.unl ls ++ s) (b := ⟨#[10]⟩) (by rw [ByteArray.size_append]; show _ + 1 ≤ _; omega)
  have HF : Hid (MakS (w.setCell ⟨M, 0, none⟩ (.string (Rt.unl ls ++ s ++ ⟨#[10]⟩))) M (ls ++ [s]) o ov ∧ MFr M w (w.setCell ⟨M, 0, none⟩ (.string (Rt.unl ls ++ s ++ ⟨#[10]⟩)))) := by
    refine hide ⟨⟨?_, ?_⟩, ⟨rfl, rfl, rfl, by simp [World.setCell], fun k x hk hne _ => ?_⟩⟩
    · rw [Rt.unl_snoc]
      have := set_block h.block 0 (.string (Rt.unl ls ++ s ++ ⟨#[10]⟩))
      simpa using this
    · exact ownsRow_setCell_below h.own (by show M < M + 1; omega) _
    · rw [Below.heap_setCell w ⟨M, 0, none⟩ _ k hne]; exact hk
  clear h
  generalize Rt.unl ls ++ s = t at *
  generalize Rt.unl ls = u at *
  go_enter Tryz.func32, Tryz.ntmps32
  go_wp2_with fail
  trace_state
  go_end0
  exact ⟨rfl, unhide HF⟩
end Go.Proofs.YtbpajiljfppjcaaGreatDoor


namespace Go.Proofs.YtbpajiljfppjcaaGreatDoor
open Go.RowKit

theorem lit_size (l : List UInt8) : (ByteArray.mk l.toArray).size = l.length := by simp [ByteArray.size]
theorem plain_size (k : Int) (a b n : ByteArray) (ha : a.size ≤ 8) (hb : b.size ≤ 8) (hn : n.size ≤ 8) : (Rt.plainE k a b n).size ≤ 100 := by
  unfold Rt.plainE
  repeat' split
  all_goals
    simp only [ByteArray.size_append, lit_size, List.length_cons, List.length_nil]
    omega

set_option maxHeartbeats 1000000 in
theorem plain_0 (w : World) (M : Nat) (ls : List ByteArray) (o : List Int) (ov : Value) (a b n : ByteArray) (h : MakS w M ls o ov) (ha : a.size ≤ 8) (hb : b.size ≤ 8) (hn : n.size ≤ 8) (hsz : (Rt.unl ls).size ≤ 900000) :
    Calls Tryz.prog 58 #[.pointer (some ⟨M, 0, none⟩), .int .i64 0, .string a, .string b, .string n] w (MakP M (ls ++ [Rt.plainE 0 a b n]) o w) := by
  have hps := plain_size 0 a b n ha hb hn
  have HE := hide (show Rt.plainE 0 a b n = (⟨#[115, 101, 116, 32]⟩ : ByteArray) ++ a ++ (⟨#[32, 116, 111, 32]⟩ : ByteArray) ++ a ++ (⟨#[32, 43, 32]⟩ : ByteArray) ++ n by simp [Rt.plainE])
  have q0 := madd_text (a := (⟨#[115, 101, 116, 32]⟩ : ByteArray)) (b := a) (by simp only [lit_size, List.length_cons, List.length_nil]; have := ha; have := hn; have := hb; omega)
  have q1 := madd_text (a := (⟨#[115, 101, 116, 32]⟩ : ByteArray) ++ a) (b := (⟨#[32, 116, 111, 32]⟩ : ByteArray)) (by simp only [ByteArray.size_append, lit_size, List.length_cons, List.length_nil]; have := ha; have := hn; have := hb; omega)
  have q2 := madd_text (a := (⟨#[115, 101, 116, 32]⟩ : ByteArray) ++ a ++ (⟨#[32, 116, 111, 32]⟩ : ByteArray)) (b := a) (by simp only [ByteArray.size_append, lit_size, List.length_cons, List.length_nil]; have := ha; have := hn; have := hb; omega)
  have q3 := madd_text (a := (⟨#[115, 101, 116, 32]⟩ : ByteArray) ++ a ++ (⟨#[32, 116, 111, 32]⟩ : ByteArray) ++ a) (b := (⟨#[32, 43, 32]⟩ : ByteArray)) (by simp only [ByteArray.size_append, lit_size, List.length_cons, List.length_nil]; have := ha; have := hn; have := hb; omega)
  have q4 := madd_text (a := (⟨#[115, 101, 116, 32]⟩ : ByteArray) ++ a ++ (⟨#[32, 116, 111, 32]⟩ : ByteArray) ++ a ++ (⟨#[32, 43, 32]⟩ : ByteArray)) (b := n) (by simp only [ByteArray.size_append, lit_size, List.length_cons, List.length_nil]; have := ha; have := hn; have := hb; omega)
  go_enter Tryz.func58, Tryz.ntmps58
  go_wp2_with fail
  rw [← unhide HE]
  refine (mline_any _ M ls o ov _ h (by omega)).mono ?_
  rintro e w1 ⟨rfl, h1, h2⟩
  have HF := hide (And.intro h1 h2)
  clear h1 h2 h
  go_wp2_with fail
  go_end0
  exact ⟨rfl, ⟨_, (unhide HF).1⟩, (unhide HF).2⟩

set_option maxHeartbeats 1000000 in
theorem plain_1 (w : World) (M : Nat) (ls : List ByteArray) (o : List Int) (ov : Value) (a b n : ByteArray) (h : MakS w M ls o ov) (ha : a.size ≤ 8) (hb : b.size ≤ 8) (hn : n.size ≤ 8) (hsz : (Rt.unl ls).size ≤ 900000) :
    Calls Tryz.prog 58 #[.pointer (some ⟨M, 0, none⟩), .int .i64 1, .string a, .string b, .string n] w (MakP M (ls ++ [Rt.plainE 1 a b n]) o w) := by
  have hps := plain_size 1 a b n ha hb hn
  have HE := hide (show Rt.plainE 1 a b n = (⟨#[115, 101, 116, 32]⟩ : ByteArray) ++ a ++ (⟨#[32, 116, 111, 32]⟩ : ByteArray) ++ b ++ (⟨#[32, 42, 32, 51, 32, 45, 32]⟩ : ByteArray) ++ a by simp [Rt.plainE])
  have q0 := madd_text (a := (⟨#[115, 101, 116, 32]⟩ : ByteArray)) (b := a) (by simp only [lit_size, List.length_cons, List.length_nil]; have := ha; have := hn; have := hb; omega)
  have q1 := madd_text (a := (⟨#[115, 101, 116, 32]⟩ : ByteArray) ++ a) (b := (⟨#[32, 116, 111, 32]⟩ : ByteArray)) (by simp only [ByteArray.size_append, lit_size, List.length_cons, List.length_nil]; have := ha; have := hn; have := hb; omega)
  have q2 := madd_text (a := (⟨#[115, 101, 116, 32]⟩ : ByteArray) ++ a ++ (⟨#[32, 116, 111, 32]⟩ : ByteArray)) (b := b) (by simp only [ByteArray.size_append, lit_size, List.length_cons, List.length_nil]; have := ha; have := hn; have := hb; omega)
  have q3 := madd_text (a := (⟨#[115, 101, 116, 32]⟩ : ByteArray) ++ a ++ (⟨#[32, 116, 111, 32]⟩ : ByteArray) ++ b) (b := (⟨#[32, 42, 32, 51, 32, 45, 32]⟩ : ByteArray)) (by simp only [ByteArray.size_append, lit_size, List.length_cons, List.length_nil]; have := ha; have := hn; have := hb; omega)
  have q4 := madd_text (a := (⟨#[115, 101, 116, 32]⟩ : ByteArray) ++ a ++ (⟨#[32, 116, 111, 32]⟩ : ByteArray) ++ b ++ (⟨#[32, 42, 32, 51, 32, 45, 32]⟩ : ByteArray)) (b := a) (by simp only [ByteArray.size_append, lit_size, List.length_cons, List.length_nil]; have := ha; have := hn; have := hb; omega)
  go_enter Tryz.func58, Tryz.ntmps58
  go_wp2_with fail
  rw [← unhide HE]
  refine (mline_any _ M ls o ov _ h (by omega)).mono ?_
  rintro e w1 ⟨rfl, h1, h2⟩
  have HF := hide (And.intro h1 h2)
  clear h1 h2 h
  go_wp2_with fail
  go_end0
  exact ⟨rfl, ⟨_, (unhide HF).1⟩, (unhide HF).2⟩

set_option maxHeartbeats 1000000 in
theorem plain_2 (w : World) (M : Nat) (ls : List ByteArray) (o : List Int) (ov : Value) (a b n : ByteArray) (h : MakS w M ls o ov) (ha : a.size ≤ 8) (hb : b.size ≤ 8) (hn : n.size ≤ 8) (hsz : (Rt.unl ls).size ≤ 900000) :
    Calls Tryz.prog 58 #[.pointer (some ⟨M, 0, none⟩), .int .i64 2, .string a, .string b, .string n] w (MakP M (ls ++ [Rt.plainE 2 a b n]) o w) := by
  have hps := plain_size 2 a b n ha hb hn
  have HE := hide (show Rt.plainE 2 a b n = (⟨#[115, 101, 116, 32, 116, 91]⟩ : ByteArray) ++ a ++ (⟨#[32, 42, 32]⟩ : ByteArray) ++ a ++ (⟨#[32, 37, 32, 52, 93, 32, 116, 111, 32]⟩ : ByteArray) ++ b by simp [Rt.plainE])
  have q0 := madd_text (a := (⟨#[115, 101, 116, 32, 116, 91]⟩ : ByteArray)) (b := a) (by simp only [lit_size, List.length_cons, List.length_nil]; have := ha; have := hn; have := hb; omega)
  have q1 := madd_text (a := (⟨#[115, 101, 116, 32, 116, 91]⟩ : ByteArray) ++ a) (b := (⟨#[32, 42, 32]⟩ : ByteArray)) (by simp only [ByteArray.size_append, lit_size, List.length_cons, List.length_nil]; have := ha; have := hn; have := hb; omega)
  have q2 := madd_text (a := (⟨#[115, 101, 116, 32, 116, 91]⟩ : ByteArray) ++ a ++ (⟨#[32, 42, 32]⟩ : ByteArray)) (b := a) (by simp only [ByteArray.size_append, lit_size, List.length_cons, List.length_nil]; have := ha; have := hn; have := hb; omega)
  have q3 := madd_text (a := (⟨#[115, 101, 116, 32, 116, 91]⟩ : ByteArray) ++ a ++ (⟨#[32, 42, 32]⟩ : ByteArray) ++ a) (b := (⟨#[32, 37, 32, 52, 93, 32, 116, 111, 32]⟩ : ByteArray)) (by simp only [ByteArray.size_append, lit_size, List.length_cons, List.length_nil]; have := ha; have := hn; have := hb; omega)
  have q4 := madd_text (a := (⟨#[115, 101, 116, 32, 116, 91]⟩ : ByteArray) ++ a ++ (⟨#[32, 42, 32]⟩ : ByteArray) ++ a ++ (⟨#[32, 37, 32, 52, 93, 32, 116, 111, 32]⟩ : ByteArray)) (b := b) (by simp only [ByteArray.size_append, lit_size, List.length_cons, List.length_nil]; have := ha; have := hn; have := hb; omega)
  go_enter Tryz.func58, Tryz.ntmps58
  go_wp2_with fail
  rw [← unhide HE]
  refine (mline_any _ M ls o ov _ h (by omega)).mono ?_
  rintro e w1 ⟨rfl, h1, h2⟩
  have HF := hide (And.intro h1 h2)
  clear h1 h2 h
  go_wp2_with fail
  go_end0
  exact ⟨rfl, ⟨_, (unhide HF).1⟩, (unhide HF).2⟩

set_option maxHeartbeats 1000000 in
theorem plain_3 (w : World) (M : Nat) (ls : List ByteArray) (o : List Int) (ov : Value) (a b n : ByteArray) (h : MakS w M ls o ov) (ha : a.size ≤ 8) (hb : b.size ≤ 8) (hn : n.size ≤ 8) (hsz : (Rt.unl ls).size ≤ 900000) :
    Calls Tryz.prog 58 #[.pointer (some ⟨M, 0, none⟩), .int .i64 3, .string a, .string b, .string n] w (MakP M (ls ++ [Rt.plainE 3 a b n]) o w) := by
  have hps := plain_size 3 a b n ha hb hn
  have HE := hide (show Rt.plainE 3 a b n = (⟨#[115, 101, 116, 32]⟩ : ByteArray) ++ a ++ (⟨#[32, 116, 111, 32, 116, 91]⟩ : ByteArray) ++ n ++ (⟨#[32, 37, 32, 54, 93]⟩ : ByteArray) by simp [Rt.plainE])
  have q0 := madd_text (a := (⟨#[115, 101, 116, 32]⟩ : ByteArray)) (b := a) (by simp only [lit_size, List.length_cons, List.length_nil]; have := ha; have := hn; have := hb; omega)
  have q1 := madd_text (a := (⟨#[115, 101, 116, 32]⟩ : ByteArray) ++ a) (b := (⟨#[32, 116, 111, 32, 116, 91]⟩ : ByteArray)) (by simp only [ByteArray.size_append, lit_size, List.length_cons, List.length_nil]; have := ha; have := hn; have := hb; omega)
  have q2 := madd_text (a := (⟨#[115, 101, 116, 32]⟩ : ByteArray) ++ a ++ (⟨#[32, 116, 111, 32, 116, 91]⟩ : ByteArray)) (b := n) (by simp only [ByteArray.size_append, lit_size, List.length_cons, List.length_nil]; have := ha; have := hn; have := hb; omega)
  have q3 := madd_text (a := (⟨#[115, 101, 116, 32]⟩ : ByteArray) ++ a ++ (⟨#[32, 116, 111, 32, 116, 91]⟩ : ByteArray) ++ n) (b := (⟨#[32, 37, 32, 54, 93]⟩ : ByteArray)) (by simp only [ByteArray.size_append, lit_size, List.length_cons, List.length_nil]; have := ha; have := hn; have := hb; omega)
  go_enter Tryz.func58, Tryz.ntmps58
  go_wp2_with fail
  rw [← unhide HE]
  refine (mline_any _ M ls o ov _ h (by omega)).mono ?_
  rintro e w1 ⟨rfl, h1, h2⟩
  have HF := hide (And.intro h1 h2)
  clear h1 h2 h
  go_wp2_with fail
  go_end0
  exact ⟨rfl, ⟨_, (unhide HF).1⟩, (unhide HF).2⟩

set_option maxHeartbeats 1000000 in
theorem plain_4 (w : World) (M : Nat) (ls : List ByteArray) (o : List Int) (ov : Value) (a b n : ByteArray) (h : MakS w M ls o ov) (ha : a.size ≤ 8) (hb : b.size ≤ 8) (hn : n.size ≤ 8) (hsz : (Rt.unl ls).size ≤ 900000) :
    Calls Tryz.prog 58 #[.pointer (some ⟨M, 0, none⟩), .int .i64 4, .string a, .string b, .string n] w (MakP M (ls ++ [Rt.plainE 4 a b n]) o w) := by
  have hps := plain_size 4 a b n ha hb hn
  have HE := hide (show Rt.plainE 4 a b n = (⟨#[112, 114, 105, 110, 116, 32]⟩ : ByteArray) ++ a by simp [Rt.plainE])
  have q0 := madd_text (a := (⟨#[112, 114, 105, 110, 116, 32]⟩ : ByteArray)) (b := a) (by simp only [lit_size, List.length_cons, List.length_nil]; have := ha; have := hn; have := hb; omega)
  go_enter Tryz.func58, Tryz.ntmps58
  go_wp2_with fail
  rw [← unhide HE]
  refine (mline_any _ M ls o ov _ h (by omega)).mono ?_
  rintro e w1 ⟨rfl, h1, h2⟩
  have HF := hide (And.intro h1 h2)
  clear h1 h2 h
  go_wp2_with fail
  go_end0
  exact ⟨rfl, ⟨_, (unhide HF).1⟩, (unhide HF).2⟩

set_option maxHeartbeats 1000000 in
theorem plain_5 (w : World) (M : Nat) (ls : List ByteArray) (o : List Int) (ov : Value) (a b n : ByteArray) (h : MakS w M ls o ov) (ha : a.size ≤ 8) (hb : b.size ≤ 8) (hn : n.size ≤ 8) (hsz : (Rt.unl ls).size ≤ 900000) :
    Calls Tryz.prog 58 #[.pointer (some ⟨M, 0, none⟩), .int .i64 5, .string a, .string b, .string n] w (MakP M (ls ++ [Rt.plainE 5 a b n]) o w) := by
  have hps := plain_size 5 a b n ha hb hn
  have HE := hide (show Rt.plainE 5 a b n = (⟨#[114, 101, 97, 100, 32]⟩ : ByteArray) ++ a by simp [Rt.plainE])
  have q0 := madd_text (a := (⟨#[114, 101, 97, 100, 32]⟩ : ByteArray)) (b := a) (by simp only [lit_size, List.length_cons, List.length_nil]; have := ha; have := hn; have := hb; omega)
  go_enter Tryz.func58, Tryz.ntmps58
  go_wp2_with fail
  rw [← unhide HE]
  refine (mline_any _ M ls o ov _ h (by omega)).mono ?_
  rintro e w1 ⟨rfl, h1, h2⟩
  have HF := hide (And.intro h1 h2)
  clear h1 h2 h
  go_wp2_with fail
  go_end0
  exact ⟨rfl, ⟨_, (unhide HF).1⟩, (unhide HF).2⟩

set_option maxHeartbeats 1000000 in
theorem plain_6 (w : World) (M : Nat) (ls : List ByteArray) (o : List Int) (ov : Value) (a b n : ByteArray) (h : MakS w M ls o ov) (ha : a.size ≤ 8) (hb : b.size ≤ 8) (hn : n.size ≤ 8) (hsz : (Rt.unl ls).size ≤ 900000) :
    Calls Tryz.prog 58 #[.pointer (some ⟨M, 0, none⟩), .int .i64 6, .string a, .string b, .string n] w (MakP M (ls ++ [Rt.plainE 6 a b n]) o w) := by
  have hps := plain_size 6 a b n ha hb hn
  have HE := hide (show Rt.plainE 6 a b n = (⟨#[99, 97, 108, 108, 32, 102, 32]⟩ : ByteArray) ++ a ++ (⟨#[44, 32]⟩ : ByteArray) ++ n by simp [Rt.plainE])
  have q0 := madd_text (a := (⟨#[99, 97, 108, 108, 32, 102, 32]⟩ : ByteArray)) (b := a) (by simp only [lit_size, List.length_cons, List.length_nil]; have := ha; have := hn; have := hb; omega)
  have q1 := madd_text (a := (⟨#[99, 97, 108, 108, 32, 102, 32]⟩ : ByteArray) ++ a) (b := (⟨#[44, 32]⟩ : ByteArray)) (by simp only [ByteArray.size_append, lit_size, List.length_cons, List.length_nil]; have := ha; have := hn; have := hb; omega)
  have q2 := madd_text (a := (⟨#[99, 97, 108, 108, 32, 102, 32]⟩ : ByteArray) ++ a ++ (⟨#[44, 32]⟩ : ByteArray)) (b := n) (by simp only [ByteArray.size_append, lit_size, List.length_cons, List.length_nil]; have := ha; have := hn; have := hb; omega)
  go_enter Tryz.func58, Tryz.ntmps58
  go_wp2_with fail
  rw [← unhide HE]
  refine (mline_any _ M ls o ov _ h (by omega)).mono ?_
  rintro e w1 ⟨rfl, h1, h2⟩
  have HF := hide (And.intro h1 h2)
  clear h1 h2 h
  go_wp2_with fail
  go_end0
  exact ⟨rfl, ⟨_, (unhide HF).1⟩, (unhide HF).2⟩

set_option maxHeartbeats 1000000 in
theorem plain_7 (w : World) (M : Nat) (ls : List ByteArray) (o : List Int) (ov : Value) (a b n : ByteArray) (h : MakS w M ls o ov) (ha : a.size ≤ 8) (hb : b.size ≤ 8) (hn : n.size ≤ 8) (hsz : (Rt.unl ls).size ≤ 900000) :
    Calls Tryz.prog 58 #[.pointer (some ⟨M, 0, none⟩), .int .i64 7, .string a, .string b, .string n] w (MakP M (ls ++ [Rt.plainE 7 a b n]) o w) := by
  have hps := plain_size 7 a b n ha hb hn
  have HE := hide (show Rt.plainE 7 a b n = (⟨#[115, 101, 116, 32]⟩ : ByteArray) ++ a ++ (⟨#[32, 116, 111, 32, 40]⟩ : ByteArray) ++ a ++ (⟨#[32, 61, 32]⟩ : ByteArray) ++ b ++ (⟨#[41, 32, 43, 32]⟩ : ByteArray) ++ n by simp [Rt.plainE])
  have q0 := madd_text (a := (⟨#[115, 101, 116, 32]⟩ : ByteArray)) (b := a) (by simp only [lit_size, List.length_cons, List.length_nil]; have := ha; have := hn; have := hb; omega)
  have q1 := madd_text (a := (⟨#[115, 101, 116, 32]⟩ : ByteArray) ++ a) (b := (⟨#[32, 116, 111, 32, 40]⟩ : ByteArray)) (by simp only [ByteArray.size_append, lit_size, List.length_cons, List.length_nil]; have := ha; have := hn; have := hb; omega)
  have q2 := madd_text (a := (⟨#[115, 101, 116, 32]⟩ : ByteArray) ++ a ++ (⟨#[32, 116, 111, 32, 40]⟩ : ByteArray)) (b := a) (by simp only [ByteArray.size_append, lit_size, List.length_cons, List.length_nil]; have := ha; have := hn; have := hb; omega)
  have q3 := madd_text (a := (⟨#[115, 101, 116, 32]⟩ : ByteArray) ++ a ++ (⟨#[32, 116, 111, 32, 40]⟩ : ByteArray) ++ a) (b := (⟨#[32, 61, 32]⟩ : ByteArray)) (by simp only [ByteArray.size_append, lit_size, List.length_cons, List.length_nil]; have := ha; have := hn; have := hb; omega)
  have q4 := madd_text (a := (⟨#[115, 101, 116, 32]⟩ : ByteArray) ++ a ++ (⟨#[32, 116, 111, 32, 40]⟩ : ByteArray) ++ a ++ (⟨#[32, 61, 32]⟩ : ByteArray)) (b := b) (by simp only [ByteArray.size_append, lit_size, List.length_cons, List.length_nil]; have := ha; have := hn; have := hb; omega)
  have q5 := madd_text (a := (⟨#[115, 101, 116, 32]⟩ : ByteArray) ++ a ++ (⟨#[32, 116, 111, 32, 40]⟩ : ByteArray) ++ a ++ (⟨#[32, 61, 32]⟩ : ByteArray) ++ b) (b := (⟨#[41, 32, 43, 32]⟩ : ByteArray)) (by simp only [ByteArray.size_append, lit_size, List.length_cons, List.length_nil]; have := ha; have := hn; have := hb; omega)
  have q6 := madd_text (a := (⟨#[115, 101, 116, 32]⟩ : ByteArray) ++ a ++ (⟨#[32, 116, 111, 32, 40]⟩ : ByteArray) ++ a ++ (⟨#[32, 61, 32]⟩ : ByteArray) ++ b ++ (⟨#[41, 32, 43, 32]⟩ : ByteArray)) (b := n) (by simp only [ByteArray.size_append, lit_size, List.length_cons, List.length_nil]; have := ha; have := hn; have := hb; omega)
  go_enter Tryz.func58, Tryz.ntmps58
  go_wp2_with fail
  rw [← unhide HE]
  refine (mline_any _ M ls o ov _ h (by omega)).mono ?_
  rintro e w1 ⟨rfl, h1, h2⟩
  have HF := hide (And.intro h1 h2)
  clear h1 h2 h
  go_wp2_with fail
  go_end0
  exact ⟨rfl, ⟨_, (unhide HF).1⟩, (unhide HF).2⟩

end Go.Proofs.YtbpajiljfppjcaaGreatDoor

namespace Go.Proofs.YtbpajiljfppjcaaGreatDoor
open Go.RowKit
attribute [local go_sem ↓] Go.wp_at_zero Go.wp_at_succ

theorem ints_dec (o : List Int) : o = [] ∨ ∃ pre x, o = pre ++ [x] := by
  rcases List.eq_nil_or_concat o with h | ⟨pre, b, h⟩
  · exact Or.inl h
  · exact Or.inr ⟨pre, b, by simpa using h⟩
theorem MakS.last {w : World} {M : Nat} {ls : List ByteArray} {pre : List Int} {x : Int} {ov : Value} (h : MakS w M ls (pre ++ [x]) ov) :
    ∃ g cap, ov = .slice (some ⟨g, 0, none⟩) (pre.length + 1) cap ∧ M < g ∧ w.cell? ⟨g, pre.length, none⟩ = some (.int .i64 x) := by
  have e0 : ((pre ++ [x]).map (Value.int .i64))[pre.length]? = some (.int .i64 x) := by simp
  obtain ⟨g, cap, rfl, hg, _, c0⟩ := own_cell h.own e0
  exact ⟨g, cap, by simp, by omega, c0⟩
theorem kwrapm1 (m : Nat) (h : m + 1 ≤ 1000) : IntKind.i64.wrap ((m : Int) + 1 - 1) = (m : Int) := by
  rw [show (m : Int) + 1 - 1 = (m : Int) by omega, IntWalk.i64_left, IntWalk.wrap64_in _ (by omega)]
theorem kwrapm0 (m : Nat) (h : m + 1 ≤ 1000) : IntKind.i64.wrap (m : Int) = (m : Int) := by
  rw [IntWalk.i64_left, IntWalk.wrap64_in _ (by omega)]
theorem mdrewN (w : World) (n : Nat) : Below w.heap.size w (w.drewN n) := ⟨rfl, rfl, rfl, Nat.le_refl _, fun _ _ => rfl⟩

set_option maxHeartbeats 1000000 in
theorem top_any (w : World) (M : Nat) (ls : List ByteArray) (o : List Int) (ov : Value) (h : MakS w M ls o ov) (hlen : o.length ≤ 1000) :
    Calls Tryz.prog 83 #[.pointer (some ⟨M, 0, none⟩)] w fun e w' => e = .returned (.int .i64 (Rt.topE o)) ∧ Below w.heap.size w w' := by
  have c1 := cell_of_block h.block 1 (by simp)
  simp at c1
  rcases ints_dec o with rfl | ⟨pre, x, rfl⟩
  · obtain ⟨ad, cap, rfl⟩ := ownsRow_form h.own
    simp only [List.length_nil] at c1
    clear h
    go_enter Tryz.func83, Tryz.ntmps83
    go_wp2_with fail
    go_ret
    exact ⟨rfl, Below.refl _ _⟩
  · obtain ⟨g, cap, rfl, hg, d0⟩ := h.last
    have hlen' : pre.length + 1 ≤ 1000 := by simpa using hlen
    have hz : (((pre.length : Int) + 1) == 0) = false := by rw [beq_eq_false_iff_ne]; omega
    have HE := hide (show Rt.topE (pre ++ [x]) = x by simp [Rt.topE])
    clear h
    generalize pre.length = m at *
    have hm0 : (0 : Int) ≤ (m : Int) := by omega
    have hm1 : (m : Int) < (m : Int) + 1 := by omega
    have hm2 : (m : Int) ≤ 1000 := by omega
    have hm3 := kwrapm1 m hlen'
    have hm4 := kwrapm0 m hlen'
    go_enter Tryz.func83, Tryz.ntmps83
    go_wp2_with fail
    go_region_held3 (fun w' => w'.cell? ⟨M, 1, none⟩ = some (.slice (some ⟨g, 0, none⟩) (m + 1) cap) ∧ w'.cell? ⟨g, m, none⟩ = some (.int .i64 x)) (go_keep) (fail)
    go_wp2_with fail
    go_ret
    exact ⟨by rw [unhide HE]; rfl, (Below.refl _ _).drew⟩
end Go.Proofs.YtbpajiljfppjcaaGreatDoor

