/- Made sources: pick, a digit's text. -/
import Derived.Test.YtopeochnoefgcaaDoorKit0
import Derived.Test.YtopeochnoefgcaaDoorTdDefs
namespace Go.Proofs.YtopeochnoefgcaaDoor
open Go.RowKit

theorem pick_any (w : World) (c n : Int) (h1 : -9223372036854775808 ≤ c) (h2 : c ≤ 9223372036854775807) (hn : 0 < n) (hn2 : n ≤ 9223372036854775807) :
    Calls Tryd.prog 12 #[.int .i64 c, .int .i64 n] w fun e w' => e = .returned (.int .i64 (Rt.pickP c n)) ∧ w' = w := by
  have hn0 : (n == 0) = false := by simp; omega
  by_cases h0 : c < 0
  · have HE : Hid (Rt.pickP c n = (-(c + 1)) % n) := hide (by unfold Rt.pickP; rw [if_pos h0])
    have e1 : IntKind.i64.wrap (c + 1) = c + 1 := by rw [IntWalk.i64_left, IntWalk.wrap64_in _ (by omega)]
    have e2 : IntKind.i64.wrap (-(c + 1)) = -(c + 1) := by rw [IntWalk.i64_left, IntWalk.wrap64_in _ (by omega)]
    go_enter Tryd.func12, Tryd.ntmps12
    go_wp2_with fail
    go_ret
    have e3 : -((c + 1).tmod n) = (-(c + 1)) % n := by rw [← Int.neg_tmod, Int.tmod_eq_emod_of_nonneg (by omega)]
    exact ⟨by rw [unhide HE, ← e3]; rfl, rfl⟩
  · have HE : Hid (Rt.pickP c n = c % n) := hide (by unfold Rt.pickP; rw [if_neg h0])
    go_enter Tryd.func12, Tryd.ntmps12
    go_wp2_with fail
    go_ret
    exact ⟨by rw [unhide HE]; rfl, rfl⟩

theorem small_any (w : World) (d : Int) (h0 : 0 ≤ d) (h1 : d < 10) :
    Calls Tryd.prog 47 #[.int .i64 d] w fun e w' => e = .returned (.string (Rt.digitT d)) ∧ Below w.heap.size w w' := by
  have hd : d = 0 ∨ d = 1 ∨ d = 2 ∨ d = 3 ∨ d = 4 ∨ d = 5 ∨ d = 6 ∨ d = 7 ∨ d = 8 ∨ d = 9 := by omega
  rcases hd with rfl | rfl | rfl | rfl | rfl | rfl | rfl | rfl | rfl | rfl
  all_goals
    go_enter Tryd.func47, Tryd.ntmps47
    go_wp2_with fail
    go_ret
    exact ⟨rfl, Below.refl _ _⟩
theorem formatInt_any (w : World) (d : Int) (h0 : 0 ≤ d) (h1 : d < 10) :
    Calls Tryd.prog 37 #[.int .i64 d, .int .i64 10] w fun e w' => e = .returned (.string (Rt.digitT d)) ∧ Below w.heap.size w w' := by
  have h2 : d < 100 := by omega
  go_enter Tryd.func37, Tryd.ntmps37
  go_wp2_with fail
  refine (small_any _ d h0 h1).mono ?_
  rintro e w1 ⟨rfl, hb⟩
  go_wp2_with fail
  go_ret
  exact ⟨rfl, hb⟩
theorem itoa1_any (w : World) (d : Int) (h0 : 0 ≤ d) (h1 : d < 10) :
    Calls Tryd.prog 25 #[.int .i64 d] w fun e w' => e = .returned (.string (Rt.digitT d)) ∧ Below w.heap.size w w' := by
  go_enter Tryd.func25, Tryd.ntmps25
  go_wp2_with fail
  refine (formatInt_any _ d h0 h1).mono ?_
  rintro e w1 ⟨rfl, hb⟩
  go_wp2_with fail
  go_ret
  exact ⟨rfl, hb⟩
theorem itoa_any (w : World) (d : Int) (h0 : 0 ≤ d) (h1 : d < 10) :
    Calls Tryd.prog 16 #[.int .i64 d] w fun e w' => e = .returned (.string (Rt.digitT d)) ∧ Below w.heap.size w w' := by
  go_enter Tryd.func16, Tryd.ntmps16
  go_wp2_with fail
  refine (itoa1_any _ d h0 h1).mono ?_
  rintro e w1 ⟨rfl, hb⟩
  go_wp2_with fail
  go_ret
  exact ⟨rfl, hb⟩
end Go.Proofs.YtopeochnoefgcaaDoor

namespace Go.Proofs.YtopeochnoefgcaaDoor
open Go.RowKit

/-- The maker at block M: its lines, and the blocks that are open. -/
structure MakS (w : World) (M : Nat) (ls : List ByteArray) (o : List Int) (ov : Value) : Prop where
  block : w.heap[M]? = some (.cells #[.string (Rt.unl ls), ov] 34 (0, 0))
  own : w.ownsRow (M + 1) 3 1 ov o.length (o.map (Value.int .i64))
/-- What a maker's call leaves as it was. -/
structure MFr (M : Nat) (w w' : World) : Prop where
  os : w'.os = w.os
  tape : w'.tape = w.tape
  output : w'.output = w.output
  size : w.heap.size ≤ w'.heap.size
  block : ∀ k x, w.heap[k]? = some x → k ≠ M → (k < M ∨ ∀ c, x ≠ .cells c 3 (0, 0)) → w'.heap[k]? = some x
theorem MFr.refl (M : Nat) (w : World) : MFr M w w := ⟨rfl, rfl, rfl, Nat.le_refl _, fun _ _ h _ _ => h⟩
theorem MFr.trans {M : Nat} {w w1 w2 : World} (h : MFr M w w1) (h2 : MFr M w1 w2) : MFr M w w2 :=
  ⟨h2.os.trans h.os, h2.tape.trans h.tape, h2.output.trans h.output, Nat.le_trans h.size h2.size, fun k x hk hne hx => h2.block k x (h.block k x hk hne hx) hne hx⟩
theorem MFr.of_below {M : Nat} {w w1 : World} (h : Below w.heap.size w w1) : MFr M w w1 := ⟨h.os, h.tape, h.output, h.size, fun k x hk _ _ => by rw [h.block k (block_lt hk)]; exact hk⟩
theorem MakS.later {w w' : World} {M : Nat} {ls : List ByteArray} {o : List Int} {ov : Value} (h : MakS w M ls o ov) (hb : Below w.heap.size w w') : MakS w' M ls o ov := ⟨block_later h.block hb, own_later h.own hb⟩
/-- What a maker's call says. -/
def MakP (M : Nat) (ls : List ByteArray) (o : List Int) (w : World) (e : Ending) (w' : World) : Prop := e = .returned (.tuple #[]) ∧ (∃ ov, MakS w' M ls o ov) ∧ MFr M w w'

theorem madd_text {a b : ByteArray} (h : a.size + b.size ≤ 9223372036854775807) (w : World) : (Op.stringOp .add a b).run Tryd.prog w = .ok (.string (a ++ b)) w := run_string_add_sum w a b h

set_option maxHeartbeats 1000000 in
theorem mline_any (w : World) (M : Nat) (ls : List ByteArray) (o : List Int) (ov : Value) (s : ByteArray) (h : MakS w M ls o ov) (hsz : (Rt.unl ls).size + s.size ≤ 1000000) :
    Calls Tryd.prog 10 #[.pointer (some ⟨M, 0, none⟩), .string s] w fun e w' => e = .returned (.tuple #[]) ∧ MakS w' M (ls ++ [s]) o ov ∧ MFr M w w' := by
  have c0 := cell_of_block h.block 0 (by simp)
  have f0 := free_of_block h.block 0
  simp at c0
  have a1 := madd_text (a := Rt.unl ls) (b := s) (by omega)
  have a2 := madd_text (a := Rt.unl ls ++ s) (b := ⟨#[10]⟩) (by rw [ByteArray.size_append]; show _ + 1 ≤ _; omega)
  have HF : Hid (MakS (w.setCell ⟨M, 0, none⟩ (.string (Rt.unl ls ++ s ++ ⟨#[10]⟩))) M (ls ++ [s]) o ov ∧ MFr M w (w.setCell ⟨M, 0, none⟩ (.string (Rt.unl ls ++ s ++ ⟨#[10]⟩)))) := by
    refine hide ⟨⟨?_, ?_⟩, ⟨rfl, rfl, rfl, by simp [World.setCell], fun k x hk hne _ => ?_⟩⟩
    · rw [Rt.unl_snoc]
      have := set_block h.block 0 (.string (Rt.unl ls ++ s ++ ⟨#[10]⟩))
      simpa using this
    · exact ownsRow_setCell_below h.own (by show M < M + 1; omega) _
    · rw [Below.heap_setCell w ⟨M, 0, none⟩ _ k hne]; exact hk
  clear h
  generalize Rt.unl ls ++ s = t at *
  generalize Rt.unl ls = u at *
  go_enter Tryd.func10, Tryd.ntmps10
  go_wp2_with fail
  trace_state
  go_end0
  exact ⟨rfl, unhide HF⟩
end Go.Proofs.YtopeochnoefgcaaDoor


namespace Go.Proofs.YtopeochnoefgcaaDoor
open Go.RowKit

theorem lit_size (l : List UInt8) : (ByteArray.mk l.toArray).size = l.length := by simp [ByteArray.size]
theorem plain_size (k : Int) (a b n : ByteArray) (ha : a.size ≤ 8) (hb : b.size ≤ 8) (hn : n.size ≤ 8) : (Rt.plainE k a b n).size ≤ 100 := by
  unfold Rt.plainE
  repeat' split
  all_goals
    simp only [ByteArray.size_append, lit_size, List.length_cons, List.length_nil]
    omega

set_option maxHeartbeats 1000000 in
theorem plain_0 (w : World) (M : Nat) (ls : List ByteArray) (o : List Int) (ov : Value) (a b n : ByteArray) (h : MakS w M ls o ov) (ha : a.size ≤ 8) (hb : b.size ≤ 8) (hn : n.size ≤ 8) (hsz : (Rt.unl ls).size ≤ 900000) :
    Calls Tryd.prog 17 #[.pointer (some ⟨M, 0, none⟩), .int .i64 0, .string a, .string b, .string n] w (MakP M (ls ++ [Rt.plainE 0 a b n]) o w) := by
  have hps := plain_size 0 a b n ha hb hn
  have HE := hide (show Rt.plainE 0 a b n = (⟨#[115, 101, 116, 32]⟩ : ByteArray) ++ a ++ (⟨#[32, 116, 111, 32]⟩ : ByteArray) ++ a ++ (⟨#[32, 43, 32]⟩ : ByteArray) ++ n by simp [Rt.plainE])
  have q0 := madd_text (a := (⟨#[115, 101, 116, 32]⟩ : ByteArray)) (b := a) (by simp only [lit_size, List.length_cons, List.length_nil]; have := ha; have := hn; have := hb; omega)
  have q1 := madd_text (a := (⟨#[115, 101, 116, 32]⟩ : ByteArray) ++ a) (b := (⟨#[32, 116, 111, 32]⟩ : ByteArray)) (by simp only [ByteArray.size_append, lit_size, List.length_cons, List.length_nil]; have := ha; have := hn; have := hb; omega)
  have q2 := madd_text (a := (⟨#[115, 101, 116, 32]⟩ : ByteArray) ++ a ++ (⟨#[32, 116, 111, 32]⟩ : ByteArray)) (b := a) (by simp only [ByteArray.size_append, lit_size, List.length_cons, List.length_nil]; have := ha; have := hn; have := hb; omega)
  have q3 := madd_text (a := (⟨#[115, 101, 116, 32]⟩ : ByteArray) ++ a ++ (⟨#[32, 116, 111, 32]⟩ : ByteArray) ++ a) (b := (⟨#[32, 43, 32]⟩ : ByteArray)) (by simp only [ByteArray.size_append, lit_size, List.length_cons, List.length_nil]; have := ha; have := hn; have := hb; omega)
  have q4 := madd_text (a := (⟨#[115, 101, 116, 32]⟩ : ByteArray) ++ a ++ (⟨#[32, 116, 111, 32]⟩ : ByteArray) ++ a ++ (⟨#[32, 43, 32]⟩ : ByteArray)) (b := n) (by simp only [ByteArray.size_append, lit_size, List.length_cons, List.length_nil]; have := ha; have := hn; have := hb; omega)
  go_enter Tryd.func17, Tryd.ntmps17
  go_wp2_with fail
  rw [← unhide HE]
  refine (mline_any _ M ls o ov _ h (by omega)).mono ?_
  rintro e w1 ⟨rfl, h1, h2⟩
  have HF := hide (And.intro h1 h2)
  clear h1 h2 h
  go_wp2_with fail
  go_end0
  exact ⟨rfl, ⟨_, (unhide HF).1⟩, (unhide HF).2⟩

set_option maxHeartbeats 1000000 in
theorem plain_1 (w : World) (M : Nat) (ls : List ByteArray) (o : List Int) (ov : Value) (a b n : ByteArray) (h : MakS w M ls o ov) (ha : a.size ≤ 8) (hb : b.size ≤ 8) (hn : n.size ≤ 8) (hsz : (Rt.unl ls).size ≤ 900000) :
    Calls Tryd.prog 17 #[.pointer (some ⟨M, 0, none⟩), .int .i64 1, .string a, .string b, .string n] w (MakP M (ls ++ [Rt.plainE 1 a b n]) o w) := by
  have hps := plain_size 1 a b n ha hb hn
  have HE := hide (show Rt.plainE 1 a b n = (⟨#[115, 101, 116, 32]⟩ : ByteArray) ++ a ++ (⟨#[32, 116, 111, 32]⟩ : ByteArray) ++ b ++ (⟨#[32, 42, 32, 51, 32, 45, 32]⟩ : ByteArray) ++ a by simp [Rt.plainE])
  have q0 := madd_text (a := (⟨#[115, 101, 116, 32]⟩ : ByteArray)) (b := a) (by simp only [lit_size, List.length_cons, List.length_nil]; have := ha; have := hn; have := hb; omega)
  have q1 := madd_text (a := (⟨#[115, 101, 116, 32]⟩ : ByteArray) ++ a) (b := (⟨#[32, 116, 111, 32]⟩ : ByteArray)) (by simp only [ByteArray.size_append, lit_size, List.length_cons, List.length_nil]; have := ha; have := hn; have := hb; omega)
  have q2 := madd_text (a := (⟨#[115, 101, 116, 32]⟩ : ByteArray) ++ a ++ (⟨#[32, 116, 111, 32]⟩ : ByteArray)) (b := b) (by simp only [ByteArray.size_append, lit_size, List.length_cons, List.length_nil]; have := ha; have := hn; have := hb; omega)
  have q3 := madd_text (a := (⟨#[115, 101, 116, 32]⟩ : ByteArray) ++ a ++ (⟨#[32, 116, 111, 32]⟩ : ByteArray) ++ b) (b := (⟨#[32, 42, 32, 51, 32, 45, 32]⟩ : ByteArray)) (by simp only [ByteArray.size_append, lit_size, List.length_cons, List.length_nil]; have := ha; have := hn; have := hb; omega)
  have q4 := madd_text (a := (⟨#[115, 101, 116, 32]⟩ : ByteArray) ++ a ++ (⟨#[32, 116, 111, 32]⟩ : ByteArray) ++ b ++ (⟨#[32, 42, 32, 51, 32, 45, 32]⟩ : ByteArray)) (b := a) (by simp only [ByteArray.size_append, lit_size, List.length_cons, List.length_nil]; have := ha; have := hn; have := hb; omega)
  go_enter Tryd.func17, Tryd.ntmps17
  go_wp2_with fail
  rw [← unhide HE]
  refine (mline_any _ M ls o ov _ h (by omega)).mono ?_
  rintro e w1 ⟨rfl, h1, h2⟩
  have HF := hide (And.intro h1 h2)
  clear h1 h2 h
  go_wp2_with fail
  go_end0
  exact ⟨rfl, ⟨_, (unhide HF).1⟩, (unhide HF).2⟩

set_option maxHeartbeats 1000000 in
theorem plain_2 (w : World) (M : Nat) (ls : List ByteArray) (o : List Int) (ov : Value) (a b n : ByteArray) (h : MakS w M ls o ov) (ha : a.size ≤ 8) (hb : b.size ≤ 8) (hn : n.size ≤ 8) (hsz : (Rt.unl ls).size ≤ 900000) :
    Calls Tryd.prog 17 #[.pointer (some ⟨M, 0, none⟩), .int .i64 2, .string a, .string b, .string n] w (MakP M (ls ++ [Rt.plainE 2 a b n]) o w) := by
  have hps := plain_size 2 a b n ha hb hn
  have HE := hide (show Rt.plainE 2 a b n = (⟨#[115, 101, 116, 32, 116, 91]⟩ : ByteArray) ++ a ++ (⟨#[32, 42, 32]⟩ : ByteArray) ++ a ++ (⟨#[32, 37, 32, 52, 93, 32, 116, 111, 32]⟩ : ByteArray) ++ b by simp [Rt.plainE])
  have q0 := madd_text (a := (⟨#[115, 101, 116, 32, 116, 91]⟩ : ByteArray)) (b := a) (by simp only [lit_size, List.length_cons, List.length_nil]; have := ha; have := hn; have := hb; omega)
  have q1 := madd_text (a := (⟨#[115, 101, 116, 32, 116, 91]⟩ : ByteArray) ++ a) (b := (⟨#[32, 42, 32]⟩ : ByteArray)) (by simp only [ByteArray.size_append, lit_size, List.length_cons, List.length_nil]; have := ha; have := hn; have := hb; omega)
  have q2 := madd_text (a := (⟨#[115, 101, 116, 32, 116, 91]⟩ : ByteArray) ++ a ++ (⟨#[32, 42, 32]⟩ : ByteArray)) (b := a) (by simp only [ByteArray.size_append, lit_size, List.length_cons, List.length_nil]; have := ha; have := hn; have := hb; omega)
  have q3 := madd_text (a := (⟨#[115, 101, 116, 32, 116, 91]⟩ : ByteArray) ++ a ++ (⟨#[32, 42, 32]⟩ : ByteArray) ++ a) (b := (⟨#[32, 37, 32, 52, 93, 32, 116, 111, 32]⟩ : ByteArray)) (by simp only [ByteArray.size_append, lit_size, List.length_cons, List.length_nil]; have := ha; have := hn; have := hb; omega)
  have q4 := madd_text (a := (⟨#[115, 101, 116, 32, 116, 91]⟩ : ByteArray) ++ a ++ (⟨#[32, 42, 32]⟩ : ByteArray) ++ a ++ (⟨#[32, 37, 32, 52, 93, 32, 116, 111, 32]⟩ : ByteArray)) (b := b) (by simp only [ByteArray.size_append, lit_size, List.length_cons, List.length_nil]; have := ha; have := hn; have := hb; omega)
  go_enter Tryd.func17, Tryd.ntmps17
  go_wp2_with fail
  rw [← unhide HE]
  refine (mline_any _ M ls o ov _ h (by omega)).mono ?_
  rintro e w1 ⟨rfl, h1, h2⟩
  have HF := hide (And.intro h1 h2)
  clear h1 h2 h
  go_wp2_with fail
  go_end0
  exact ⟨rfl, ⟨_, (unhide HF).1⟩, (unhide HF).2⟩

set_option maxHeartbeats 1000000 in
theorem plain_3 (w : World) (M : Nat) (ls : List ByteArray) (o : List Int) (ov : Value) (a b n : ByteArray) (h : MakS w M ls o ov) (ha : a.size ≤ 8) (hb : b.size ≤ 8) (hn : n.size ≤ 8) (hsz : (Rt.unl ls).size ≤ 900000) :
    Calls Tryd.prog 17 #[.pointer (some ⟨M, 0, none⟩), .int .i64 3, .string a, .string b, .string n] w (MakP M (ls ++ [Rt.plainE 3 a b n]) o w) := by
  have hps := plain_size 3 a b n ha hb hn
  have HE := hide (show Rt.plainE 3 a b n = (⟨#[115, 101, 116, 32]⟩ : ByteArray) ++ a ++ (⟨#[32, 116, 111, 32, 116, 91]⟩ : ByteArray) ++ n ++ (⟨#[32, 37, 32, 54, 93]⟩ : ByteArray) by simp [Rt.plainE])
  have q0 := madd_text (a := (⟨#[115, 101, 116, 32]⟩ : ByteArray)) (b := a) (by simp only [lit_size, List.length_cons, List.length_nil]; have := ha; have := hn; have := hb; omega)
  have q1 := madd_text (a := (⟨#[115, 101, 116, 32]⟩ : ByteArray) ++ a) (b := (⟨#[32, 116, 111, 32, 116, 91]⟩ : ByteArray)) (by simp only [ByteArray.size_append, lit_size, List.length_cons, List.length_nil]; have := ha; have := hn; have := hb; omega)
  have q2 := madd_text (a := (⟨#[115, 101, 116, 32]⟩ : ByteArray) ++ a ++ (⟨#[32, 116, 111, 32, 116, 91]⟩ : ByteArray)) (b := n) (by simp only [ByteArray.size_append, lit_size, List.length_cons, List.length_nil]; have := ha; have := hn; have := hb; omega)
  have q3 := madd_text (a := (⟨#[115, 101, 116, 32]⟩ : ByteArray) ++ a ++ (⟨#[32, 116, 111, 32, 116, 91]⟩ : ByteArray) ++ n) (b := (⟨#[32, 37, 32, 54, 93]⟩ : ByteArray)) (by simp only [ByteArray.size_append, lit_size, List.length_cons, List.length_nil]; have := ha; have := hn; have := hb; omega)
  go_enter Tryd.func17, Tryd.ntmps17
  go_wp2_with fail
  rw [← unhide HE]
  refine (mline_any _ M ls o ov _ h (by omega)).mono ?_
  rintro e w1 ⟨rfl, h1, h2⟩
  have HF := hide (And.intro h1 h2)
  clear h1 h2 h
  go_wp2_with fail
  go_end0
  exact ⟨rfl, ⟨_, (unhide HF).1⟩, (unhide HF).2⟩

set_option maxHeartbeats 1000000 in
theorem plain_4 (w : World) (M : Nat) (ls : List ByteArray) (o : List Int) (ov : Value) (a b n : ByteArray) (h : MakS w M ls o ov) (ha : a.size ≤ 8) (hb : b.size ≤ 8) (hn : n.size ≤ 8) (hsz : (Rt.unl ls).size ≤ 900000) :
    Calls Tryd.prog 17 #[.pointer (some ⟨M, 0, none⟩), .int .i64 4, .string a, .string b, .string n] w (MakP M (ls ++ [Rt.plainE 4 a b n]) o w) := by
  have hps := plain_size 4 a b n ha hb hn
  have HE := hide (show Rt.plainE 4 a b n = (⟨#[112, 114, 105, 110, 116, 32]⟩ : ByteArray) ++ a by simp [Rt.plainE])
  have q0 := madd_text (a := (⟨#[112, 114, 105, 110, 116, 32]⟩ : ByteArray)) (b := a) (by simp only [lit_size, List.length_cons, List.length_nil]; have := ha; have := hn; have := hb; omega)
  go_enter Tryd.func17, Tryd.ntmps17
  go_wp2_with fail
  rw [← unhide HE]
  refine (mline_any _ M ls o ov _ h (by omega)).mono ?_
  rintro e w1 ⟨rfl, h1, h2⟩
  have HF := hide (And.intro h1 h2)
  clear h1 h2 h
  go_wp2_with fail
  go_end0
  exact ⟨rfl, ⟨_, (unhide HF).1⟩, (unhide HF).2⟩

set_option maxHeartbeats 1000000 in
theorem plain_5 (w : World) (M : Nat) (ls : List ByteArray) (o : List Int) (ov : Value) (a b n : ByteArray) (h : MakS w M ls o ov) (ha : a.size ≤ 8) (hb : b.size ≤ 8) (hn : n.size ≤ 8) (hsz : (Rt.unl ls).size ≤ 900000) :
    Calls Tryd.prog 17 #[.pointer (some ⟨M, 0, none⟩), .int .i64 5, .string a, .string b, .string n] w (MakP M (ls ++ [Rt.plainE 5 a b n]) o w) := by
  have hps := plain_size 5 a b n ha hb hn
  have HE := hide (show Rt.plainE 5 a b n = (⟨#[114, 101, 97, 100, 32]⟩ : ByteArray) ++ a by simp [Rt.plainE])
  have q0 := madd_text (a := (⟨#[114, 101, 97, 100, 32]⟩ : ByteArray)) (b := a) (by simp only [lit_size, List.length_cons, List.length_nil]; have := ha; have := hn; have := hb; omega)
  go_enter Tryd.func17, Tryd.ntmps17
  go_wp2_with fail
  rw [← unhide HE]
  refine (mline_any _ M ls o ov _ h (by omega)).mono ?_
  rintro e w1 ⟨rfl, h1, h2⟩
  have HF := hide (And.intro h1 h2)
  clear h1 h2 h
  go_wp2_with fail
  go_end0
  exact ⟨rfl, ⟨_, (unhide HF).1⟩, (unhide HF).2⟩

set_option maxHeartbeats 1000000 in
theorem plain_6 (w : World) (M : Nat) (ls : List ByteArray) (o : List Int) (ov : Value) (a b n : ByteArray) (h : MakS w M ls o ov) (ha : a.size ≤ 8) (hb : b.size ≤ 8) (hn : n.size ≤ 8) (hsz : (Rt.unl ls).size ≤ 900000) :
    Calls Tryd.prog 17 #[.pointer (some ⟨M, 0, none⟩), .int .i64 6, .string a, .string b, .string n] w (MakP M (ls ++ [Rt.plainE 6 a b n]) o w) := by
  have hps := plain_size 6 a b n ha hb hn
  have HE := hide (show Rt.plainE 6 a b n = (⟨#[99, 97, 108, 108, 32, 102, 32]⟩ : ByteArray) ++ a ++ (⟨#[44, 32]⟩ : ByteArray) ++ n by simp [Rt.plainE])
  have q0 := madd_text (a := (⟨#[99, 97, 108, 108, 32, 102, 32]⟩ : ByteArray)) (b := a) (by simp only [lit_size, List.length_cons, List.length_nil]; have := ha; have := hn; have := hb; omega)
  have q1 := madd_text (a := (⟨#[99, 97, 108, 108, 32, 102, 32]⟩ : ByteArray) ++ a) (b := (⟨#[44, 32]⟩ : ByteArray)) (by simp only [ByteArray.size_append, lit_size, List.length_cons, List.length_nil]; have := ha; have := hn; have := hb; omega)
  have q2 := madd_text (a := (⟨#[99, 97, 108, 108, 32, 102, 32]⟩ : ByteArray) ++ a ++ (⟨#[44, 32]⟩ : ByteArray)) (b := n) (by simp only [ByteArray.size_append, lit_size, List.length_cons, List.length_nil]; have := ha; have := hn; have := hb; omega)
  go_enter Tryd.func17, Tryd.ntmps17
  go_wp2_with fail
  rw [← unhide HE]
  refine (mline_any _ M ls o ov _ h (by omega)).mono ?_
  rintro e w1 ⟨rfl, h1, h2⟩
  have HF := hide (And.intro h1 h2)
  clear h1 h2 h
  go_wp2_with fail
  go_end0
  exact ⟨rfl, ⟨_, (unhide HF).1⟩, (unhide HF).2⟩

set_option maxHeartbeats 1000000 in
theorem plain_7 (w : World) (M : Nat) (ls : List ByteArray) (o : List Int) (ov : Value) (a b n : ByteArray) (h : MakS w M ls o ov) (ha : a.size ≤ 8) (hb : b.size ≤ 8) (hn : n.size ≤ 8) (hsz : (Rt.unl ls).size ≤ 900000) :
    Calls Tryd.prog 17 #[.pointer (some ⟨M, 0, none⟩), .int .i64 7, .string a, .string b, .string n] w (MakP M (ls ++ [Rt.plainE 7 a b n]) o w) := by
  have hps := plain_size 7 a b n ha hb hn
  have HE := hide (show Rt.plainE 7 a b n = (⟨#[115, 101, 116, 32]⟩ : ByteArray) ++ a ++ (⟨#[32, 116, 111, 32, 40]⟩ : ByteArray) ++ a ++ (⟨#[32, 61, 32]⟩ : ByteArray) ++ b ++ (⟨#[41, 32, 43, 32]⟩ : ByteArray) ++ n by simp [Rt.plainE])
  have q0 := madd_text (a := (⟨#[115, 101, 116, 32]⟩ : ByteArray)) (b := a) (by simp only [lit_size, List.length_cons, List.length_nil]; have := ha; have := hn; have := hb; omega)
  have q1 := madd_text (a := (⟨#[115, 101, 116, 32]⟩ : ByteArray) ++ a) (b := (⟨#[32, 116, 111, 32, 40]⟩ : ByteArray)) (by simp only [ByteArray.size_append, lit_size, List.length_cons, List.length_nil]; have := ha; have := hn; have := hb; omega)
  have q2 := madd_text (a := (⟨#[115, 101, 116, 32]⟩ : ByteArray) ++ a ++ (⟨#[32, 116, 111, 32, 40]⟩ : ByteArray)) (b := a) (by simp only [ByteArray.size_append, lit_size, List.length_cons, List.length_nil]; have := ha; have := hn; have := hb; omega)
  have q3 := madd_text (a := (⟨#[115, 101, 116, 32]⟩ : ByteArray) ++ a ++ (⟨#[32, 116, 111, 32, 40]⟩ : ByteArray) ++ a) (b := (⟨#[32, 61, 32]⟩ : ByteArray)) (by simp only [ByteArray.size_append, lit_size, List.length_cons, List.length_nil]; have := ha; have := hn; have := hb; omega)
  have q4 := madd_text (a := (⟨#[115, 101, 116, 32]⟩ : ByteArray) ++ a ++ (⟨#[32, 116, 111, 32, 40]⟩ : ByteArray) ++ a ++ (⟨#[32, 61, 32]⟩ : ByteArray)) (b := b) (by simp only [ByteArray.size_append, lit_size, List.length_cons, List.length_nil]; have := ha; have := hn; have := hb; omega)
  have q5 := madd_text (a := (⟨#[115, 101, 116, 32]⟩ : ByteArray) ++ a ++ (⟨#[32, 116, 111, 32, 40]⟩ : ByteArray) ++ a ++ (⟨#[32, 61, 32]⟩ : ByteArray) ++ b) (b := (⟨#[41, 32, 43, 32]⟩ : ByteArray)) (by simp only [ByteArray.size_append, lit_size, List.length_cons, List.length_nil]; have := ha; have := hn; have := hb; omega)
  have q6 := madd_text (a := (⟨#[115, 101, 116, 32]⟩ : ByteArray) ++ a ++ (⟨#[32, 116, 111, 32, 40]⟩ : ByteArray) ++ a ++ (⟨#[32, 61, 32]⟩ : ByteArray) ++ b ++ (⟨#[41, 32, 43, 32]⟩ : ByteArray)) (b := n) (by simp only [ByteArray.size_append, lit_size, List.length_cons, List.length_nil]; have := ha; have := hn; have := hb; omega)
  go_enter Tryd.func17, Tryd.ntmps17
  go_wp2_with fail
  rw [← unhide HE]
  refine (mline_any _ M ls o ov _ h (by omega)).mono ?_
  rintro e w1 ⟨rfl, h1, h2⟩
  have HF := hide (And.intro h1 h2)
  clear h1 h2 h
  go_wp2_with fail
  go_end0
  exact ⟨rfl, ⟨_, (unhide HF).1⟩, (unhide HF).2⟩

end Go.Proofs.YtopeochnoefgcaaDoor

