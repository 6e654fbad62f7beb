/- The walks of the reader's small methods, continued. -/
import Derived.Test.YtnjhgcanglkfiaaPlainb
import Derived.Test.YtnjhgcanglkfiaaRtDefs
import Derived.Deep.QuietTactic
import Derived.BigQuiet
import Derived.Deep.RegionHeld3
import Derived.Deep.AppendLies
import Derived.Deep.DrawnRows
namespace Go.Proofs.Ytnjhgcanglkfiaa
open Go.RowKit

/-- The program's tokens lie in a row below block R. -/
def TokR (w : World) (R : Nat) (tv : Value) (ts : List Rt.Tk) : Prop :=
  ∃ b cap, tv = .slice (some ⟨b, 0, none⟩) ts.length cap ∧ b < R ∧
    ∀ i (h : i < ts.length), w.cell? ⟨b, i * 2, none⟩ = some (.int .i64 ts[i].kind) ∧ w.cell? ⟨b, i * 2 + 1, none⟩ = some (.string ts[i].text)

/-- The frame of what a reader's method does: nothing but the reader's block and the row of its ops is written. -/
structure RFr (R : Nat) (ov ov' : Value) (w w' : World) : Prop where
  os : w'.os = w.os
  tape : w'.tape = w.tape
  output : w'.output = w.output
  size : w.heap.size ≤ w'.heap.size
  block : ∀ k, k < w.heap.size → k ≠ R → some k ≠ ov.ownBlock → w'.heap[k]? = w.heap[k]?
  own : ∀ g, ov'.ownBlock = some g → ov.ownBlock = some g ∨ w.heap.size ≤ g

theorem RFr.refl (R : Nat) (ov : Value) (w : World) : RFr R ov ov w w := ⟨rfl, rfl, rfl, Nat.le_refl _, fun _ _ _ _ => rfl, fun _ h => Or.inl h⟩
theorem RFr.trans {R : Nat} {a b c : Value} {w w1 w2 : World} (h : RFr R a b w w1) (k : RFr R b c w1 w2) : RFr R a c w w2 :=
  ⟨k.os.trans h.os, k.tape.trans h.tape, k.output.trans h.output, Nat.le_trans h.size k.size,
    fun i hi hR ha => (k.block i (Nat.lt_of_lt_of_le hi h.size) hR (fun e => by rcases h.own i e.symm with x | x; exact ha x.symm; omega)).trans (h.block i hi hR ha),
    fun g hg => by
      rcases k.own g hg with x | x
      · rcases h.own g x with y | y
        · exact Or.inl y
        · exact Or.inr y
      · exact Or.inr (Nat.le_trans h.size x)⟩
theorem RFr.drewN (R : Nat) (ov : Value) (w : World) (n : Nat) : RFr R ov ov w (w.drewN n) := ⟨rfl, rfl, rfl, Nat.le_refl _, fun _ _ _ _ => rfl, fun _ h => Or.inl h⟩

theorem RFr.below {R : Nat} {a b : Value} {w w' : World} (h : RFr R a b w w') (ha : ∀ g, a.ownBlock = some g → R < g) (hR : R < w.heap.size) : Below R w w' :=
  ⟨h.os, h.tape, h.output, h.size, fun k hk => h.block k (by omega) (by omega) (fun e => by have := ha k e.symm; omega)⟩

def popCells (o : Pop) : List Value := [.int .i64 o.code, .int .i64 o.number, .string o.name]
def popsCells (os : List Pop) : List Value := os.flatMap popCells
theorem popsCells_snoc (os : List Pop) (o : Pop) : popsCells (os ++ [o]) = popsCells os ++ [.int .i64 o.code, .int .i64 o.number, .string o.name] := by simp [popsCells, popCells]

/-- The reader at block R: its tokens, how many of them it has gone behind, the ops of the present expression. -/
structure RdS (w : World) (R : Nat) (tv : Value) (ts : List Rt.Tk) (n : Nat) (ov : Value) (ops : List Pop) : Prop where
  le : n ≤ ts.length
  few : ts.length ≤ 24
  fewOps : ops.length ≤ n
  block : w.heap[R]? = some (.cells #[tv, .int .i64 n, ov] 103 (0, 0))
  toks : TokR w R tv ts
  own : w.ownsRow (R + 1) 120 3 ov ops.length (popsCells ops)


set_option maxHeartbeats 400000 in
theorem more_any (w : World) (R : Nat) (tv : Value) (ts : List Rt.Tk) (n : Nat) (ov : Value) (ops : List Pop) (hr : RdS w R tv ts n ov ops) :
    Calls Try.prog 52 #[.pointer (some ⟨R, 0, none⟩)] w fun e w' => e = .returned (.bool (decide (n < ts.length))) ∧ ∃ q, w' = w.drewN q := by
  obtain ⟨b, cap, rfl, hb, hc⟩ := hr.toks
  have c0 := cell_of_block hr.block 0 (by simp)
  have c1 := cell_of_block hr.block 1 (by simp)
  simp at c0 c1
  clear hc
  go_enter Try.func52, Try.ntmps52
  go_wp2_with fail
  go_quiet (fail)
  go_wp2
  go_ret
  exact ⟨by simp, _, rfl⟩

/-- The reader goes one token on. -/
theorem RdS.bump {w : World} {R : Nat} {tv : Value} {ts : List Rt.Tk} {n : Nat} {ov : Value} {ops : List Pop} (hr : RdS w R tv ts n ov ops) (h : n < ts.length) (q : Nat) :
    RdS ((w.drewN q).setCell ⟨R, 1, none⟩ (.int .i64 ((n : Int) + 1))) R tv ts (n + 1) ov ops ∧ RFr R ov ov w ((w.drewN q).setCell ⟨R, 1, none⟩ (.int .i64 ((n : Int) + 1))) := by
  have hlt : R < w.heap.size := World.block_lt_of_cell? w _ (cell_of_block hr.block 0 (by simp))
  have hother : ∀ k, k ≠ R → ((w.drewN q).setCell ⟨R, 1, none⟩ (.int .i64 ((n : Int) + 1))).heap[k]? = w.heap[k]? := fun k hk => Below.heap_setCell (w.drewN q) ⟨R, 1, none⟩ _ k hk
  have hown := hr.own
  refine ⟨⟨by omega, hr.few, by have := hr.fewOps; omega, ?_, ?_, ?_⟩, ⟨rfl, rfl, rfl, by simp [World.setCell], fun k _ hk _ => hother k hk, fun _ h => Or.inl h⟩⟩
  · have := hr.block
    show ((w.drewN q).heap.modify R _)[R]? = _
    rw [Array.getElem?_modify]
    simp [World.drewN, this]
  · obtain ⟨b, cap, rfl, hb, hc⟩ := hr.toks
    exact ⟨b, cap, rfl, hb, fun i h => ⟨by rw [World.cell?_of_block (w := w) (hother b (by omega))]; exact (hc i h).1, by rw [World.cell?_of_block (w := w) (hother b (by omega))]; exact (hc i h).2⟩⟩
  · obtain ⟨h1, h2⟩ := hr.own
    refine ⟨h1, ?_⟩
    rcases h2 with h2 | ⟨g, cap, cur, hv, hg, hh, r⟩
    · exact Or.inl h2
    · exact Or.inr ⟨g, cap, cur, hv, hg, by rw [hother g (by omega)]; exact hh, r⟩

set_option maxHeartbeats 400000 in
theorem take_end (w : World) (R : Nat) (tv : Value) (ts : List Rt.Tk) (n : Nat) (ov : Value) (ops : List Pop) (x : ByteArray) (hr : RdS w R tv ts n ov ops) (hn : ¬ n < ts.length) :
    Calls Try.prog 80 #[.pointer (some ⟨R, 0, none⟩), .string x] w fun e w' => e = .returned (.bool false) ∧ ∃ q, w' = w.drewN q := by
  obtain ⟨b, cap, rfl, hb, hc⟩ := hr.toks
  have c0 := cell_of_block hr.block 0 (by simp)
  have c1 := cell_of_block hr.block 1 (by simp)
  simp at c0 c1
  clear hc
  have hd : decide ((ts.length : Int) ≤ (n : Int)) = true := by simp; omega
  go_enter Try.func80, Try.ntmps80
  go_wp2_with fail
  go_quiet (fail)
  go_wp2
  go_ret
  exact ⟨by simp, _, rfl⟩

set_option maxHeartbeats 400000 in
theorem take_no (w : World) (R : Nat) (tv : Value) (ts : List Rt.Tk) (n : Nat) (ov : Value) (ops : List Pop) (x : ByteArray) (hr : RdS w R tv ts n ov ops) (hn : n < ts.length) (hx : ¬ ts[n].text = x) :
    Calls Try.prog 80 #[.pointer (some ⟨R, 0, none⟩), .string x] w fun e w' => e = .returned (.bool false) ∧ ∃ q, w' = w.drewN q := by
  obtain ⟨b, cap, rfl, hb, hc⟩ := hr.toks
  have c0 := cell_of_block hr.block 0 (by simp)
  have c1 := cell_of_block hr.block 1 (by simp)
  simp at c0 c1
  have ct := (hc n hn).2
  have hx' := Rt.str_ne hx
  clear hx
  generalize ts[n].text = tx at *
  clear hc
  have hd : decide ((ts.length : Int) ≤ (n : Int)) = false := by simp; omega
  have hn' : (n : Int) < (ts.length : Int) := by omega
  go_enter Try.func80, Try.ntmps80
  go_wp2_with fail
  go_quiet (fail)
  go_wp2
  go_ret
  exact ⟨by simp, _, rfl⟩

set_option maxHeartbeats 400000 in
theorem take_yes (w : World) (R : Nat) (tv : Value) (ts : List Rt.Tk) (n : Nat) (ov : Value) (ops : List Pop) (x : ByteArray) (hr : RdS w R tv ts n ov ops) (hn : n < ts.length) (hx : ts[n].text = x) :
    Calls Try.prog 80 #[.pointer (some ⟨R, 0, none⟩), .string x] w fun e w' => e = .returned (.bool true) ∧ RdS w' R tv ts (n + 1) ov ops ∧ RFr R ov ov w w' := by
  have hbump := hr.bump hn
  obtain ⟨b, cap, rfl, hb, hc⟩ := hr.toks
  have c0 := cell_of_block hr.block 0 (by simp)
  have c1 := cell_of_block hr.block 1 (by simp)
  have f1 := free_of_block hr.block 1
  simp at c0 c1
  have ct := (hc n hn).2
  rw [hx] at ct
  clear hc hx
  have hfew := hr.few
  have HB : Hid (∀ q : Nat, RdS ((w.drewN q).setCell ⟨R, 1, none⟩ (.int .i64 ((n : Int) + 1))) R (Value.slice (some { block := b, off := 0 }) ts.length cap) ts (n + 1) ov ops ∧ RFr R ov ov w ((w.drewN q).setCell ⟨R, 1, none⟩ (.int .i64 ((n : Int) + 1)))) := hbump
  clear hbump
  have hd : decide ((ts.length : Int) ≤ (n : Int)) = false := by simp; omega
  have hn' : (n : Int) < (ts.length : Int) := by omega
  go_enter Try.func80, Try.ntmps80
  go_wp2_with fail
  go_quiet (fail)
  go_wp2
  go_ret
  exact ⟨by simp, HB.out _⟩

end Go.Proofs.Ytnjhgcanglkfiaa

namespace Go.Proofs.Ytnjhgcanglkfiaa
open Go.RowKit
attribute [local go_sem ↓] Go.wp_at_zero Go.wp_at_succ

theorem RdS.later {w w' : World} {R : Nat} {tv : Value} {ts : List Rt.Tk} {n : Nat} {ov : Value} {ops : List Pop} (hr : RdS w R tv ts n ov ops) (hb : Below w.heap.size w w') :
    RdS w' R tv ts n ov ops ∧ RFr R ov ov w w' := by
  have hlt : R < w.heap.size := World.block_lt_of_cell? w _ (cell_of_block hr.block 0 (by simp))
  refine ⟨⟨hr.le, hr.few, hr.fewOps, by rw [hb.block R hlt]; exact hr.block, ?_, ?_⟩, ⟨hb.os, hb.tape, hb.output, hb.size, fun k h _ _ => hb.block k h, fun _ h => Or.inl h⟩⟩
  · obtain ⟨b, cap, rfl, hbR, hc⟩ := hr.toks
    exact ⟨b, cap, rfl, hbR, fun i h => ⟨cell_later hb (hc i h).1, cell_later hb (hc i h).2⟩⟩
  · obtain ⟨h1, h2⟩ := hr.own
    refine ⟨h1, ?_⟩
    rcases h2 with h2 | ⟨g, cap, cur, hv, hg, hh, r⟩
    · exact Or.inl h2
    · have hgl : g < w.heap.size := by
        by_cases h : g < w.heap.size
        · exact h
        · rw [Array.getElem?_eq_none (by omega)] at hh; cases hh
      exact Or.inr ⟨g, cap, cur, hv, hg, by rw [hb.block g hgl]; exact hh, r⟩

theorem below_drewN (w : World) (q : Nat) : Below w.heap.size w (w.drewN q) := ⟨rfl, rfl, rfl, Nat.le_refl _, fun _ _ => rfl⟩

theorem fresh3 {w : World} {a b c : Addr} {x y z : Option Value} (q : Nat) (h1 : w.cell? a = x) (h2 : w.cell? b = y) (h3 : w.cell? c = z) : ∃ w1, w1 = w.drewN q ∧ w1.cell? a = x ∧ w1.cell? b = y ∧ w1.cell? c = z := ⟨_, rfl, h1, h2, h3⟩
theorem drew_two {w w1 : World} {q m : Nat} (h : w1 = w.drewN q) : w1.drewN m = w.drewN (q + m) := by
  subst h
  simp [World.drewN, Nat.add_assoc]

set_option maxHeartbeats 400000 in
theorem reserved_any (s : ByteArray) (w : World) :
    Calls Try.prog 82 #[.string s] w fun e w' => e = .returned (.bool (Rt.resv s)) ∧ w' = w := by
  go_enter Try.func82, Try.ntmps82
  go_wp2
  all_goals (go_ret; exact ⟨by simp_all [Rt.resv, Rt.resvWords], rfl⟩)

set_option maxHeartbeats 400000 in
theorem operatorCode_any (s : ByteArray) (w : World) :
    Calls Try.prog 89 #[.string s] w fun e w' => e = .returned (.int .i64 (Rt.opCode s)) ∧ w' = w := by
  go_enter Try.func89, Try.ntmps89
  go_wp2
  all_goals (go_ret; exact ⟨by simp_all [Rt.opCode], rfl⟩)

set_option maxHeartbeats 400000 in
theorem operator_end (w : World) (R : Nat) (tv : Value) (ts : List Rt.Tk) (n : Nat) (ov : Value) (ops : List Pop) (lo hi : Int) (hr : RdS w R tv ts n ov ops) (hn : ¬ n < ts.length) :
    Calls Try.prog 86 #[.pointer (some ⟨R, 0, none⟩), .int .i64 lo, .int .i64 hi] w fun e w' => e = .returned (.int .i64 0) ∧ ∃ q, w' = w.drewN q := by
  obtain ⟨b, cap, rfl, hb, hc⟩ := hr.toks
  have c0 := cell_of_block hr.block 0 (by simp)
  have c1 := cell_of_block hr.block 1 (by simp)
  simp at c0 c1
  clear hc
  have hd : ¬ ((n : Int) < (ts.length : Int)) := by omega
  go_enter Try.func86, Try.ntmps86
  go_wp2_with fail
  go_quiet (fail)
  go_wp2_with fail
  go_ret
  exact ⟨by simp, _, rfl⟩

set_option maxHeartbeats 400000 in
theorem operator_no (w : World) (R : Nat) (tv : Value) (ts : List Rt.Tk) (n : Nat) (ov : Value) (ops : List Pop) (lo hi : Int) (hr : RdS w R tv ts n ov ops) (hn : n < ts.length)
    (hx : Rt.opCode ts[n].text < lo ∨ hi < Rt.opCode ts[n].text) :
    Calls Try.prog 86 #[.pointer (some ⟨R, 0, none⟩), .int .i64 lo, .int .i64 hi] w fun e w' => e = .returned (.int .i64 0) ∧ ∃ q, w' = w.drewN q := by
  obtain ⟨b, cap, rfl, hb, hc⟩ := hr.toks
  have c0 := cell_of_block hr.block 0 (by simp)
  have c1 := cell_of_block hr.block 1 (by simp)
  simp at c0 c1
  have ct := (hc n hn).2
  clear hc
  have hn' : (n : Int) < (ts.length : Int) := by omega
  generalize ts[n].text = tx at *
  by_cases h1 : Rt.opCode tx < lo
  · go_enter Try.func86, Try.ntmps86
    go_wp2_with fail
    go_quiet (fail)
    go_wp2_with fail
    obtain ⟨w1, hw1, c0', c1', ct'⟩ := fresh3 nq c0 c1 ct
    rw [← hw1]
    have HW : Hid (w1 = w.drewN nq) := hw1
    clear hw1
    go_quiet ((go_at_call 89; exact Calls.quiet_of_same (operatorCode_any _ _)))
    go_wp2
    go_ret
    exact ⟨by simp, _, drew_two HW.out⟩
  · have h2 : hi < Rt.opCode tx := by omega
    have h1' : ¬ Rt.opCode tx < lo := h1
    clear hx
    go_enter Try.func86, Try.ntmps86
    go_wp2_with fail
    go_quiet (fail)
    go_wp2_with fail
    obtain ⟨w1, hw1, c0', c1', ct'⟩ := fresh3 nq c0 c1 ct
    rw [← hw1]
    have HW : Hid (w1 = w.drewN nq) := hw1
    clear hw1
    go_quiet ((go_at_call 89; exact Calls.quiet_of_same (operatorCode_any _ _)))
    go_wp2
    go_ret
    exact ⟨by simp, _, drew_two HW.out⟩

end Go.Proofs.Ytnjhgcanglkfiaa

