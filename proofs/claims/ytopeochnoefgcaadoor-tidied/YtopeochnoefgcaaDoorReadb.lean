/- The walks of the reader's small methods, continued. -/
import Derived.Test.YtopeochnoefgcaaDoorReader
import Derived.Deep.RegionHeld3
import Derived.Deep.AppendLies
import Derived.Deep.DrawnRows
import Derived.Test.YtopeochnoefgcaaDoorBase
namespace Go.Proofs.YtopeochnoefgcaaDoor
open Go.RowKit
attribute [local go_sem ↓] Go.wp_at_zero Go.wp_at_succ

theorem RdS.later {w w' : World} {R : Nat} {tv : Value} {ts : List Rt.Tk} {n : Nat} {ov : Value} {ops : List Pop} (hr : RdS w R tv ts n ov ops) (hb : Below w.heap.size w w') :
    RdS w' R tv ts n ov ops ∧ RFr R ov ov w w' := by
  have hlt : R < w.heap.size := World.block_lt_of_cell? w _ (cell_of_block hr.block 0 (by simp))
  refine ⟨⟨hr.le, hr.few, hr.fewOps, by rw [hb.block R hlt]; exact hr.block, ?_, ?_⟩, ⟨hb.os, hb.tape, hb.output, hb.size, fun k h _ _ => hb.block k h, fun _ h => Or.inl h⟩⟩
  · obtain ⟨b, cap, rfl, hbR, hc⟩ := hr.toks
    exact ⟨b, cap, rfl, hbR, fun i h => ⟨cell_later hb (hc i h).1, cell_later hb (hc i h).2⟩⟩
  · obtain ⟨h1, h2⟩ := hr.own
    refine ⟨h1, ?_⟩
    rcases h2 with h2 | ⟨g, cap, cur, hv, hg, hh, r⟩
    · exact Or.inl h2
    · have hgl : g < w.heap.size := by
        by_cases h : g < w.heap.size
        · exact h
        · rw [Array.getElem?_eq_none (by omega)] at hh; cases hh
      exact Or.inr ⟨g, cap, cur, hv, hg, by rw [hb.block g hgl]; exact hh, r⟩

theorem below_drewN (w : World) (q : Nat) : Below w.heap.size w (w.drewN q) := ⟨rfl, rfl, rfl, Nat.le_refl _, fun _ _ => rfl⟩

theorem fresh3 {w : World} {a b c : Addr} {x y z : Option Value} (q : Nat) (h1 : w.cell? a = x) (h2 : w.cell? b = y) (h3 : w.cell? c = z) : ∃ w1, w1 = w.drewN q ∧ w1.cell? a = x ∧ w1.cell? b = y ∧ w1.cell? c = z := ⟨_, rfl, h1, h2, h3⟩
theorem drew_two {w w1 : World} {q m : Nat} (h : w1 = w.drewN q) : w1.drewN m = w.drewN (q + m) := by
  subst h
  simp [World.drewN, Nat.add_assoc]

set_option maxHeartbeats 400000 in
theorem reserved_any (s : ByteArray) (w : World) :
    Calls Tryd.prog 72 #[.string s] w fun e w' => e = .returned (.bool (Rt.resv s)) ∧ w' = w := by
  go_enter Tryd.func72, Tryd.ntmps72
  go_wp2
  all_goals (go_ret; exact ⟨by simp_all [Rt.resv, Rt.resvWords], rfl⟩)

set_option maxHeartbeats 400000 in
theorem operatorCode_any (s : ByteArray) (w : World) :
    Calls Tryd.prog 79 #[.string s] w fun e w' => e = .returned (.int .i64 (Rt.opCode s)) ∧ w' = w := by
  go_enter Tryd.func79, Tryd.ntmps79
  go_wp2
  all_goals (go_ret; exact ⟨by simp_all [Rt.opCode], rfl⟩)

set_option maxHeartbeats 400000 in
theorem operator_end (w : World) (R : Nat) (tv : Value) (ts : List Rt.Tk) (n : Nat) (ov : Value) (ops : List Pop) (lo hi : Int) (hr : RdS w R tv ts n ov ops) (hn : ¬ n < ts.length) :
    Calls Tryd.prog 76 #[.pointer (some ⟨R, 0, none⟩), .int .i64 lo, .int .i64 hi] w fun e w' => e = .returned (.int .i64 0) ∧ ∃ q, w' = w.drewN q := by
  obtain ⟨b, cap, rfl, hb, hc⟩ := hr.toks
  have c0 := cell_of_block hr.block 0 (by simp)
  have c1 := cell_of_block hr.block 1 (by simp)
  simp at c0 c1
  clear hc
  have hd : ¬ ((n : Int) < (ts.length : Int)) := by omega
  go_enter Tryd.func76, Tryd.ntmps76
  go_wp2_with fail
  go_quiet (fail)
  go_wp2_with fail
  go_ret
  exact ⟨by simp, _, rfl⟩

set_option maxHeartbeats 400000 in
theorem operator_no (w : World) (R : Nat) (tv : Value) (ts : List Rt.Tk) (n : Nat) (ov : Value) (ops : List Pop) (lo hi : Int) (hr : RdS w R tv ts n ov ops) (hn : n < ts.length)
    (hx : Rt.opCode ts[n].text < lo ∨ hi < Rt.opCode ts[n].text) :
    Calls Tryd.prog 76 #[.pointer (some ⟨R, 0, none⟩), .int .i64 lo, .int .i64 hi] w fun e w' => e = .returned (.int .i64 0) ∧ ∃ q, w' = w.drewN q := by
  obtain ⟨b, cap, rfl, hb, hc⟩ := hr.toks
  have c0 := cell_of_block hr.block 0 (by simp)
  have c1 := cell_of_block hr.block 1 (by simp)
  simp at c0 c1
  have ct := (hc n hn).2
  clear hc
  have hn' : (n : Int) < (ts.length : Int) := by omega
  generalize ts[n].text = tx at *
  by_cases h1 : Rt.opCode tx < lo
  · go_enter Tryd.func76, Tryd.ntmps76
    go_wp2_with fail
    go_quiet (fail)
    go_wp2_with fail
    obtain ⟨w1, hw1, c0', c1', ct'⟩ := fresh3 nq c0 c1 ct
    rw [← hw1]
    have HW : Hid (w1 = w.drewN nq) := hw1
    clear hw1
    go_quiet ((go_at_call 79; exact Calls.quiet_of_same (operatorCode_any _ _)))
    go_wp2
    go_ret
    exact ⟨by simp, _, drew_two HW.out⟩
  · have h2 : hi < Rt.opCode tx := by omega
    have h1' : ¬ Rt.opCode tx < lo := h1
    clear hx
    go_enter Tryd.func76, Tryd.ntmps76
    go_wp2_with fail
    go_quiet (fail)
    go_wp2_with fail
    obtain ⟨w1, hw1, c0', c1', ct'⟩ := fresh3 nq c0 c1 ct
    rw [← hw1]
    have HW : Hid (w1 = w.drewN nq) := hw1
    clear hw1
    go_quiet ((go_at_call 79; exact Calls.quiet_of_same (operatorCode_any _ _)))
    go_wp2
    go_ret
    exact ⟨by simp, _, drew_two HW.out⟩

end Go.Proofs.YtopeochnoefgcaaDoor

namespace Go.Proofs.YtopeochnoefgcaaDoor
open Go.RowKit
attribute [local go_sem ↓] Go.wp_at_zero Go.wp_at_succ

theorem RdS.same {w w' : World} {R : Nat} {tv : Value} {ts : List Rt.Tk} {n : Nat} {ov : Value} {ops : List Pop} (hr : RdS w R tv ts n ov ops) (hh : w'.heap = w.heap) : RdS w' R tv ts n ov ops := by
  refine ⟨hr.le, hr.few, hr.fewOps, by rw [hh]; exact hr.block, ?_, ?_⟩
  · obtain ⟨b, cap, rfl, hbR, hc⟩ := hr.toks
    exact ⟨b, cap, rfl, hbR, fun i h => ⟨by rw [World.cell?_of_block (w := w) (by rw [hh])]; exact (hc i h).1, by rw [World.cell?_of_block (w := w) (by rw [hh])]; exact (hc i h).2⟩⟩
  · obtain ⟨h1, h2⟩ := hr.own
    refine ⟨h1, ?_⟩
    rcases h2 with h2 | ⟨g, cap, cur, hv, hg, hh2, r⟩
    · exact Or.inl h2
    · exact Or.inr ⟨g, cap, cur, hv, hg, by rw [hh]; exact hh2, r⟩
theorem RFr.same {R : Nat} {a b : Value} {w w1 w2 : World} (h : RFr R a b w w1) (hh : w2.heap = w1.heap) (ho : w2.os = w1.os) (ht : w2.tape = w1.tape) (hu : w2.output = w1.output) : RFr R a b w w2 :=
  ⟨ho.trans h.os, ht.trans h.tape, hu.trans h.output, by rw [hh]; exact h.size, fun k h1 h2 h3 => by rw [hh]; exact h.block k h1 h2 h3, h.own⟩

/-- One token on, in a world that has grown. -/
theorem RdS.bumpTo {w : World} {R : Nat} {tv : Value} {ts : List Rt.Tk} {n : Nat} {ov : Value} {ops : List Pop} (hr : RdS w R tv ts n ov ops) (h : n < ts.length) (wx w' : World) (hb : Below w.heap.size w wx)
    (hh : w'.heap = (wx.setCell ⟨R, 1, none⟩ (.int .i64 ((n : Int) + 1))).heap) (ho : w'.os = wx.os) (ht : w'.tape = wx.tape) (hu : w'.output = wx.output) : RdS w' R tv ts (n + 1) ov ops ∧ RFr R ov ov w w' := by
  obtain ⟨h1, h2⟩ := hr.later hb
  obtain ⟨h3, h4⟩ := h1.bump h 0
  exact ⟨h3.same hh, (h2.trans h4).same hh ho ht hu⟩

set_option maxHeartbeats 400000 in
theorem operator_yes (w : World) (R : Nat) (tv : Value) (ts : List Rt.Tk) (n : Nat) (ov : Value) (ops : List Pop) (lo hi : Int) (hr : RdS w R tv ts n ov ops) (hn : n < ts.length)
    (h1 : lo ≤ Rt.opCode ts[n].text) (h2 : Rt.opCode ts[n].text ≤ hi) :
    Calls Tryd.prog 76 #[.pointer (some ⟨R, 0, none⟩), .int .i64 lo, .int .i64 hi] w fun e w' => e = .returned (.int .i64 (Rt.opCode ts[n].text)) ∧ RdS w' R tv ts (n + 1) ov ops ∧ RFr R ov ov w w' := by
  have HB : Hid (∀ q : Nat, RdS ((w.drewN q).setCell ⟨R, 1, none⟩ (.int .i64 ((n : Int) + 1))) R tv ts (n + 1) ov ops ∧ RFr R ov ov w ((w.drewN q).setCell ⟨R, 1, none⟩ (.int .i64 ((n : Int) + 1)))) := hr.bump hn
  obtain ⟨b, cap, rfl, hb, hc⟩ := hr.toks
  have c0 := cell_of_block hr.block 0 (by simp)
  have c1 := cell_of_block hr.block 1 (by simp)
  have f1 := free_of_block hr.block 1
  simp at c0 c1
  have ct := (hc n hn).2
  clear hc
  have hfew := hr.few
  have hn' : (n : Int) < (ts.length : Int) := by omega
  generalize ts[n].text = tx at *
  go_enter Tryd.func76, Tryd.ntmps76
  go_wp2_with fail
  go_quiet (fail)
  go_wp2_with fail
  obtain ⟨w1, hw1, c0', c1', ct'⟩ := fresh3 nq c0 c1 ct
  rw [← hw1]
  have f1' : w1.frozen? ⟨R, 1, none⟩ = false := by rw [hw1]; exact f1
  have HW : Hid (w1 = w.drewN nq) := hw1
  clear hw1
  go_quiet ((go_at_call 79; exact Calls.quiet_of_same (operatorCode_any _ _)))
  go_wp2
  go_ret
  refine ⟨by simp, ?_⟩
  rw [drew_two HW.out]
  exact HB.out _

set_option maxHeartbeats 400000 in
theorem name_end (w : World) (R : Nat) (tv : Value) (ts : List Rt.Tk) (n : Nat) (ov : Value) (ops : List Pop) (hr : RdS w R tv ts n ov ops) (hn : ¬ n < ts.length) :
    Calls Tryd.prog 66 #[.pointer (some ⟨R, 0, none⟩)] w fun e w' => e = .returned (.tuple #[.string ⟨#[]⟩, .bool false]) ∧ ∃ q, w' = w.drewN q := by
  obtain ⟨b, cap, rfl, hb, hc⟩ := hr.toks
  have c0 := cell_of_block hr.block 0 (by simp)
  have c1 := cell_of_block hr.block 1 (by simp)
  simp at c0 c1
  clear hc
  have hd : ¬ ((n : Int) < (ts.length : Int)) := by omega
  go_enter Tryd.func66, Tryd.ntmps66
  go_wp2_with fail
  go_quiet (fail)
  go_wp2_with fail
  go_ret2
  exact ⟨by simp, _, rfl⟩

set_option maxHeartbeats 1000000 in
theorem name_some (w : World) (R : Nat) (tv : Value) (ts : List Rt.Tk) (n : Nat) (ov : Value) (ops : List Pop) (hr : RdS w R tv ts n ov ops) (hn : n < ts.length) :
    Calls Tryd.prog 66 #[.pointer (some ⟨R, 0, none⟩)] w fun e w' =>
      (ts[n].kind = 1 ∧ Rt.resv ts[n].text = false ∧ e = .returned (.tuple #[.string ts[n].text, .bool true]) ∧ RdS w' R tv ts (n + 1) ov ops ∧ RFr R ov ov w w') ∨
      (¬ (ts[n].kind = 1 ∧ Rt.resv ts[n].text = false) ∧ e = .returned (.tuple #[.string ⟨#[]⟩, .bool false]) ∧ RdS w' R tv ts n ov ops ∧ RFr R ov ov w w') := by
  have hr0 := hr
  obtain ⟨b, cap, rfl, hb, hc⟩ := hr.toks
  have c0 := cell_of_block hr.block 0 (by simp)
  have c1 := cell_of_block hr.block 1 (by simp)
  have f1 := free_of_block hr.block 1
  simp at c0 c1
  obtain ⟨ck, ct⟩ := hc n hn
  clear hc
  have hfew := hr.few
  have hn' : (n : Int) < (ts.length : Int) := by omega
  generalize ts[n].text = tx at *
  generalize ts[n].kind = kx at *
  have hlt : R < w.heap.size := World.block_lt_of_cell? w _ c0
  go_enter Tryd.func66, Tryd.ntmps66
  go_wp2_with fail
  go_quiet (fail)
  go_wp2_with fail
  obtain ⟨w1, hw1, c0', c1', ct'⟩ := fresh3 nq c0 c1 ct
  rw [← hw1]
  have ck' : w1.cell? ⟨b, n * 2, none⟩ = some (.int .i64 kx) := by rw [hw1]; exact ck
  have f1' : w1.frozen? ⟨R, 1, none⟩ = false := by rw [hw1]; exact f1
  have hs1 : R < w1.heap.size := by rw [hw1]; exact hlt
  have HW : Hid (w1 = w.drewN nq) := hw1
  clear hw1
  go_region_held3 (fun w' => w'.cell? ⟨R, 0, none⟩ = some (.slice (some ⟨b, 0, none⟩) ts.length cap) ∧ w'.cell? ⟨R, 1, none⟩ = some (.int .i64 n) ∧ w'.cell? ⟨b, n * 2, none⟩ = some (.int .i64 kx) ∧ w'.cell? ⟨b, n * 2 + 1, none⟩ = some (.string tx)) (go_keep) (fail)
  go_wp2_with (go_at_call 72; refine (reserved_any _ _).mono ?_; rintro e w' ⟨rfl, rfl⟩)
  · have h1 : Rt.resv tx = true := by assumption
    go_ret2
    refine Or.inr ⟨by simp [h1], by simp, ?_⟩
    exact hr0.later (by rw [HW.out]; exact ((below_drewN w nq).alloc (Nat.le_refl _) _).drew)
  · have h1 : kx = 1 := by assumption
    have h2 : Rt.resv tx = false := by assumption
    go_ret2
    refine Or.inl ⟨h1, h2, by simp, ?_⟩
    have hb1 := hr0.bump hn nq
    rw [← HW.out] at hb1
    obtain ⟨a1, a2⟩ := hb1
    obtain ⟨a3, a4⟩ := a1.later (((Below.refl _ _).alloc (Nat.le_refl _) (.cells #[.int .i64 1, .string tx] 81)).drew)
    exact ⟨a3, a2.trans a4⟩
  · have h1 : ¬ kx = 1 := by assumption
    go_ret2
    refine Or.inr ⟨by simp [h1], by simp, ?_⟩
    exact hr0.later (by rw [HW.out]; exact ((below_drewN w nq).alloc (Nat.le_refl _) _).drew)

end Go.Proofs.YtopeochnoefgcaaDoor

