/- The walks of the reader of expressions: sums. -/
import Derived.Test.YthleadfkfnnadaaGreatReadb
import Derived.Test.YthleadfkfnnadaaGreatRowA
import Derived.Deep.RegionLaw
import Derived.Deep.LoopGhost
namespace Go.Proofs.YthleadfkfnnadaaGreat
open Go.RowKit
attribute [local go_sem ↓] Go.wp_at_zero Go.wp_at_succ
theorem RdS.same {w w' : World} {R : Nat} {tv : Value} {ts : List Rt.Tk} {n : Nat} {ov : Value} {ops : List Pop} (hr : RdS w R tv ts n ov ops) (hh : w'.heap = w.heap) : RdS w' R tv ts n ov ops := by
  refine ⟨hr.le, hr.few, hr.fewOps, by rw [hh]; exact hr.block, ?_, ?_⟩
  · obtain ⟨b, cap, rfl, hbR, hc⟩ := hr.toks
    exact ⟨b, cap, rfl, hbR, fun i h => ⟨by rw [World.cell?_of_block (w := w) (by rw [hh])]; exact (hc i h).1, by rw [World.cell?_of_block (w := w) (by rw [hh])]; exact (hc i h).2⟩⟩
  · obtain ⟨h1, h2⟩ := hr.own
    refine ⟨h1, ?_⟩
    rcases h2 with h2 | ⟨g, cap, cur, hv, hg, hh2, r⟩
    · exact Or.inl h2
    · exact Or.inr ⟨g, cap, cur, hv, hg, by rw [hh]; exact hh2, r⟩
theorem RFr.same {R : Nat} {a b : Value} {w w1 w2 : World} (h : RFr R a b w w1) (hh : w2.heap = w1.heap) (ho : w2.os = w1.os) (ht : w2.tape = w1.tape) (hu : w2.output = w1.output) : RFr R a b w w2 :=
  ⟨ho.trans h.os, ht.trans h.tape, hu.trans h.output, by rw [hh]; exact h.size, fun k h1 h2 h3 => by rw [hh]; exact h.block k h1 h2 h3, h.own⟩
set_option maxHeartbeats 400000 in
theorem operator_yes (w : World) (R : Nat) (tv : Value) (ts : List Rt.Tk) (n : Nat) (ov : Value) (ops : List Pop) (lo hi : Int) (hr : RdS w R tv ts n ov ops) (hn : n < ts.length)
    (h1 : lo ≤ Rt.opCode ts[n].text) (h2 : Rt.opCode ts[n].text ≤ hi) :
    Calls Tryz.prog 225 #[.pointer (some ⟨R, 0, none⟩), .int .i64 lo, .int .i64 hi] w fun e w' => e = .returned (.int .i64 (Rt.opCode ts[n].text)) ∧ RdS w' R tv ts (n + 1) ov ops ∧ RFr R ov ov w w' := by
  have HB : Hid (∀ q : Nat, RdS ((w.drewN q).setCell ⟨R, 1, none⟩ (.int .i64 ((n : Int) + 1))) R tv ts (n + 1) ov ops ∧ RFr R ov ov w ((w.drewN q).setCell ⟨R, 1, none⟩ (.int .i64 ((n : Int) + 1)))) := hr.bump hn
  obtain ⟨b, cap, rfl, hb, hc⟩ := hr.toks
  have c0 := cell_of_block hr.block 0 (by simp)
  have c1 := cell_of_block hr.block 1 (by simp)
  have f1 := free_of_block hr.block 1
  simp at c0 c1
  have ct := (hc n hn).2
  clear hc
  have hfew := hr.few
  have hn' : (n : Int) < (ts.length : Int) := by omega
  generalize ts[n].text = tx at *
  go_enter Tryz.func225, Tryz.ntmps225
  go_wp2_with fail
  go_quiet (fail)
  go_wp2_with fail
  obtain ⟨w1, hw1, c0', c1', ct'⟩ := fresh3 nq c0 c1 ct
  rw [← hw1]
  have f1' : w1.frozen? ⟨R, 1, none⟩ = false := by rw [hw1]; exact f1
  have HW : Hid (w1 = w.drewN nq) := hw1
  clear hw1
  go_quiet ((go_at_call 228; exact Calls.quiet_of_same (operatorCode_any _ _)))
  go_wp2
  go_ret
  refine ⟨by simp, ?_⟩
  rw [drew_two HW.out]
  exact HB.out _
set_option maxHeartbeats 400000 in
theorem name_end (w : World) (R : Nat) (tv : Value) (ts : List Rt.Tk) (n : Nat) (ov : Value) (ops : List Pop) (hr : RdS w R tv ts n ov ops) (hn : ¬ n < ts.length) :
    Calls Tryz.prog 213 #[.pointer (some ⟨R, 0, none⟩)] w fun e w' => e = .returned (.tuple #[.string ⟨#[]⟩, .bool false]) ∧ ∃ q, w' = w.drewN q := by
  obtain ⟨b, cap, rfl, hb, hc⟩ := hr.toks
  have c0 := cell_of_block hr.block 0 (by simp)
  have c1 := cell_of_block hr.block 1 (by simp)
  simp at c0 c1
  clear hc
  have hd : ¬ ((n : Int) < (ts.length : Int)) := by omega
  go_enter Tryz.func213, Tryz.ntmps213
  go_wp2_with fail
  go_quiet (fail)
  go_wp2_with fail
  go_ret2
  exact ⟨by simp, _, rfl⟩
set_option maxHeartbeats 1000000 in
theorem name_some (w : World) (R : Nat) (tv : Value) (ts : List Rt.Tk) (n : Nat) (ov : Value) (ops : List Pop) (hr : RdS w R tv ts n ov ops) (hn : n < ts.length) :
    Calls Tryz.prog 213 #[.pointer (some ⟨R, 0, none⟩)] w fun e w' =>
      (ts[n].kind = 1 ∧ Rt.resv ts[n].text = false ∧ e = .returned (.tuple #[.string ts[n].text, .bool true]) ∧ RdS w' R tv ts (n + 1) ov ops ∧ RFr R ov ov w w') ∨
      (¬ (ts[n].kind = 1 ∧ Rt.resv ts[n].text = false) ∧ e = .returned (.tuple #[.string ⟨#[]⟩, .bool false]) ∧ RdS w' R tv ts n ov ops ∧ RFr R ov ov w w') := by
  have hr0 := hr
  obtain ⟨b, cap, rfl, hb, hc⟩ := hr.toks
  have c0 := cell_of_block hr.block 0 (by simp)
  have c1 := cell_of_block hr.block 1 (by simp)
  have f1 := free_of_block hr.block 1
  simp at c0 c1
  obtain ⟨ck, ct⟩ := hc n hn
  clear hc
  have hfew := hr.few
  have hn' : (n : Int) < (ts.length : Int) := by omega
  generalize ts[n].text = tx at *
  generalize ts[n].kind = kx at *
  have hlt : R < w.heap.size := World.block_lt_of_cell? w _ c0
  go_enter Tryz.func213, Tryz.ntmps213
  go_wp2_with fail
  go_quiet (fail)
  go_wp2_with fail
  obtain ⟨w1, hw1, c0', c1', ct'⟩ := fresh3 nq c0 c1 ct
  rw [← hw1]
  have ck' : w1.cell? ⟨b, n * 2, none⟩ = some (.int .i64 kx) := by rw [hw1]; exact ck
  have f1' : w1.frozen? ⟨R, 1, none⟩ = false := by rw [hw1]; exact f1
  have hs1 : R < w1.heap.size := by rw [hw1]; exact hlt
  have HW : Hid (w1 = w.drewN nq) := hw1
  clear hw1
  go_region_held3 (fun w' => w'.cell? ⟨R, 0, none⟩ = some (.slice (some ⟨b, 0, none⟩) ts.length cap) ∧ w'.cell? ⟨R, 1, none⟩ = some (.int .i64 n) ∧ w'.cell? ⟨b, n * 2, none⟩ = some (.int .i64 kx) ∧ w'.cell? ⟨b, n * 2 + 1, none⟩ = some (.string tx)) (go_keep) (fail)
  go_wp2_with (go_at_call 220; refine (reserved_any _ _).mono ?_; rintro e w' ⟨rfl, rfl⟩)
  · have h1 : Rt.resv tx = true := by assumption
    go_ret2
    refine Or.inr ⟨by simp [h1], by simp, ?_⟩
    exact hr0.later (by rw [HW.out]; exact ((below_drewN w nq).alloc (Nat.le_refl _) _).drew)
  · have h1 : kx = 1 := by assumption
    have h2 : Rt.resv tx = false := by assumption
    go_ret2
    refine Or.inl ⟨h1, h2, by simp, ?_⟩
    have hb1 := hr0.bump hn nq
    rw [← HW.out] at hb1
    obtain ⟨a1, a2⟩ := hb1
    obtain ⟨a3, a4⟩ := a1.later (((Below.refl _ _).alloc (Nat.le_refl _) (.cells #[.int .i64 1, .string tx] 188)).drew)
    exact ⟨a3, a2.trans a4⟩
  · have h1 : ¬ kx = 1 := by assumption
    go_ret2
    refine Or.inr ⟨by simp [h1], by simp, ?_⟩
    exact hr0.later (by rw [HW.out]; exact ((below_drewN w nq).alloc (Nat.le_refl _) _).drew)
set_option maxHeartbeats 400000 in
theorem valueOf_any (s : ByteArray) (w : World) (hs : s.size ≤ maxLen) :
    Calls Tryz.prog 221 #[.string s] w fun e w' => e = .returned (.int .i64 (Rt.val s)) ∧ w' = w := by
  unfold maxLen at hs
  go_enter Tryz.func221, Tryz.ntmps221
  go_wp2
  go_loop [3, 4] (fun v i => ∃ k : Nat, k ≤ s.size ∧ i = .int .i64 k ∧ v = .int .i64 (Rt.valTo s k)) (fun _ i => s.size - (intOf i).toNat)
  case atStart => exact ⟨0, Nat.zero_le _, rfl, rfl⟩
  case round =>
    obtain ⟨k, hk, rfl, rfl⟩ := hrel
    by_cases hlt : k < s.size
    · have HB : Hid (Rt.byteAt s k = (s[k].toNat : Int)) := Rt.byteAt_lt hlt
      go_wp2
      go_round
      case rel => exact ⟨k + 1, by omega, by go_num, by rw [Rt.valTo, HB.out]⟩
      case measure => simp [intOf]; omega
    · have hkk : k = s.size := by omega
      subst hkk
      go_wp2
      go_ret
      exact ⟨rfl, rfl⟩
theorem RdS.push {w w1 : World} {R : Nat} {tv : Value} {ts : List Rt.Tk} {n : Nat} {ov ov' : Value} {ops : List Pop} {o : Pop} {wa : World} (hr : RdS w R tv ts n ov ops) (hb : Below w.heap.size w wa)
    (hown : w1.ownsRow (R + 1) 236 3 ov' (ops.length + 1) (popsCells ops ++ [.int .i64 o.code, .int .i64 o.number, .string o.name])) (hgrow : wa.grownBy w1 ov.ownBlock)
    (hat : ∀ g, ov'.ownBlock = some g → ov.ownBlock = some g ∨ w.heap.size ≤ g) (hop : ops.length < n) :
    RdS (w1.setCell ⟨R, 2, none⟩ ov') R tv ts n ov' (ops ++ [o]) ∧ RFr R ov ov' w (w1.setCell ⟨R, 2, none⟩ ov') := by
  have hlt : R < w.heap.size := World.block_lt_of_cell? w _ (cell_of_block hr.block 0 (by simp))
  have hne : ∀ k, k ≤ R → some k ≠ ov.ownBlock := fun k hk h => by have := (hr.own.lt k h.symm).1; omega
  have hkeep : ∀ k, k < w.heap.size → some k ≠ ov.ownBlock → w1.heap[k]? = w.heap[k]? := fun k hk hkv => (hgrow.block k (Nat.lt_of_lt_of_le hk hb.size) hkv).trans (hb.block k hk)
  have hset : ∀ k, k ≠ R → (w1.setCell ⟨R, 2, none⟩ ov').heap[k]? = w1.heap[k]? := fun k hk => Below.heap_setCell w1 ⟨R, 2, none⟩ _ k hk
  have hblk : w1.heap[R]? = some (.cells #[tv, .int .i64 n, ov] 208 (0, 0)) := (hkeep R hlt (hne R (Nat.le_refl _))).trans hr.block
  refine ⟨⟨hr.le, hr.few, by simp; omega, ?_, ?_, ?_⟩, ⟨hgrow.os.trans hb.os, hgrow.tape.trans hb.tape, hgrow.output.trans hb.output, ?_, fun k hk hkR hkv => (hset k hkR).trans (hkeep k hk hkv), hat⟩⟩
  · show (w1.heap.modify R _)[R]? = _
    rw [Array.getElem?_modify]
    simp [hblk]
  · obtain ⟨b, cap, rfl, hbR, hc⟩ := hr.toks
    have hc' : ∀ j, (w1.setCell ⟨R, 2, none⟩ ov').cell? ⟨b, j, none⟩ = w.cell? ⟨b, j, none⟩ := fun j => World.cell?_of_block (w := w) ((hset b (by omega)).trans (hkeep b (by omega) (hne b (by omega))))
    exact ⟨b, cap, rfl, hbR, fun i h => ⟨by rw [hc']; exact (hc i h).1, by rw [hc']; exact (hc i h).2⟩⟩
  · rw [popsCells_snoc, List.length_append]
    exact ownsRow_setCell_below hown (by show R < R + 1; omega) _
  · simp [World.setCell]
    exact Nat.le_trans hb.size hgrow.size
theorem Tryz.infoOp : (Tryz.prog.info? 236).map (fun i => (i.zero, i.size, i.bytes)) = some (some (.agg #[.int .i64 0, .int .i64 0, .string ByteArray.empty]), 3, 32) := by kernel_rfl
theorem emit_far {w w1 : World} {R : Nat} {ov a b c : Value} (hlt : R < w.heap.size) (c2 : w.cell? ⟨R, 2, none⟩ = some ov) (f2 : w.frozen? ⟨R, 2, none⟩ = false) (hne : ov.ownBlock ≠ some R)
    (hl : ∀ k, ov.ownBlock = some k → R + 1 ≤ k ∧ k < w.heap.size) {o : Obj}
    (hgrow : ((w.alloc (.cells #[a, b, c] 236)).alloc o).drew.grownBy w1 ov.ownBlock) :
    (w1.cell? ⟨R, 2, none⟩ = some ov ∧ w1.cell? ⟨w.heap.size, 0, none⟩ = some a ∧ w1.cell? ⟨w.heap.size, 1, none⟩ = some b ∧ w1.cell? ⟨w.heap.size, 2, none⟩ = some c) ∧ w1.frozen? ⟨R, 2, none⟩ = false := by
  have h1 : ∀ k, k < w.heap.size + 1 → some k ≠ ov.ownBlock → w1.heap[k]? = (w.alloc (.cells #[a, b, c] 236)).heap[k]? := fun k hk hv => by
    rw [hgrow.block k (by simp; omega) hv]
    exact Below.heap_alloc _ _ _ (by simp; omega)
  have hR : w1.heap[R]? = w.heap[R]? := (h1 R (by omega) (Ne.symm hne)).trans (Below.heap_alloc _ _ _ hlt)
  have hN : w1.heap[w.heap.size]? = (w.alloc (.cells #[a, b, c] 236)).heap[w.heap.size]? := h1 _ (by omega) (fun e => by have := (hl _ e.symm).2; omega)
  refine ⟨⟨(World.cell?_of_block (w := w) hR).trans c2, ?_, ?_, ?_⟩, (World.frozen?_of_block (w := w) hR).trans f2⟩
  all_goals (rw [World.cell?_of_block (w := w.alloc (.cells #[a, b, c] 236)) hN]; simp)
set_option maxHeartbeats 1000000 in
theorem emit_any (w : World) (R : Nat) (tv : Value) (ts : List Rt.Tk) (n : Nat) (ov : Value) (ops : List Pop) (o : Pop) (hr : RdS w R tv ts n ov ops) (hop : ops.length < n) :
    Calls Tryz.prog 226 #[.pointer (some ⟨R, 0, none⟩), .agg #[.int .i64 o.code, .int .i64 o.number, .string o.name]] w fun e w' =>
      e = .returned (.tuple #[]) ∧ ∃ ov', RdS w' R tv ts n ov' (ops ++ [o]) ∧ RFr R ov ov' w w' := by
  obtain ⟨i0, hi0, hz0, hz1, hz2⟩ := info_parts Tryz.infoOp
  have c2 := cell_of_block hr.block 2 (by simp)
  have f2 := free_of_block hr.block 2
  simp at c2
  have hlt : R < w.heap.size := World.block_lt_of_cell? w _ c2
  have hown := hr.own
  have hfew := hr.few
  have hle := hr.le
  have hne : ov.ownBlock ≠ some R := fun h => by have := (hown.lt R h).1; omega
  go_enter Tryz.func226, Tryz.ntmps226
  go_wp2_with fail
  go_region_law
    ((refine step_append_lies _ (by rfl) _ _ _ (by rfl) (R + 1) 236 i0 _ 3 32 Tryz.underlying138 hi0 hz0 hz1 hz2 rfl (by omega) ov ops.length (popsCells ops) (by rfl) (((hown.alloc _).alloc _).drew)
        ⟨w.heap.size + 1, 0, none⟩ 1 1 [.int .i64 o.code, .int .i64 o.number, .string o.name] (by rfl) (by rfl) (World.news_of_block (cs := #[.int .i64 o.code, .int .i64 o.number, .string o.name]) (t := 236) (fr := (0, 0)) (alloc2_new w _ _)) (by simp [Value.oneCell'])
        (by omega) (by unfold maxLen; omega) (by omega) (by simp; omega) (w.heap.size + 2) (by simp) ?_; intro gg cap w1 hown1 hgrow hat hlt1; obtain ⟨⟨hfar, _⟩, hfz⟩ := emit_far hlt c2 f2 hne hown.lt hgrow))
  all_goals
    go_end0
    exact ⟨rfl, _, hr.push ((((Below.refl _ _).alloc (Nat.le_refl _) _).alloc (by simp) _).drew) hown1 hgrow (fun g hg => by simp [Value.ownBlock] at hg; subst hg; rcases hat with h | h; exact Or.inl h; exact Or.inr (by omega)) hop⟩
set_option maxHeartbeats 400000 in
theorem number_end (w : World) (R : Nat) (tv : Value) (ts : List Rt.Tk) (n : Nat) (ov : Value) (ops : List Pop) (hr : RdS w R tv ts n ov ops) (hn : ¬ n < ts.length) :
    Calls Tryz.prog 214 #[.pointer (some ⟨R, 0, none⟩)] w fun e w' => e = .returned (.tuple #[.int .i64 0, .bool false]) ∧ ∃ q, w' = w.drewN q := by
  obtain ⟨b, cap, rfl, hb, hc⟩ := hr.toks
  have c0 := cell_of_block hr.block 0 (by simp)
  have c1 := cell_of_block hr.block 1 (by simp)
  simp at c0 c1
  clear hc
  have hd : decide ((ts.length : Int) ≤ (n : Int)) = true := by simp; omega
  go_enter Tryz.func214, Tryz.ntmps214
  go_wp2_with fail
  go_quiet (fail)
  go_wp2_with fail
  go_ret2
  exact ⟨by simp, _, rfl⟩
set_option maxHeartbeats 400000 in
theorem number_no (w : World) (R : Nat) (tv : Value) (ts : List Rt.Tk) (n : Nat) (ov : Value) (ops : List Pop) (hr : RdS w R tv ts n ov ops) (hn : n < ts.length) (hk : ¬ ts[n].kind = 2) :
    Calls Tryz.prog 214 #[.pointer (some ⟨R, 0, none⟩)] w fun e w' => e = .returned (.tuple #[.int .i64 0, .bool false]) ∧ ∃ q, w' = w.drewN q := by
  obtain ⟨b, cap, rfl, hb, hc⟩ := hr.toks
  have c0 := cell_of_block hr.block 0 (by simp)
  have c1 := cell_of_block hr.block 1 (by simp)
  simp at c0 c1
  have ck := (hc n hn).1
  clear hc
  generalize ts[n].kind = kx at *
  have hk' : (kx != 2) = true := by simpa using hk
  clear hk
  have hd : decide ((ts.length : Int) ≤ (n : Int)) = false := by simp; omega
  have hn' : (n : Int) < (ts.length : Int) := by omega
  go_enter Tryz.func214, Tryz.ntmps214
  go_wp2_with fail
  go_quiet (fail)
  go_wp2_with fail
  go_ret2
  exact ⟨by simp, _, rfl⟩
set_option maxHeartbeats 400000 in
theorem number_yes (w : World) (R : Nat) (tv : Value) (ts : List Rt.Tk) (n : Nat) (ov : Value) (ops : List Pop) (hr : RdS w R tv ts n ov ops) (hn : n < ts.length) (hk : ts[n].kind = 2) (hs : ts[n].text.size ≤ maxLen) :
    Calls Tryz.prog 214 #[.pointer (some ⟨R, 0, none⟩)] w fun e w' => e = .returned (.tuple #[.int .i64 (Rt.val ts[n].text), .bool true]) ∧ RdS w' R tv ts (n + 1) ov ops ∧ RFr R ov ov w w' := by
  have HB : Hid (∀ q : Nat, RdS ((w.drewN q).setCell ⟨R, 1, none⟩ (.int .i64 ((n : Int) + 1))) R tv ts (n + 1) ov ops ∧ RFr R ov ov w ((w.drewN q).setCell ⟨R, 1, none⟩ (.int .i64 ((n : Int) + 1)))) := hr.bump hn
  obtain ⟨b, cap, rfl, hb, hc⟩ := hr.toks
  have c0 := cell_of_block hr.block 0 (by simp)
  have c1 := cell_of_block hr.block 1 (by simp)
  have f1 := free_of_block hr.block 1
  simp at c0 c1
  obtain ⟨ck, ct⟩ := hc n hn
  clear hc
  rw [hk] at ck
  clear hk
  have hfew := hr.few
  generalize ts[n].text = tx at *
  have hd : decide ((ts.length : Int) ≤ (n : Int)) = false := by simp; omega
  have hn' : (n : Int) < (ts.length : Int) := by omega
  go_enter Tryz.func214, Tryz.ntmps214
  go_wp2_with fail
  go_quiet (fail)
  go_wp2_with fail
  obtain ⟨w1, hw1, c0', c1', ct'⟩ := fresh3 nq c0 c1 ct
  rw [← hw1]
  have f1' : w1.frozen? ⟨R, 1, none⟩ = false := by rw [hw1]; exact f1
  have HW : Hid (w1 = w.drewN nq) := hw1
  clear hw1
  go_quiet ((go_at_call 221; exact Calls.quiet_of_same (valueOf_any _ _ hs)))
  go_wp2
  go_ret2
  refine ⟨by simp, ?_⟩
  rw [drew_two HW.out]
  exact HB.out _
end Go.Proofs.YthleadfkfnnadaaGreat
namespace Go.Proofs.YthleadfkfnnadaaGreat
open Go.RowKit
def Reads (f : Nat) (fn : FuncId) (spec : List Rt.Tk → Rt.Got) : Prop :=
  ∀ (w : World) (R : Nat) (tv : Value) (ts : List Rt.Tk) (n : Nat) (ov : Value) (ops : List Pop), RdS w R tv ts n ov ops → (∀ t ∈ ts, t.text.size ≤ 40000) → ts.length - n ≤ f →
    Calls Tryz.prog fn #[.pointer (some ⟨R, 0, none⟩)] w fun e w' =>
      (∃ em n' ov', spec (ts.drop n) = some (em, ts.drop n') ∧ e = .returned (.bool true) ∧ em.length + n ≤ n' ∧ n < n' ∧ RdS w' R tv ts n' ov' (ops ++ em) ∧ RFr R ov ov' w w') ∨
      (spec (ts.drop n) = none ∧ e = .returned (.bool false) ∧ ∃ ov', RFr R ov ov' w w')
theorem drop_at {ts : List Rt.Tk} {n : Nat} (h : n < ts.length) : ts.drop n = ts[n] :: ts.drop (n + 1) := List.drop_eq_getElem_cons h
theorem drop_end {ts : List Rt.Tk} {n : Nat} (h : ¬ n < ts.length) : ts.drop n = [] := List.drop_eq_nil_of_le (by omega)
theorem RdS.quiet {w : World} {R : Nat} {tv : Value} {ts : List Rt.Tk} {n : Nat} {ov : Value} {ops : List Pop} (hr : RdS w R tv ts n ov ops) (q : Nat) : RdS (w.drewN q) R tv ts n ov ops ∧ RFr R ov ov w (w.drewN q) :=
  hr.later (below_drewN w q)
theorem loop_end {pf : List Rt.Tk → Rt.Got} {lo hi : Int} {g n1 : Nat} {ts : List Rt.Tk} {em : List Pop} {tot : Rt.Got} (h : Rt.joinE em (Rt.pLoop pf lo hi (g + 1) (ts.drop n1)) = tot) (hn : ¬ n1 < ts.length) : tot = some (em, ts.drop n1) := by
  rw [← h, drop_end hn]; simp [Rt.pLoop, Rt.joinE]
theorem loop_stop {pf : List Rt.Tk → Rt.Got} {lo hi : Int} {g n1 : Nat} {ts : List Rt.Tk} {em : List Pop} {tot : Rt.Got} (h : Rt.joinE em (Rt.pLoop pf lo hi (g + 1) (ts.drop n1)) = tot) (hn : n1 < ts.length)
    (hx : Rt.opCode ts[n1].text < lo ∨ hi < Rt.opCode ts[n1].text) : tot = some (em, ts.drop n1) := by
  rw [← h, drop_at hn, Rt.pLoop, if_neg (by omega)]; simp [Rt.joinE]
theorem loop_none {pf : List Rt.Tk → Rt.Got} {lo hi : Int} {g n1 : Nat} {ts : List Rt.Tk} {em : List Pop} {tot : Rt.Got} (h : Rt.joinE em (Rt.pLoop pf lo hi (g + 1) (ts.drop n1)) = tot) (hn : n1 < ts.length)
    (h1 : lo ≤ Rt.opCode ts[n1].text) (h2 : Rt.opCode ts[n1].text ≤ hi) (hp : pf (ts.drop (n1 + 1)) = none) : tot = none := by
  rw [← h, drop_at hn, Rt.pLoop, if_pos ⟨h1, h2⟩, hp]; simp [Rt.joinE]
theorem loop_next {pf : List Rt.Tk → Rt.Got} {lo hi : Int} {g n1 n2 : Nat} {ts : List Rt.Tk} {em em2 : List Pop} {tot : Rt.Got} (h : Rt.joinE em (Rt.pLoop pf lo hi (g + 1) (ts.drop n1)) = tot) (hn : n1 < ts.length)
    (h1 : lo ≤ Rt.opCode ts[n1].text) (h2 : Rt.opCode ts[n1].text ≤ hi) (hp : pf (ts.drop (n1 + 1)) = some (em2, ts.drop n2)) :
    Rt.joinE (em ++ em2 ++ [⟨Rt.opCode ts[n1].text, 0, ⟨#[]⟩⟩]) (Rt.pLoop pf lo hi g (ts.drop n2)) = tot := by
  rw [← h, drop_at hn, Rt.pLoop, if_pos ⟨h1, h2⟩, hp]
  cases hq : Rt.pLoop pf lo hi g (ts.drop n2) with
  | none => simp [Rt.joinE, hq]
  | some x => simp [Rt.joinE, hq]
set_option maxHeartbeats 1000000 in
theorem term_any (f : Nat) (hf : Reads f 229 (Rt.pFactor f)) : Reads f 227 (Rt.pTerm (Rt.pFactor f)) := by
  intro w R tv ts n ov ops hr hsm hle
  have HSM := hide hsm
  clear hsm
  have hfew := hr.few
  go_enter Tryz.func227, Tryz.ntmps227
  go_wp2_with fail
  refine (hf _ _ _ _ _ _ _ hr (unhide HSM) hle).mono ?_
  rintro e w1 (⟨em, n1, ov1, hs, rfl, hlen, hlt, hr1, hfr1⟩ | ⟨hs, rfl, ov1, hfr1⟩)
  · have hT : Rt.joinE em (Rt.pLoop (Rt.pFactor f) 7 9 25 (ts.drop n1)) = Rt.pTerm (Rt.pFactor f) (ts.drop n) := by
      unfold Rt.pTerm Rt.pChain
      rw [hs]
    have hle1 := hr1.le
    go_wp2_with fail
    go_loopg [3] (ts.length - n1) (fun k _ wr => ∃ (n2 : Nat) (ov2 : Value) (em2 : List Pop) (g : Nat), k = ts.length - n2 ∧ k < g ∧ n < n2 ∧ em2.length + n ≤ n2 ∧
      Rt.joinE em2 (Rt.pLoop (Rt.pFactor f) 7 9 g (ts.drop n2)) = Rt.pTerm (Rt.pFactor f) (ts.drop n) ∧ RdS wr R tv ts n2 ov2 (ops ++ em2) ∧ RFr R ov ov2 w wr)
    case atStart => exact ⟨n1, ov1, em, 25, rfl, by omega, hlt, hlen, hT, hr1, hfr1⟩
    case round =>
      clear hT hr1 hfr1 hs hlen hlt hle1
      obtain ⟨n2, ov2, em2, g, hk, hg, hlt, hlen, hT, hr2, hfr2⟩ := hrel
      have HT := hide hT
      have HK := hide hk
      clear hT hk
      obtain ⟨g, rfl⟩ : ∃ g', g = g' + 1 := ⟨g - 1, by omega⟩
      have hle2 := hr2.le
      have hops := hr.fewOps
      by_cases hn : n2 < ts.length
      · have hd : decide (n2 < ts.length) = true := by simpa using hn
        by_cases hx : Rt.opCode ts[n2].text < 7 ∨ 9 < Rt.opCode ts[n2].text
        · have HE := hide (loop_stop (unhide HT) hn hx)
          go_wp2_with fail
          refine (more_any _ _ _ _ _ _ _ hr2).mono ?_
          rintro e w2 ⟨rfl, q, rfl⟩
          rw [hd]
          obtain ⟨hr3, hfr3⟩ := hr2.quiet q
          go_wp2_with fail
          refine (operator_no _ _ _ _ _ _ _ _ _ hr3 hn hx).mono ?_
          rintro e w3 ⟨rfl, q2, rfl⟩
          obtain ⟨hr4, hfr4⟩ := hr3.quiet q2
          have HR := hide hr4
          have HFR := hide (hfr2.trans (hfr3.trans hfr4))
          clear hr4 hfr4 hr3 hfr3 hr2 hfr2
          go_wp2_with fail
          go_ret
          exact Or.inl ⟨em2, n2, ov2, unhide HE, rfl, hlen, hlt, (unhide HR).same rfl, (unhide HFR).same rfl rfl rfl rfl⟩
        · have h1 : 7 ≤ Rt.opCode ts[n2].text := by omega
          have h2 : Rt.opCode ts[n2].text ≤ 9 := by omega
          go_wp2_with fail
          refine (more_any _ _ _ _ _ _ _ hr2).mono ?_
          rintro e w2 ⟨rfl, q, rfl⟩
          rw [hd]
          obtain ⟨hr3, hfr3⟩ := hr2.quiet q
          go_wp2_with fail
          refine (operator_yes _ _ _ _ _ _ _ _ _ hr3 hn h1 h2).mono ?_
          rintro e w3 ⟨rfl, hr4, hfr4⟩
          have hz : (Rt.opCode ts[n2].text == 0) = false := by rw [beq_eq_false_iff_ne]; omega
          generalize hcode : Rt.opCode ts[n2].text = code at *
          have HC := hide hcode
          clear hcode hx
          go_wp2_with fail
          refine (hf _ _ _ _ _ _ _ hr4 (unhide HSM) (by omega)).mono ?_
          rintro e w4 (⟨em5, n5, ov5, hs5, rfl, hlen5, hlt5, hr5, hfr5⟩ | ⟨hs5, rfl, ov5, hfr5⟩)
          · have HN := hide (loop_next (unhide HT) hn (by rw [unhide HC]; exact h1) (by rw [unhide HC]; exact h2) hs5)
            clear hs5
            go_wp2_with fail
            refine (emit_any _ _ _ _ _ _ _ ⟨code, 0, ⟨#[]⟩⟩ hr5 (by have := hr5.fewOps; simp at this ⊢; omega)).mono ?_
            rintro e w5 ⟨rfl, ov6, hr6, hfr6⟩
            have HR := hide hr6
            have HFR := hide (hfr2.trans (hfr3.trans (hfr4.trans (hfr5.trans hfr6))))
            have hle5 := hr5.le
            clear hr2 hr3 hr4 hr5 hr6 hfr2 hfr3 hfr4 hfr5 hfr6
            go_wp2_with fail
            go_roundg (ts.length - n5)
            case measure => have := unhide HK; omega
            case rel => exact ⟨n5, ov6, em2 ++ em5 ++ [⟨code, 0, ⟨#[]⟩⟩], g, rfl, by have := unhide HK; omega, by omega, by simp; omega, by have := unhide HN; rw [unhide HC] at this; exact this, by have := unhide HR; simpa using this, unhide HFR⟩
          · have HN := hide (loop_none (unhide HT) hn (by rw [unhide HC]; exact h1) (by rw [unhide HC]; exact h2) hs5)
            clear hs5
            have HFR := hide (hfr2.trans (hfr3.trans (hfr4.trans hfr5)))
            clear hr2 hr3 hr4 hfr2 hfr3 hfr4 hfr5
            go_wp2_with fail
            go_ret
            exact Or.inr ⟨unhide HN, rfl, _, unhide HFR⟩
      · have HE := hide (loop_end (unhide HT) hn)
        have hd : decide (n2 < ts.length) = false := by simpa using hn
        go_wp2_with fail
        refine (more_any _ _ _ _ _ _ _ hr2).mono ?_
        rintro e w2 ⟨rfl, q, rfl⟩
        rw [hd]
        obtain ⟨hr3, hfr3⟩ := hr2.quiet q
        have HR := hide hr3
        have HFR := hide (hfr2.trans hfr3)
        clear hr3 hfr3 hr2 hfr2
        go_wp2_with fail
        go_ret
        exact Or.inl ⟨em2, n2, ov2, unhide HE, rfl, hlen, hlt, (unhide HR).same rfl, (unhide HFR).same rfl rfl rfl rfl⟩
  · have HS := hide hs
    clear hs
    go_wp2_with fail
    go_ret
    exact Or.inr ⟨by simp [Rt.pTerm, Rt.pChain, unhide HS], rfl, _, hfr1⟩
set_option maxHeartbeats 1000000 in
theorem sum_any (f : Nat) (hf : Reads f 227 (Rt.pTerm (Rt.pFactor f))) : Reads f 224 (Rt.pSum (Rt.pFactor f)) := by
  intro w R tv ts n ov ops hr hsm hle
  have HSM := hide hsm
  clear hsm
  have hfew := hr.few
  go_enter Tryz.func224, Tryz.ntmps224
  go_wp2_with fail
  refine (hf _ _ _ _ _ _ _ hr (unhide HSM) hle).mono ?_
  rintro e w1 (⟨em, n1, ov1, hs, rfl, hlen, hlt, hr1, hfr1⟩ | ⟨hs, rfl, ov1, hfr1⟩)
  · have hT : Rt.joinE em (Rt.pLoop (Rt.pTerm (Rt.pFactor f)) 5 6 25 (ts.drop n1)) = Rt.pSum (Rt.pFactor f) (ts.drop n) := by
      unfold Rt.pSum Rt.pChain
      rw [hs]
    have hle1 := hr1.le
    go_wp2_with fail
    go_loopg [3] (ts.length - n1) (fun k _ wr => ∃ (n2 : Nat) (ov2 : Value) (em2 : List Pop) (g : Nat), k = ts.length - n2 ∧ k < g ∧ n < n2 ∧ em2.length + n ≤ n2 ∧
      Rt.joinE em2 (Rt.pLoop (Rt.pTerm (Rt.pFactor f)) 5 6 g (ts.drop n2)) = Rt.pSum (Rt.pFactor f) (ts.drop n) ∧ RdS wr R tv ts n2 ov2 (ops ++ em2) ∧ RFr R ov ov2 w wr)
    case atStart => exact ⟨n1, ov1, em, 25, rfl, by omega, hlt, hlen, hT, hr1, hfr1⟩
    case round =>
      clear hT hr1 hfr1 hs hlen hlt hle1
      obtain ⟨n2, ov2, em2, g, hk, hg, hlt, hlen, hT, hr2, hfr2⟩ := hrel
      have HT := hide hT
      have HK := hide hk
      clear hT hk
      obtain ⟨g, rfl⟩ : ∃ g', g = g' + 1 := ⟨g - 1, by omega⟩
      have hle2 := hr2.le
      have hops := hr.fewOps
      by_cases hn : n2 < ts.length
      · have hd : decide (n2 < ts.length) = true := by simpa using hn
        by_cases hx : Rt.opCode ts[n2].text < 5 ∨ 6 < Rt.opCode ts[n2].text
        · have HE := hide (loop_stop (unhide HT) hn hx)
          go_wp2_with fail
          refine (more_any _ _ _ _ _ _ _ hr2).mono ?_
          rintro e w2 ⟨rfl, q, rfl⟩
          rw [hd]
          obtain ⟨hr3, hfr3⟩ := hr2.quiet q
          go_wp2_with fail
          refine (operator_no _ _ _ _ _ _ _ _ _ hr3 hn hx).mono ?_
          rintro e w3 ⟨rfl, q2, rfl⟩
          obtain ⟨hr4, hfr4⟩ := hr3.quiet q2
          have HR := hide hr4
          have HFR := hide (hfr2.trans (hfr3.trans hfr4))
          clear hr4 hfr4 hr3 hfr3 hr2 hfr2
          go_wp2_with fail
          go_ret
          exact Or.inl ⟨em2, n2, ov2, unhide HE, rfl, hlen, hlt, (unhide HR).same rfl, (unhide HFR).same rfl rfl rfl rfl⟩
        · have h1 : 5 ≤ Rt.opCode ts[n2].text := by omega
          have h2 : Rt.opCode ts[n2].text ≤ 6 := by omega
          go_wp2_with fail
          refine (more_any _ _ _ _ _ _ _ hr2).mono ?_
          rintro e w2 ⟨rfl, q, rfl⟩
          rw [hd]
          obtain ⟨hr3, hfr3⟩ := hr2.quiet q
          go_wp2_with fail
          refine (operator_yes _ _ _ _ _ _ _ _ _ hr3 hn h1 h2).mono ?_
          rintro e w3 ⟨rfl, hr4, hfr4⟩
          have hz : (Rt.opCode ts[n2].text == 0) = false := by rw [beq_eq_false_iff_ne]; omega
          generalize hcode : Rt.opCode ts[n2].text = code at *
          have HC := hide hcode
          clear hcode hx
          go_wp2_with fail
          refine (hf _ _ _ _ _ _ _ hr4 (unhide HSM) (by omega)).mono ?_
          rintro e w4 (⟨em5, n5, ov5, hs5, rfl, hlen5, hlt5, hr5, hfr5⟩ | ⟨hs5, rfl, ov5, hfr5⟩)
          · have HN := hide (loop_next (unhide HT) hn (by rw [unhide HC]; exact h1) (by rw [unhide HC]; exact h2) hs5)
            clear hs5
            go_wp2_with fail
            refine (emit_any _ _ _ _ _ _ _ ⟨code, 0, ⟨#[]⟩⟩ hr5 (by have := hr5.fewOps; simp at this ⊢; omega)).mono ?_
            rintro e w5 ⟨rfl, ov6, hr6, hfr6⟩
            have HR := hide hr6
            have HFR := hide (hfr2.trans (hfr3.trans (hfr4.trans (hfr5.trans hfr6))))
            have hle5 := hr5.le
            clear hr2 hr3 hr4 hr5 hr6 hfr2 hfr3 hfr4 hfr5 hfr6
            go_wp2_with fail
            go_roundg (ts.length - n5)
            case measure => have := unhide HK; omega
            case rel => exact ⟨n5, ov6, em2 ++ em5 ++ [⟨code, 0, ⟨#[]⟩⟩], g, rfl, by have := unhide HK; omega, by omega, by simp; omega, by have := unhide HN; rw [unhide HC] at this; exact this, by have := unhide HR; simpa using this, unhide HFR⟩
          · have HN := hide (loop_none (unhide HT) hn (by rw [unhide HC]; exact h1) (by rw [unhide HC]; exact h2) hs5)
            clear hs5
            have HFR := hide (hfr2.trans (hfr3.trans (hfr4.trans hfr5)))
            clear hr2 hr3 hr4 hfr2 hfr3 hfr4 hfr5
            go_wp2_with fail
            go_ret
            exact Or.inr ⟨unhide HN, rfl, _, unhide HFR⟩
      · have HE := hide (loop_end (unhide HT) hn)
        have hd : decide (n2 < ts.length) = false := by simpa using hn
        go_wp2_with fail
        refine (more_any _ _ _ _ _ _ _ hr2).mono ?_
        rintro e w2 ⟨rfl, q, rfl⟩
        rw [hd]
        obtain ⟨hr3, hfr3⟩ := hr2.quiet q
        have HR := hide hr3
        have HFR := hide (hfr2.trans hfr3)
        clear hr3 hfr3 hr2 hfr2
        go_wp2_with fail
        go_ret
        exact Or.inl ⟨em2, n2, ov2, unhide HE, rfl, hlen, hlt, (unhide HR).same rfl, (unhide HFR).same rfl rfl rfl rfl⟩
  · have HS := hide hs
    clear hs
    go_wp2_with fail
    go_ret
    exact Or.inr ⟨by simp [Rt.pSum, Rt.pChain, unhide HS], rfl, _, hfr1⟩
end Go.Proofs.YthleadfkfnnadaaGreat
