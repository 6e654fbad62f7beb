/- A session takes a step back. -/
import Derived.Test.YtbpajiljfppjcaaGreatMuE
import Derived.Test.YtbpajiljfppjcaaGreatJrD
import Derived.Test.YtbpajiljfppjcaaGreatSeA
namespace Go.Proofs.YtbpajiljfppjcaaGreat
open Go.RowKit
attribute [local go_sem ↓] Go.wp_at_zero Go.wp_at_succ

set_option maxHeartbeats 1000000 in
set_option maxRecDepth 100000 in
theorem undo_else (w : World) (M B : Nat) (ty : TypeId) (tail : List Value) (S : Rt.Src) (m : Rt.Mc) (X : McX) (h : McS w M B ty tail S m X) (hm : Mok S m) (hp : ∀ f ∈ m.frames, f.params.length ≤ 900) (rk rl al ac rv : Int) (k1 : rk ≠ 1) (k2 : rk ≠ 2) (k3 : rk ≠ 3) (k4 : rk ≠ 4) (k5 : rk ≠ 5) (k6 : rk ≠ 6) (k7 : rk ≠ 7) :
    Calls Tryz.prog 67 #[.pointer (some ⟨M, 0, none⟩), .agg (recA ⟨rk, rl, ⟨al, ac⟩, rv⟩)] w (UndP M B ty tail S X (Rt.undo1 m ⟨rk, rl, ⟨al, ac⟩, rv⟩) w) := by
  have hbA := (Below.refl w.heap.size w).alloc (Nat.le_refl _) (.cells (recA ⟨rk, rl, ⟨al, ac⟩, rv⟩) 87)
  have bR := heap_alloc_new w (.cells (recA ⟨rk, rl, ⟨al, ac⟩, rv⟩) 87)
  have hA := h.later hbA
  have hMlt := block_lt h.block
  have HH := hide (And.intro h (And.intro hA (And.intro hbA (And.intro hm hp))))
  clear h hA hbA hm hp
  have z1 : (rk == 1) = false := by simpa using k1
  have z2 : (rk == 2) = false := by simpa using k2
  have z3 : (rk == 3) = false := by simpa using k3
  have z4 : (rk == 4) = false := by simpa using k4
  have z5 : (rk == 5) = false := by simpa using k5
  have z6 : (rk == 6) = false := by simpa using k6
  have z7 : (rk == 7) = false := by simpa using k7
  have HE := hide (show Rt.undo1 m ⟨rk, rl, ⟨al, ac⟩, rv⟩ = m by unfold Rt.undo1 Rt.back1; simp [Rt.begins, k1, k2, k3, k4, k5, k6, k7])
  go_enter Tryz.func67, Tryz.ntmps67
  go_wp2_with fail
  refine (begins_any _ ⟨rk, rl, ⟨al, ac⟩, rv⟩).mono ?_
  rintro e w1 ⟨rfl, hb1⟩
  rw [show Rt.begins ⟨rk, rl, ⟨al, ac⟩, rv⟩ = false by simp [Rt.begins, k1, k2, k3]]
  have h1 := (unhide HH).2.1.later hb1
  have bR1 := block_later bR hb1
  have hA1 := Aft.start (unhide HH).1 ((unhide HH).2.2.1.trans (hb1.mono (B' := w.heap.size) (by simp)))
  have r0 : w1.cell? ⟨w.heap.size, 0, none⟩ = some (.int .i64 rk) := by have := cell_of_block bR1 0 (by simp); simpa using this
  have r1 : w1.cell? ⟨w.heap.size, 1, none⟩ = some (.int .i64 rl) := by have := cell_of_block bR1 1 (by simp); simpa using this
  have r2 : w1.cell? ⟨w.heap.size, 2, none⟩ = some (.int .i64 al) := by have := cell_of_block bR1 2 (by simp); simpa using this
  have r3 : w1.cell? ⟨w.heap.size, 3, none⟩ = some (.int .i64 ac) := by have := cell_of_block bR1 3 (by simp); simpa using this
  have r4 : w1.cell? ⟨w.heap.size, 4, none⟩ = some (.int .i64 rv) := by have := cell_of_block bR1 4 (by simp); simpa using this
  have hne : ¬ w.heap.size = M := by omega
  have hne' : ¬ M = w.heap.size := by omega
  have HX := hide hA1
  have HB := hide (show Rt.begins ⟨rk, rl, ⟨al, ac⟩, rv⟩ = false by simp [Rt.begins, k1, k2, k3])
  clear h1 hb1 bR1 bR hA1 k1 k2 k3 k4 k5 k6 k7
  go_wp2_with fail
  go_end0
  exact ⟨rfl, _, by rw [unhide HE]; exact unhide HX⟩
theorem undo_any (w : World) (M B : Nat) (ty : TypeId) (tail : List Value) (S : Rt.Src) (m : Rt.Mc) (X : McX) (h : McS w M B ty tail S m X) (hm : Mok S m) (hp : ∀ f ∈ m.frames, f.params.length ≤ 900) (r : Rt.Rec) :
    Calls Tryz.prog 67 #[.pointer (some ⟨M, 0, none⟩), .agg (recA r)] w (UndP M B ty tail S X (Rt.undo1 m r) w) := by
  obtain ⟨rk, rl, ⟨al, ac⟩, rv⟩ := r
  by_cases k1 : rk = 1
  · subst k1; exact undo_stayed w M B ty tail S m X h hm hp rl al ac rv
  by_cases k2 : rk = 2
  · subst k2; exact undo_entered w M B ty tail S m X h hm hp rl al ac rv
  by_cases k3 : rk = 3
  · subst k3; exact undo_dropped w M B ty tail S m X h hm hp rl al ac rv
  by_cases k4 : rk = 4
  · subst k4; exact undo_stored3 w M B ty tail S m X h hm hp rl al ac rv
  by_cases k5 : rk = 5
  · subst k5; exact undo_printed w M B ty tail S m X h hm hp rl al ac rv
  by_cases k6 : rk = 6
  · subst k6; exact undo_fetched w M B ty tail S m X h hm hp rl al ac rv
  by_cases k7 : rk = 7
  · subst k7; exact undo_passed w M B ty tail S m X h hm hp rl al ac rv
  exact undo_else w M B ty tail S m X h hm hp rk rl al ac rv k1 k2 k3 k4 k5 k6 k7
/-- Bounds within an undoing. -/
structure Mid (S : Rt.Src) (m : Rt.Mc) (n : Nat) : Prop where
  pls : S.pls.length ≤ 101
  input : S.input.length ≤ 100
  frames : m.frames.length ≤ n
  values : m.values.length ≤ 101
  output : m.output.length ≤ 1000
  params : ∀ f ∈ m.frames, f.params.length ≤ n
  cells : ∀ l ∈ m.values, l.length ≤ 1000
  forms : ∀ p ∈ S.pls, Rt.Small p.form
theorem Mid.mok {S : Rt.Src} {m : Rt.Mc} {n : Nat} (h : Mid S m n) (hn : n ≤ 900) : Mok S m := ⟨h.pls, h.input, Nat.le_trans h.frames (by omega), h.values, h.output, fun f hf => Nat.le_trans (h.params f hf) (by omega), h.cells, h.forms⟩
theorem mid_of {S : Rt.Src} {m : Rt.Mc} (h : KeepG S m) (hp : Par4 m) : Mid S m 10 := ⟨h.mok.pls, h.mok.input, Nat.le_trans h.hi (by omega), h.mok.values, h.mok.output, fun f hf => Nat.le_trans (hp f hf) (by omega), h.mok.cells, h.mok.forms⟩
theorem Mid.more {S : Rt.Src} {m : Rt.Mc} {n n' : Nat} (h : Mid S m n) (hn : n ≤ n') : Mid S m n' := ⟨h.pls, h.input, Nat.le_trans h.frames hn, h.values, h.output, fun f hf => Nat.le_trans (h.params f hf) hn, h.cells, h.forms⟩
theorem Mid.put {S : Rt.Src} {m : Rt.Mc} {n : Nat} (h : Mid S m n) (s : Rt.Spot) (v : Int) : Mid S (Rt.putS m s v) n := by
  unfold Rt.putS
  split
  · split
    · refine ⟨h.pls, h.input, h.frames, by simpa using h.values, h.output, h.params, ?_, h.forms⟩
      intro l hl
      obtain ⟨i, hi, rfl⟩ := List.getElem_of_mem hl
      simp only [List.length_modify] at hi
      rw [List.getElem_modify]
      split
      · rw [List.length_set]; exact h.cells _ (List.getElem_mem hi)
      · exact h.cells _ (List.getElem_mem hi)
    · refine ⟨h.pls, h.input, by simpa using h.frames, h.values, h.output, ?_, h.cells, h.forms⟩
      intro l hl
      obtain ⟨i, hi, rfl⟩ := List.getElem_of_mem hl
      simp only [List.length_modify] at hi
      rw [List.getElem_modify]
      split
      · simp only [List.length_set]; exact h.params _ (List.getElem_mem hi)
      · exact h.params _ (List.getElem_mem hi)
  · exact h
theorem Mid.back {S : Rt.Src} {m : Rt.Mc} {n : Nat} (h : Mid S m n) (r : Rt.Rec) : Mid S (Rt.back1 m r) n := by
  unfold Rt.back1
  split
  · exact ⟨h.pls, h.input, h.frames, h.values, h.output, h.params, h.cells, h.forms⟩
  · exact h
theorem Mid.undo {S : Rt.Src} {m : Rt.Mc} {n : Nat} (h : Mid S m n) (r : Rt.Rec) : Mid S (Rt.undo1 m r) (n + 1) := by
  have hb := (h.back r).more (Nat.le_succ n)
  have hb0 := h.back r
  unfold Rt.undo1
  split
  · exact ⟨hb.pls, hb.input, by simp only [List.length_dropLast]; have := hb.frames; omega, hb.values, hb.output, fun f hf => hb.params f (List.dropLast_subset _ hf), hb.cells, hb.forms⟩
  split
  · refine ⟨hb.pls, hb.input, by simp only [List.length_append, List.length_singleton]; have := hb0.frames; omega, hb.values, hb.output, ?_, hb.cells, hb.forms⟩
    intro f hf
    rcases List.mem_append.mp hf with hf | hf
    · exact hb.params f hf
    · rw [List.mem_singleton.mp hf]; exact Nat.zero_le _
  split
  · exact hb.put _ _
  split
  · exact ⟨hb.pls, hb.input, hb.frames, hb.values, by simp only [List.length_dropLast]; have := hb.output; omega, hb.params, hb.cells, hb.forms⟩
  split
  · exact ⟨hb.pls, hb.input, hb.frames, hb.values, hb.output, hb.params, hb.cells, hb.forms⟩
  split
  · unfold Rt.addPar
    refine ⟨hb.pls, hb.input, by simp only [List.length_modify]; exact hb.frames, hb.values, hb.output, ?_, hb.cells, hb.forms⟩
    intro l hl
    obtain ⟨i, hi, rfl⟩ := List.getElem_of_mem hl
    simp only [List.length_modify] at hi
    simp only [List.getElem_modify]
    split
    · simp only [List.length_append, List.length_singleton]
      have := hb0.params _ (List.getElem_mem hi)
      omega
    · exact hb.params _ (List.getElem_mem hi)
  · exact hb
theorem undoM_take (m : Rt.Mc) (rs : List Rt.Rec) (k : Nat) (hk : k < rs.length) : Rt.undoM m (rs.take (k + 1)) = Rt.undo1 (Rt.undoM m (rs.take k)) rs[k] := by
  unfold Rt.undoM
  rw [List.take_succ_eq_append_getElem hk, List.foldl_append]
  rfl
set_option maxHeartbeats 1000000 in
set_option maxRecDepth 100000 in
theorem undoAll_any (w : World) (M B : Nat) (ty : TypeId) (tail : List Value) (S : Rt.Src) (m : Rt.Mc) (X : McX) (h : McS w M B ty tail S m X) (hty : ty ≠ 87) (hm : Mid S m 10) (rs : List Rt.Rec) (hrl : rs.length ≤ 500) (B0 : Nat) (sv : Value) (hs : w.ownsRow B0 87 5 sv rs.length (recsCells rs)) :
    Calls Tryz.prog 47 #[.pointer (some ⟨M, 0, none⟩), sv] w (UndP M B ty tail S X (Rt.undoM m rs) w) := by
  obtain ⟨ad, scap, rfl⟩ := ownsRow_form hs
  have hMlt := block_lt h.block
  have HH := hide (And.intro h (And.intro (own_zero hs) hm))
  clear h hs hm
  go_enter Tryz.func47, Tryz.ntmps47
  go_wp2_with fail
  go_loopw [4] (fun c wr => ∃ (k : Nat) (X' : McX), k ≤ rs.length ∧ c = .int .i64 k ∧ Aft M B ty tail S X X' (Rt.undoM m (rs.take k)) w wr ∧ Mid S (Rt.undoM m (rs.take k)) (10 + k)) (fun c _ => rs.length - (intOf c).toNat)
  case atStart => exact ⟨0, X, Nat.zero_le _, rfl, Aft.start (unhide HH).1 (Below.refl _ _), (unhide HH).2.2⟩
  case round =>
    obtain ⟨k, X', hk, rfl, hA, hmid⟩ := hrel
    by_cases hlt : k < rs.length
    · have i1 : (k : Int) < (rs.length : Int) := by omega
      have i2 : (0 : Int) ≤ (k : Int) := by omega
      have hown := Aft.row (unhide HH).1 hA (unhide HH).2.1 hty
      obtain ⟨g, gc, he, hglt, _⟩ := own_cell hown (j := k * 5) (u := .int .i64 rs[k].kind) (by have := recsCells_get rs k hlt 0 (by omega); simpa [Rt.recCells] using this)
      simp at he
      obtain ⟨rfl, rfl⟩ := he
      obtain ⟨r0, r1, r2, r3, r4⟩ := rec_at hown k hlt
      have HC := hide (And.intro (undo_any wr M B ty tail S _ X' hA.mc (hmid.mok (by omega)) (fun f hf => Nat.le_trans (hmid.params f hf) (by omega)) rs[k]) (And.intro hA (And.intro (undoM_take m rs k hlt) (hmid.undo rs[k]))))
      clear hA hmid hown
      generalize rs[k] = r at *
      go_wp2_with fail
      refine (unhide HC).1.mono ?_
      rintro e w2 ⟨rfl, X2, hA2⟩
      have HY := hide ((unhide HC).2.1.trans hA2)
      clear hA2 r0 r1 r2 r3 r4
      go_wp2_with fail
      go_roundw
      case rel => exact ⟨k + 1, X2, by omega, by go_num, by rw [(unhide HC).2.2.1]; exact unhide HY, by rw [(unhide HC).2.2.1]; exact (unhide HC).2.2.2⟩
      case measure => simp [intOf]; omega
    · have hke : k = rs.length := by omega
      subst hke
      have i1 : ¬ (rs.length : Int) < (rs.length : Int) := by omega
      have HY := hide hA
      clear hA hmid
      go_wp2_with fail
      go_end0
      exact ⟨rfl, _, by have := unhide HY; rw [List.take_length] at this; exact this⟩
end Go.Proofs.YtbpajiljfppjcaaGreat

namespace Go.Proofs.YtbpajiljfppjcaaGreat
open Go.RowKit
attribute [local go_sem ↓] Go.wp_at_zero Go.wp_at_succ

namespace Rt
def backEnds (s : Se) (kind fuel d0 mv : Int) : Int := if ¬ arrivedI s kind d0 mv = 0 then arrivedI s kind d0 mv else if s.idx = 0 then 5 else if s.idx = s.low then 6 else if fuel ≤ mv then 4 else 0
theorem backEnds_zero {s : Se} {kind fuel d0 mv : Int} (h : backEnds s kind fuel d0 mv = 0) : s.idx ≠ 0 ∧ s.idx ≠ s.low ∧ mv < fuel := by
  unfold backEnds at h
  split at h
  · next hn => exact absurd h hn
  · split at h
    · omega
    · split at h
      · omega
      · split at h
        · omega
        · next a b c => exact ⟨a, b, by omega⟩
end Rt
theorem cells_row (X : McX) (m : Rt.Mc) (cap : Int) (jv jv' : Value) (low idx : Int) (marks : List Bool) : (mcCells X m (tailS cap jv low idx marks)).setIfInBounds 9 jv' = mcCells X m (tailS cap jv' low idx marks) := by
  simp [mcCells, tailS]
set_option maxHeartbeats 1000000 in
set_option maxRecDepth 100000 in
theorem takeBack_any (w : World) (P B : Nat) (S : Rt.Src) (cap : Int) (s : Rt.Se) (X : McX) (jv : Value) (h : SesS w P B S cap s X jv) (hm : Mid S s.m 10) (h0 : 0 < s.recs.length) (hr : s.recs.length ≤ 500) :
    Calls Tryz.prog 30 #[.pointer (some ⟨P, 0, none⟩)] w fun e w' => e = .returned (.tuple #[]) ∧ ∃ X' jv', SAft P B S cap X X' jv jv' (Rt.seBack s) w w' := by
  have hPlt := block_lt h.mc.block
  have HH := hide (And.intro h hm)
  clear h hm
  go_enter Tryz.func30, Tryz.ntmps30
  go_wp2_with fail
  refine (withdraw_any _ P _ _ cap s.recs s.low jv (unhide HH).1.jrS (by omega) h0).mono ?_
  rintro e w1 ⟨jv1, v, rfl, hj1, hf1, hob, hv⟩
  rw [cells_row] at hj1
  have hmc1 := (unhide HH).1.mc.retail (unhide HH).1.jr hf1 hj1.block
  have hv2 := hv
  obtain ⟨vad, vcap, rfl⟩ := ownsRow_form hv
  have HU := hide (undoAll_any w1 P B 49 _ S s.m X hmc1 (by decide) (unhide HH).2 _ (by rw [List.length_drop]; omega) _ _ hv2)
  have HA := hide (And.intro hmc1 (And.intro hj1 (And.intro hf1 hob)))
  clear hmc1 hj1 hf1 hob hv hv2
  generalize (s.recs.drop (Rt.lastAt s.recs)).length = rn at *
  go_wp2_with fail
  refine (unhide HU).mono ?_
  rintro e w2 ⟨rfl, X2, hA2⟩
  obtain ⟨hmc1, hj1, hf1, hob⟩ := unhide HA
  have hj2 := Aft.row hmc1 hA2 hj1.own (by decide)
  have hne2 : jv1.ownBlock ≠ some P := by rw [hob]; exact (unhide HH).1.jrS.ne
  have c11 : w2.cell? ⟨P, 11, none⟩ = some (.int .i64 s.idx) := by
    have := cell_of_row w2 P 11 _ _ _ hA2.mc.block
    rw [this]
    simp [tailS]
  have f11 := free_of_block hA2.mc.block 11
  have hf3 : JFr P jv1 w2 (w2.setCell ⟨P, 11, none⟩ (.int .i64 (wrap64 (s.idx - 1)))) := ⟨rfl, rfl, rfl, by simp [World.setCell], fun k _ hp _ => Below.heap_setCell _ _ _ _ hp⟩
  have b3 := set_block hA2.mc.block 11 (.int .i64 (wrap64 (s.idx - 1)))
  have hmc3 := hA2.mc.retail (tail' := tailS cap jv1 s.low (wrap64 (s.idx - 1)) s.marks) hj2 hf3 (by have := b3; simpa [mcCells, tailS] using this)
  have hj3 := own_same (w' := w2.setCell ⟨P, 11, none⟩ (.int .i64 (wrap64 (s.idx - 1)))) hj2 (fun g hg => Below.heap_setCell _ _ _ _ (fun e => hne2 (by rw [hg, show g = P from e])))
  have HF := hide (show SAft P B S cap X X2 jv jv1 (Rt.seBack s) w (w2.setCell ⟨P, 11, none⟩ (.int .i64 (wrap64 (s.idx - 1)))) from by
    refine ⟨⟨hmc3, hj3⟩, ⟨hA2.frm.os.trans hf1.os, hA2.frm.tape.trans hf1.tape, hA2.frm.output.trans hf1.output, Nat.le_trans hf1.size (Nat.le_trans hA2.frm.size hf3.size), ?_⟩, ?_, fun g hg => Or.inl (by rw [← hob]; exact hg), hPlt⟩
    · intro k hk hn hv
      have hkP : k ≠ P := fun e => hn (by rw [e]; exact List.mem_cons_self ..)
      rw [Below.heap_setCell _ _ _ _ hkP, hA2.frm.block k (Nat.lt_of_lt_of_le hk hf1.size) hn]
      exact hf1.block k hk hkP hv
    · intro k hk
      rcases hA2.grow k hk with e | e
      · exact Or.inl e
      · exact Or.inr (Nat.le_trans hf1.size e))
  clear hmc1 hj1 hf1 hob hj2 hne2 hf3 b3 hmc3 hj3 hA2
  go_wp2_with fail
  go_end0
  exact ⟨rfl, _, _, unhide HF⟩
theorem low_any (w : World) (P B : Nat) (S : Rt.Src) (cap : Int) (s : Rt.Se) (X : McX) (jv : Value) (h : SesS w P B S cap s X jv) : Calls Tryz.prog 45 #[.pointer (some ⟨P, 8, none⟩)] w fun e w' => e = .returned (.int .i64 s.low) ∧ w' = w := by
  have k10 := h.jrS.k10
  clear h
  go_enter Tryz.func45, Tryz.ntmps45
  go_wp2_with fail
  go_ret
  exact ⟨rfl, rfl⟩
set_option maxHeartbeats 1000000 in
theorem backwardEnds_any (w : World) (P B : Nat) (S : Rt.Src) (cap : Int) (s : Rt.Se) (X : McX) (jv : Value) (h : SesS w P B S cap s X jv) (hm : s.marks.length = 101) (kind fuel d0 mv : Int) :
    Calls Tryz.prog 29 #[.pointer (some ⟨P, 0, none⟩), .agg (mvA kind fuel d0 mv)] w fun e w' => e = .returned (.int .i64 (Rt.backEnds s kind fuel d0 mv)) ∧ Below w.heap.size w w' := by
  have hb := (Below.refl w.heap.size w).alloc (Nat.le_refl _) (.cells (mvA kind fuel d0 mv) 52)
  have bM := heap_alloc_new w (.cells (mvA kind fuel d0 mv) 52)
  have hs := h.later hb
  have HB := hide hb
  have HU := hide (show Rt.backEnds s kind fuel d0 mv = if ¬ Rt.arrivedI s kind d0 mv = 0 then Rt.arrivedI s kind d0 mv else if s.idx = 0 then 5 else if s.idx = s.low then 6 else if fuel ≤ mv then 4 else 0 from rfl)
  clear h hb
  go_enter Tryz.func29, Tryz.ntmps29
  go_wp2_with fail
  refine (arrived_any _ P B S cap s X jv hs hm kind fuel d0 mv).mono ?_
  rintro e w2 ⟨rfl, hb2⟩
  have HB2 := hide ((unhide HB).trans (hb2.mono (unhide HB).size))
  have hs2 := hs.later hb2
  have bM2 := block_later bM hb2
  have m1 : w2.cell? ⟨w.heap.size, 1, none⟩ = some (.int .i64 fuel) := by have := cell_of_block bM2 1 (by simp); simpa using this
  have m3 : w2.cell? ⟨w.heap.size, 3, none⟩ = some (.int .i64 mv) := by have := cell_of_block bM2 3 (by simp); simpa using this
  have c11 : w2.cell? ⟨P, 11, none⟩ = some (.int .i64 s.idx) := by
    have := cell_of_row w2 P 11 _ _ _ hs2.mc.block
    rw [this]
    simp [tailS]
  have HS := hide hs2
  clear hs hb2 bM bM2 HB hs2
  generalize Rt.arrivedI s kind d0 mv = a at *
  by_cases ha : a = 0
  · have ha' : (a != 0) = false := by simpa using ha
    replace HU := hide ((unhide HU).trans (if_neg (by simpa using ha)))
    clear ha
    by_cases hi : s.idx = 0
    · have hi' : (s.idx == 0) = true := by simpa using hi
      replace HU := hide ((unhide HU).trans (if_pos hi))
      clear hi
      go_wp2_with fail
      go_ret
      exact ⟨by rw [unhide HU]; rfl, unhide HB2⟩
    · have hi' : (s.idx == 0) = false := by simpa using hi
      replace HU := hide ((unhide HU).trans (if_neg hi))
      clear hi
      go_wp2_with fail
      by_cases hl : s.idx = s.low
      · have hl' : (s.idx == s.low) = true := by simpa using hl
        replace HU := hide ((unhide HU).trans (if_pos hl))
        clear hl
        go_region_held3 (fun w' => w'.cell? ⟨P, 11, none⟩ = some (.int .i64 s.idx)) (go_keep) (first | (go_at_call 45; refine (low_any _ P B S cap s X jv ((unhide HS).later (below_to_drew _))).mono ?_; rintro e w3 ⟨rfl, rfl⟩))
        all_goals
          go_wp2_with fail
          go_ret
          exact ⟨by rw [unhide HU]; rfl, (unhide HB2).drew⟩
      · have hl' : (s.idx == s.low) = false := by simpa using hl
        replace HU := hide ((unhide HU).trans (if_neg hl))
        clear hl
        by_cases hf : fuel ≤ mv
        · replace HU := hide ((unhide HU).trans (if_pos hf))
          go_region_held3 (fun w' => w'.cell? ⟨P, 11, none⟩ = some (.int .i64 s.idx)) (go_keep) (first | (go_at_call 45; refine (low_any _ P B S cap s X jv ((unhide HS).later (below_to_drew _))).mono ?_; rintro e w3 ⟨rfl, rfl⟩))
          all_goals
            go_wp2_with fail
            go_ret
            exact ⟨by rw [unhide HU]; rfl, (unhide HB2).drew⟩
        · replace HU := hide ((unhide HU).trans (if_neg hf))
          go_region_held3 (fun w' => w'.cell? ⟨P, 11, none⟩ = some (.int .i64 s.idx)) (go_keep) (first | (go_at_call 45; refine (low_any _ P B S cap s X jv ((unhide HS).later (below_to_drew _))).mono ?_; rintro e w3 ⟨rfl, rfl⟩))
          all_goals
            go_wp2_with fail
            go_ret
            exact ⟨by rw [unhide HU]; rfl, (unhide HB2).drew⟩
  · have ha' : (a != 0) = true := by simpa using ha
    replace HU := hide ((unhide HU).trans (if_pos (by simpa using ha)))
    clear ha
    go_wp2_with fail
    go_ret
    exact ⟨by rw [unhide HU]; rfl, unhide HB2⟩
end Go.Proofs.YtbpajiljfppjcaaGreat

