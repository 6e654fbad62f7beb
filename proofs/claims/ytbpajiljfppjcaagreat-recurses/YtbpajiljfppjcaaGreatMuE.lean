/- A step is taken back: a frame comes back; any record. -/
import Derived.Test.YtbpajiljfppjcaaGreatMuC
namespace Go.Proofs.YtbpajiljfppjcaaGreat
open Go.RowKit
attribute [local go_sem ↓] Go.wp_at_zero Go.wp_at_succ

set_option maxHeartbeats 1000000 in
theorem dropFrame_all (w : World) (M B : Nat) (ty : TypeId) (tail : List Value) (S : Rt.Src) (m : Rt.Mc) (X : McX) (h : McS w M B ty tail S m X) (hfl : m.frames.length ≤ 1000) :
    Calls Tryz.prog 81 #[.pointer (some ⟨M, 0, none⟩)] w fun e w' => e = .returned (.tuple #[]) ∧ ∃ X', Aft M B ty tail S X X' { m with frames := m.frames.dropLast } w w' := by
  by_cases h0 : m.frames = []
  · have c2 := h.c2
    obtain ⟨fad, fcap, hfv⟩ := ownsRow_form h.frames
    rw [hfv, h0] at c2
    have HF := hide (show Aft M B ty tail S X X { m with frames := m.frames.dropLast } w w by
      have e : m.frames.dropLast = m.frames := by rw [h0]; rfl
      rw [e]
      exact Aft.start h (Below.refl _ _))
    clear h hfv
    go_enter Tryz.func81, Tryz.ntmps81
    go_wp2_with fail
    go_end0
    exact ⟨rfl, _, unhide HF⟩
  · exact dropFrame_any w M B ty tail S m X h m.frames.dropLast (m.frames.getLast h0) (List.dropLast_concat_getLast h0).symm hfl
theorem addPar_last (m : Rt.Mc) (fs : List Rt.Fm) (f : Rt.Fm) (hf : m.frames = fs ++ [f]) (x : Int) : Rt.addPar m x = { m with frames := fs ++ [⟨f.params ++ [x], f.call⟩] } := by
  unfold Rt.addPar
  rw [hf]
  congr 1
  rw [List.length_append, List.length_singleton, Nat.add_sub_cancel, Rt.modify_last]
set_option maxHeartbeats 1000000 in
theorem addParam_all (w : World) (M B : Nat) (ty : TypeId) (tail : List Value) (S : Rt.Src) (m : Rt.Mc) (X : McX) (h : McS w M B ty tail S m X) (hm : Mok S m) (x : Int) (hp : ∀ f ∈ m.frames, f.params.length ≤ 900) :
    Calls Tryz.prog 84 #[.pointer (some ⟨M, 0, none⟩), .int .i64 x] w fun e w' => e = .returned (.tuple #[]) ∧ ∃ X', Aft M B ty tail S X X' (Rt.addPar m x) w w' := by
  by_cases h0 : m.frames = []
  · have c2 := h.c2
    obtain ⟨fad, fcap, hfv⟩ := ownsRow_form h.frames
    rw [hfv, h0] at c2
    have HF := hide (show Aft M B ty tail S X X (Rt.addPar m x) w w by
      have e : Rt.addPar m x = m := by unfold Rt.addPar; rw [h0]; rw [List.modify_nil]; rw [← h0]
      rw [e]
      exact Aft.start h (Below.refl _ _))
    clear h hfv
    go_enter Tryz.func84, Tryz.ntmps84
    go_wp2_with fail
    refine bodyPost_ret (results_none rfl _ _ _) rfl ?_
    exact ⟨rfl, _, unhide HF⟩
  · rw [addPar_last m m.frames.dropLast (m.frames.getLast h0) (List.dropLast_concat_getLast h0).symm x]
    exact addParam_any w M B ty tail S m X h hm x m.frames.dropLast (m.frames.getLast h0) (List.dropLast_concat_getLast h0).symm (hp _ (List.getLast_mem h0))
/-- The line and the end are stored. -/
theorem McS.back {w : World} {M B : Nat} {ty : TypeId} {tail : List Value} {S : Rt.Src} {m : Rt.Mc} {X : McX} (h : McS w M B ty tail S m X) (l : Int) :
    Aft M B ty tail S X X { m with line := l, fin := 0 } w ((w.setCell ⟨M, 6, none⟩ (.int .i64 l)).setCell ⟨M, 7, none⟩ (.int .i64 0)) := by
  have h1 := h.step (w1 := w) (m' := { m with line := l }) (X' := X) (Nat.le_refl _) rfl (fun _ _ hx _ => hx) 6 (.int .i64 l) (by simp [mcCells]) h.own rfl rfl h.fl h.vl
  have h2 := h1.step (w1 := w.setCell ⟨M, 6, none⟩ (.int .i64 l)) (m' := { m with line := l, fin := 0 }) (X' := X) (Nat.le_refl _) rfl (fun _ _ hx _ => hx) 7 (.int .i64 0) (by simp [mcCells]) h1.own rfl rfl h.fl h.vl
  exact ⟨h2, Frm.setM (Frm.setM (Frm.of_below _ (Below.refl _ _)) _ _) _ _, Grows.refl _ _, block_lt h.block⟩
theorem McS.takenS {w : World} {M B : Nat} {ty : TypeId} {tail : List Value} {S : Rt.Src} {m : Rt.Mc} {X : McX} (h : McS w M B ty tail S m X) (t : Int) :
    Aft M B ty tail S X X { m with taken := t } w (w.setCell ⟨M, 4, none⟩ (.int .i64 t)) := by
  have h1 := h.step (w1 := w) (m' := { m with taken := t }) (X' := X) (Nat.le_refl _) rfl (fun _ _ hx _ => hx) 4 (.int .i64 t) (by simp [mcCells]) h.own rfl rfl h.fl h.vl
  exact ⟨h1, Frm.setM (Frm.of_below _ (Below.refl _ _)) _ _, Grows.refl _ _, block_lt h.block⟩
theorem Aft.trans {M B : Nat} {ty : TypeId} {tail : List Value} {S : Rt.Src} {m m2 : Rt.Mc} {X X1 X2 : McX} {w w1 w2 : World} (h : Aft M B ty tail S X X1 m w w1) (g : Aft M B ty tail S X1 X2 m2 w1 w2) : Aft M B ty tail S X X2 m2 w w2 := h.more g.mc g.frm g.grow
abbrev recA (r : Rt.Rec) : Array Value := #[.int .i64 r.kind, .int .i64 r.line, .int .i64 r.at_.line, .int .i64 r.at_.cell, .int .i64 r.value]
def UndP (M B : Nat) (ty : TypeId) (tail : List Value) (S : Rt.Src) (X : McX) (m' : Rt.Mc) (w : World) (e : Ending) (w' : World) : Prop := e = .returned (.tuple #[]) ∧ ∃ X', Aft M B ty tail S X X' m' w w'
set_option maxHeartbeats 1000000 in
set_option maxRecDepth 100000 in
theorem undo_stayed (w : World) (M B : Nat) (ty : TypeId) (tail : List Value) (S : Rt.Src) (m : Rt.Mc) (X : McX) (h : McS w M B ty tail S m X) (hm : Mok S m) (hp : ∀ f ∈ m.frames, f.params.length ≤ 900) (rl al ac rv : Int) :
    Calls Tryz.prog 67 #[.pointer (some ⟨M, 0, none⟩), .agg (recA ⟨1, rl, ⟨al, ac⟩, rv⟩)] w (UndP M B ty tail S X (Rt.undo1 m ⟨1, rl, ⟨al, ac⟩, rv⟩) w) := by
  have hbA := (Below.refl w.heap.size w).alloc (Nat.le_refl _) (.cells (recA ⟨1, rl, ⟨al, ac⟩, rv⟩) 87)
  have bR := heap_alloc_new w (.cells (recA ⟨1, rl, ⟨al, ac⟩, rv⟩) 87)
  have hA := h.later hbA
  have hMlt := block_lt h.block
  have HH := hide (And.intro h (And.intro hA (And.intro hbA (And.intro hm hp))))
  clear h hA hbA hm hp
  go_enter Tryz.func67, Tryz.ntmps67
  go_wp2_with fail
  refine (begins_any _ ⟨1, rl, ⟨al, ac⟩, rv⟩).mono ?_
  rintro e w1 ⟨rfl, hb1⟩
  rw [show Rt.begins ⟨1, rl, ⟨al, ac⟩, rv⟩ = true from rfl]
  have h1 := (unhide HH).2.1.later hb1
  have bR1 := block_later bR hb1
  have hA1 := Aft.start (unhide HH).1 ((unhide HH).2.2.1.trans (hb1.mono (B' := w.heap.size) (by simp)))
  have r0 : w1.cell? ⟨w.heap.size, 0, none⟩ = some (.int .i64 1) := by have := cell_of_block bR1 0 (by simp); simpa using this
  have r1 : w1.cell? ⟨w.heap.size, 1, none⟩ = some (.int .i64 rl) := by have := cell_of_block bR1 1 (by simp); simpa using this
  have r2 : w1.cell? ⟨w.heap.size, 2, none⟩ = some (.int .i64 al) := by have := cell_of_block bR1 2 (by simp); simpa using this
  have r3 : w1.cell? ⟨w.heap.size, 3, none⟩ = some (.int .i64 ac) := by have := cell_of_block bR1 3 (by simp); simpa using this
  have r4 : w1.cell? ⟨w.heap.size, 4, none⟩ = some (.int .i64 rv) := by have := cell_of_block bR1 4 (by simp); simpa using this
  have hne : ¬ w.heap.size = M := by omega
  have hne' : ¬ M = w.heap.size := by omega
  have c6 := h1.c6
  have c7 := h1.c7
  have f6 := h1.fz 6
  have f7 := h1.fz 7
  have HX := hide (hA1.trans (h1.back rl))
  clear h1 hb1 bR1 bR hA1
  go_wp2_with fail
  go_end0
  exact ⟨rfl, _, unhide HX⟩
set_option maxHeartbeats 1000000 in
set_option maxRecDepth 100000 in
theorem undo_entered (w : World) (M B : Nat) (ty : TypeId) (tail : List Value) (S : Rt.Src) (m : Rt.Mc) (X : McX) (h : McS w M B ty tail S m X) (hm : Mok S m) (hp : ∀ f ∈ m.frames, f.params.length ≤ 900) (rl al ac rv : Int) :
    Calls Tryz.prog 67 #[.pointer (some ⟨M, 0, none⟩), .agg (recA ⟨2, rl, ⟨al, ac⟩, rv⟩)] w (UndP M B ty tail S X (Rt.undo1 m ⟨2, rl, ⟨al, ac⟩, rv⟩) w) := by
  have hbA := (Below.refl w.heap.size w).alloc (Nat.le_refl _) (.cells (recA ⟨2, rl, ⟨al, ac⟩, rv⟩) 87)
  have bR := heap_alloc_new w (.cells (recA ⟨2, rl, ⟨al, ac⟩, rv⟩) 87)
  have hA := h.later hbA
  have hMlt := block_lt h.block
  have HH := hide (And.intro h (And.intro hA (And.intro hbA (And.intro hm hp))))
  clear h hA hbA hm hp
  go_enter Tryz.func67, Tryz.ntmps67
  go_wp2_with fail
  refine (begins_any _ ⟨2, rl, ⟨al, ac⟩, rv⟩).mono ?_
  rintro e w1 ⟨rfl, hb1⟩
  rw [show Rt.begins ⟨2, rl, ⟨al, ac⟩, rv⟩ = true from rfl]
  have h1 := (unhide HH).2.1.later hb1
  have bR1 := block_later bR hb1
  have hA1 := Aft.start (unhide HH).1 ((unhide HH).2.2.1.trans (hb1.mono (B' := w.heap.size) (by simp)))
  have r0 : w1.cell? ⟨w.heap.size, 0, none⟩ = some (.int .i64 2) := by have := cell_of_block bR1 0 (by simp); simpa using this
  have r1 : w1.cell? ⟨w.heap.size, 1, none⟩ = some (.int .i64 rl) := by have := cell_of_block bR1 1 (by simp); simpa using this
  have r2 : w1.cell? ⟨w.heap.size, 2, none⟩ = some (.int .i64 al) := by have := cell_of_block bR1 2 (by simp); simpa using this
  have r3 : w1.cell? ⟨w.heap.size, 3, none⟩ = some (.int .i64 ac) := by have := cell_of_block bR1 3 (by simp); simpa using this
  have r4 : w1.cell? ⟨w.heap.size, 4, none⟩ = some (.int .i64 rv) := by have := cell_of_block bR1 4 (by simp); simpa using this
  have hne : ¬ w.heap.size = M := by omega
  have hne' : ¬ M = w.heap.size := by omega
  have c6 := h1.c6
  have c7 := h1.c7
  have f6 := h1.fz 6
  have f7 := h1.fz 7
  have HX := hide (hA1.trans (h1.back rl))
  clear h1 hb1 bR1 bR hA1
  go_wp2_with fail
  refine (dropFrame_all _ M B ty tail S _ X (unhide HX).mc (unhide HH).2.2.2.1.frames).mono ?_
  rintro e w2 ⟨rfl, X2, hA2⟩
  have HY := hide ((unhide HX).trans hA2)
  clear hA2
  go_wp2_with fail
  go_end0
  exact ⟨rfl, _, unhide HY⟩
set_option maxHeartbeats 1000000 in
set_option maxRecDepth 100000 in
theorem undo_stored3 (w : World) (M B : Nat) (ty : TypeId) (tail : List Value) (S : Rt.Src) (m : Rt.Mc) (X : McX) (h : McS w M B ty tail S m X) (hm : Mok S m) (hp : ∀ f ∈ m.frames, f.params.length ≤ 900) (rl al ac rv : Int) :
    Calls Tryz.prog 67 #[.pointer (some ⟨M, 0, none⟩), .agg (recA ⟨4, rl, ⟨al, ac⟩, rv⟩)] w (UndP M B ty tail S X (Rt.undo1 m ⟨4, rl, ⟨al, ac⟩, rv⟩) w) := by
  have hbA := (Below.refl w.heap.size w).alloc (Nat.le_refl _) (.cells (recA ⟨4, rl, ⟨al, ac⟩, rv⟩) 87)
  have bR := heap_alloc_new w (.cells (recA ⟨4, rl, ⟨al, ac⟩, rv⟩) 87)
  have hA := h.later hbA
  have hMlt := block_lt h.block
  have HH := hide (And.intro h (And.intro hA (And.intro hbA (And.intro hm hp))))
  clear h hA hbA hm hp
  go_enter Tryz.func67, Tryz.ntmps67
  go_wp2_with fail
  refine (begins_any _ ⟨4, rl, ⟨al, ac⟩, rv⟩).mono ?_
  rintro e w1 ⟨rfl, hb1⟩
  rw [show Rt.begins ⟨4, rl, ⟨al, ac⟩, rv⟩ = false from rfl]
  have h1 := (unhide HH).2.1.later hb1
  have bR1 := block_later bR hb1
  have hA1 := Aft.start (unhide HH).1 ((unhide HH).2.2.1.trans (hb1.mono (B' := w.heap.size) (by simp)))
  have r0 : w1.cell? ⟨w.heap.size, 0, none⟩ = some (.int .i64 4) := by have := cell_of_block bR1 0 (by simp); simpa using this
  have r1 : w1.cell? ⟨w.heap.size, 1, none⟩ = some (.int .i64 rl) := by have := cell_of_block bR1 1 (by simp); simpa using this
  have r2 : w1.cell? ⟨w.heap.size, 2, none⟩ = some (.int .i64 al) := by have := cell_of_block bR1 2 (by simp); simpa using this
  have r3 : w1.cell? ⟨w.heap.size, 3, none⟩ = some (.int .i64 ac) := by have := cell_of_block bR1 3 (by simp); simpa using this
  have r4 : w1.cell? ⟨w.heap.size, 4, none⟩ = some (.int .i64 rv) := by have := cell_of_block bR1 4 (by simp); simpa using this
  have hne : ¬ w.heap.size = M := by omega
  have hne' : ¬ M = w.heap.size := by omega
  have HX := hide (And.intro hA1 h1)
  clear h1 hb1 bR1 bR hA1
  go_wp2_with fail
  refine (put_any _ M B ty tail S m X ⟨al, ac⟩ rv (unhide HX).2 (unhide HH).2.2.2.1).mono ?_
  rintro e w2 ⟨rfl, hP⟩
  have HY := hide ((unhide HX).1.put hP)
  clear hP
  go_wp2_with fail
  go_end0
  exact ⟨rfl, _, unhide HY⟩
set_option maxHeartbeats 1000000 in
set_option maxRecDepth 100000 in
theorem undo_printed (w : World) (M B : Nat) (ty : TypeId) (tail : List Value) (S : Rt.Src) (m : Rt.Mc) (X : McX) (h : McS w M B ty tail S m X) (hm : Mok S m) (hp : ∀ f ∈ m.frames, f.params.length ≤ 900) (rl al ac rv : Int) :
    Calls Tryz.prog 67 #[.pointer (some ⟨M, 0, none⟩), .agg (recA ⟨5, rl, ⟨al, ac⟩, rv⟩)] w (UndP M B ty tail S X (Rt.undo1 m ⟨5, rl, ⟨al, ac⟩, rv⟩) w) := by
  have hbA := (Below.refl w.heap.size w).alloc (Nat.le_refl _) (.cells (recA ⟨5, rl, ⟨al, ac⟩, rv⟩) 87)
  have bR := heap_alloc_new w (.cells (recA ⟨5, rl, ⟨al, ac⟩, rv⟩) 87)
  have hA := h.later hbA
  have hMlt := block_lt h.block
  have HH := hide (And.intro h (And.intro hA (And.intro hbA (And.intro hm hp))))
  clear h hA hbA hm hp
  go_enter Tryz.func67, Tryz.ntmps67
  go_wp2_with fail
  refine (begins_any _ ⟨5, rl, ⟨al, ac⟩, rv⟩).mono ?_
  rintro e w1 ⟨rfl, hb1⟩
  rw [show Rt.begins ⟨5, rl, ⟨al, ac⟩, rv⟩ = false from rfl]
  have h1 := (unhide HH).2.1.later hb1
  have bR1 := block_later bR hb1
  have hA1 := Aft.start (unhide HH).1 ((unhide HH).2.2.1.trans (hb1.mono (B' := w.heap.size) (by simp)))
  have r0 : w1.cell? ⟨w.heap.size, 0, none⟩ = some (.int .i64 5) := by have := cell_of_block bR1 0 (by simp); simpa using this
  have r1 : w1.cell? ⟨w.heap.size, 1, none⟩ = some (.int .i64 rl) := by have := cell_of_block bR1 1 (by simp); simpa using this
  have r2 : w1.cell? ⟨w.heap.size, 2, none⟩ = some (.int .i64 al) := by have := cell_of_block bR1 2 (by simp); simpa using this
  have r3 : w1.cell? ⟨w.heap.size, 3, none⟩ = some (.int .i64 ac) := by have := cell_of_block bR1 3 (by simp); simpa using this
  have r4 : w1.cell? ⟨w.heap.size, 4, none⟩ = some (.int .i64 rv) := by have := cell_of_block bR1 4 (by simp); simpa using this
  have hne : ¬ w.heap.size = M := by omega
  have hne' : ¬ M = w.heap.size := by omega
  have HX := hide (And.intro hA1 h1)
  clear h1 hb1 bR1 bR hA1
  go_wp2_with fail
  refine (dropPrinted_any _ M B ty tail S m X (unhide HX).2 (unhide HH).2.2.2.1.output).mono ?_
  rintro e w2 ⟨rfl, X2, hA2⟩
  have HY := hide ((unhide HX).1.trans hA2)
  clear hA2
  go_wp2_with fail
  go_end0
  exact ⟨rfl, _, unhide HY⟩
set_option maxHeartbeats 1000000 in
set_option maxRecDepth 100000 in
theorem undo_fetched (w : World) (M B : Nat) (ty : TypeId) (tail : List Value) (S : Rt.Src) (m : Rt.Mc) (X : McX) (h : McS w M B ty tail S m X) (hm : Mok S m) (hp : ∀ f ∈ m.frames, f.params.length ≤ 900) (rl al ac rv : Int) :
    Calls Tryz.prog 67 #[.pointer (some ⟨M, 0, none⟩), .agg (recA ⟨6, rl, ⟨al, ac⟩, rv⟩)] w (UndP M B ty tail S X (Rt.undo1 m ⟨6, rl, ⟨al, ac⟩, rv⟩) w) := by
  have hbA := (Below.refl w.heap.size w).alloc (Nat.le_refl _) (.cells (recA ⟨6, rl, ⟨al, ac⟩, rv⟩) 87)
  have bR := heap_alloc_new w (.cells (recA ⟨6, rl, ⟨al, ac⟩, rv⟩) 87)
  have hA := h.later hbA
  have hMlt := block_lt h.block
  have HH := hide (And.intro h (And.intro hA (And.intro hbA (And.intro hm hp))))
  clear h hA hbA hm hp
  go_enter Tryz.func67, Tryz.ntmps67
  go_wp2_with fail
  refine (begins_any _ ⟨6, rl, ⟨al, ac⟩, rv⟩).mono ?_
  rintro e w1 ⟨rfl, hb1⟩
  rw [show Rt.begins ⟨6, rl, ⟨al, ac⟩, rv⟩ = false from rfl]
  have h1 := (unhide HH).2.1.later hb1
  have bR1 := block_later bR hb1
  have hA1 := Aft.start (unhide HH).1 ((unhide HH).2.2.1.trans (hb1.mono (B' := w.heap.size) (by simp)))
  have r0 : w1.cell? ⟨w.heap.size, 0, none⟩ = some (.int .i64 6) := by have := cell_of_block bR1 0 (by simp); simpa using this
  have r1 : w1.cell? ⟨w.heap.size, 1, none⟩ = some (.int .i64 rl) := by have := cell_of_block bR1 1 (by simp); simpa using this
  have r2 : w1.cell? ⟨w.heap.size, 2, none⟩ = some (.int .i64 al) := by have := cell_of_block bR1 2 (by simp); simpa using this
  have r3 : w1.cell? ⟨w.heap.size, 3, none⟩ = some (.int .i64 ac) := by have := cell_of_block bR1 3 (by simp); simpa using this
  have r4 : w1.cell? ⟨w.heap.size, 4, none⟩ = some (.int .i64 rv) := by have := cell_of_block bR1 4 (by simp); simpa using this
  have hne : ¬ w.heap.size = M := by omega
  have hne' : ¬ M = w.heap.size := by omega
  have c4 := h1.c4
  have f4 := h1.fz 4
  have HX := hide (hA1.trans (h1.takenS (wrap64 (m.taken - 1))))
  clear h1 hb1 bR1 bR hA1
  go_wp2_with fail
  go_end0
  exact ⟨rfl, _, unhide HX⟩
set_option maxHeartbeats 1000000 in
set_option maxRecDepth 100000 in
theorem undo_passed (w : World) (M B : Nat) (ty : TypeId) (tail : List Value) (S : Rt.Src) (m : Rt.Mc) (X : McX) (h : McS w M B ty tail S m X) (hm : Mok S m) (hp : ∀ f ∈ m.frames, f.params.length ≤ 900) (rl al ac rv : Int) :
    Calls Tryz.prog 67 #[.pointer (some ⟨M, 0, none⟩), .agg (recA ⟨7, rl, ⟨al, ac⟩, rv⟩)] w (UndP M B ty tail S X (Rt.undo1 m ⟨7, rl, ⟨al, ac⟩, rv⟩) w) := by
  have hbA := (Below.refl w.heap.size w).alloc (Nat.le_refl _) (.cells (recA ⟨7, rl, ⟨al, ac⟩, rv⟩) 87)
  have bR := heap_alloc_new w (.cells (recA ⟨7, rl, ⟨al, ac⟩, rv⟩) 87)
  have hA := h.later hbA
  have hMlt := block_lt h.block
  have HH := hide (And.intro h (And.intro hA (And.intro hbA (And.intro hm hp))))
  clear h hA hbA hm hp
  go_enter Tryz.func67, Tryz.ntmps67
  go_wp2_with fail
  refine (begins_any _ ⟨7, rl, ⟨al, ac⟩, rv⟩).mono ?_
  rintro e w1 ⟨rfl, hb1⟩
  rw [show Rt.begins ⟨7, rl, ⟨al, ac⟩, rv⟩ = false from rfl]
  have h1 := (unhide HH).2.1.later hb1
  have bR1 := block_later bR hb1
  have hA1 := Aft.start (unhide HH).1 ((unhide HH).2.2.1.trans (hb1.mono (B' := w.heap.size) (by simp)))
  have r0 : w1.cell? ⟨w.heap.size, 0, none⟩ = some (.int .i64 7) := by have := cell_of_block bR1 0 (by simp); simpa using this
  have r1 : w1.cell? ⟨w.heap.size, 1, none⟩ = some (.int .i64 rl) := by have := cell_of_block bR1 1 (by simp); simpa using this
  have r2 : w1.cell? ⟨w.heap.size, 2, none⟩ = some (.int .i64 al) := by have := cell_of_block bR1 2 (by simp); simpa using this
  have r3 : w1.cell? ⟨w.heap.size, 3, none⟩ = some (.int .i64 ac) := by have := cell_of_block bR1 3 (by simp); simpa using this
  have r4 : w1.cell? ⟨w.heap.size, 4, none⟩ = some (.int .i64 rv) := by have := cell_of_block bR1 4 (by simp); simpa using this
  have hne : ¬ w.heap.size = M := by omega
  have hne' : ¬ M = w.heap.size := by omega
  have HX := hide (And.intro hA1 h1)
  clear h1 hb1 bR1 bR hA1
  go_wp2_with fail
  refine (addParam_all _ M B ty tail S m X (unhide HX).2 (unhide HH).2.2.2.1 rv (unhide HH).2.2.2.2).mono ?_
  rintro e w2 ⟨rfl, X2, hA2⟩
  have HY := hide ((unhide HX).1.trans hA2)
  clear hA2
  go_wp2_with fail
  go_end0
  exact ⟨rfl, _, unhide HY⟩
end Go.Proofs.YtbpajiljfppjcaaGreat

namespace Go.Proofs.YtbpajiljfppjcaaGreat
open Go.RowKit
attribute [local go_sem ↓] Go.wp_at_zero Go.wp_at_succ

/-- A frame comes back, without its parameters. -/
theorem McS.frameBack {w wy w1 : World} {M B : Nat} {ty : TypeId} {tail : List Value} {S : Rt.Src} {m : Rt.Mc} {X : McX} (h : McS w M B ty tail S m X) (hby : Below w.heap.size w wy) (hg : wy.grownBy w1 X.fv.ownBlock) (call : Int) (fv' : Value) (hown : w1.ownsRow 0 68 2 fv' (m.frames.length + 1) (fCells X.fps m.frames ++ [.slice none 0 0, .int .i64 call])) (hat : ∀ g, fv'.ownBlock = some g → X.fv.ownBlock = some g ∨ w.heap.size ≤ g) :
    McS (w1.setCell ⟨M, 2, none⟩ fv') M B ty tail S { m with frames := m.frames ++ [⟨[], call⟩] } { X with fv := fv', fps := X.fps ++ [.slice none 0 0] } ∧ Frm w (w1.setCell ⟨M, 2, none⟩ fv') (M :: blkX X) ∧ Grows w (blkX X) (blkX { X with fv := fv', fps := X.fps ++ [.slice none 0 0] }) ∧ w1.cell? ⟨M, 2, none⟩ = some X.fv ∧ w1.frozen? ⟨M, 2, none⟩ = false := by
  obtain ⟨q1, q2, q3⟩ := h.framePush (Below.refl _ w) hby (.slice none 0 0) [] call (World.ownsRow_nil _ _ _ _) hg fv' hown hat
  have hM1 : w1.heap[M]? = some (.cells (mcCells X m tail) ty (0, 0)) := (hg.block M (Nat.lt_of_lt_of_le (block_lt h.block) hby.size) (fun e => h.frameNe e.symm)).trans ((hby.block M (block_lt h.block)).trans h.block)
  refine ⟨q1, q2, q3, ?_, free_of_block hM1 2⟩
  have := cell_of_block hM1 2 (by simp [mcCells])
  simpa [mcCells] using this
set_option maxHeartbeats 2000000 in
set_option maxRecDepth 100000 in
theorem undo_dropped (w : World) (M B : Nat) (ty : TypeId) (tail : List Value) (S : Rt.Src) (m : Rt.Mc) (X : McX) (h : McS w M B ty tail S m X) (hm : Mok S m) (hp : ∀ f ∈ m.frames, f.params.length ≤ 900) (rl al ac rv : Int) :
    Calls Tryz.prog 67 #[.pointer (some ⟨M, 0, none⟩), .agg (recA ⟨3, rl, ⟨al, ac⟩, rv⟩)] w (UndP M B ty tail S X (Rt.undo1 m ⟨3, rl, ⟨al, ac⟩, rv⟩) w) := by
  obtain ⟨j0, hj0, hy0, hy1, hy2⟩ := info_parts Tryz.infoFrame
  have hbA := (Below.refl w.heap.size w).alloc (Nat.le_refl _) (.cells (recA ⟨3, rl, ⟨al, ac⟩, rv⟩) 87)
  have bR := heap_alloc_new w (.cells (recA ⟨3, rl, ⟨al, ac⟩, rv⟩) 87)
  have hA := h.later hbA
  have hMlt := block_lt h.block
  have HH := hide (And.intro h (And.intro hA (And.intro hbA (And.intro hm hp))))
  clear h hA hbA hm hp
  go_enter Tryz.func67, Tryz.ntmps67
  go_wp2_with fail
  refine (begins_any _ ⟨3, rl, ⟨al, ac⟩, rv⟩).mono ?_
  rintro e w1 ⟨rfl, hb1⟩
  rw [show Rt.begins ⟨3, rl, ⟨al, ac⟩, rv⟩ = true from rfl]
  have h1 := (unhide HH).2.1.later hb1
  have bR1 := block_later bR hb1
  have hA1 := Aft.start (unhide HH).1 ((unhide HH).2.2.1.trans (hb1.mono (B' := w.heap.size) (by simp)))
  have r0 : w1.cell? ⟨w.heap.size, 0, none⟩ = some (.int .i64 3) := by have := cell_of_block bR1 0 (by simp); simpa using this
  have r1 : w1.cell? ⟨w.heap.size, 1, none⟩ = some (.int .i64 rl) := by have := cell_of_block bR1 1 (by simp); simpa using this
  have r2 : w1.cell? ⟨w.heap.size, 2, none⟩ = some (.int .i64 al) := by have := cell_of_block bR1 2 (by simp); simpa using this
  have r3 : w1.cell? ⟨w.heap.size, 3, none⟩ = some (.int .i64 ac) := by have := cell_of_block bR1 3 (by simp); simpa using this
  have r4 : w1.cell? ⟨w.heap.size, 4, none⟩ = some (.int .i64 rv) := by have := cell_of_block bR1 4 (by simp); simpa using this
  have hne : ¬ w.heap.size = M := by omega
  have hne' : ¬ M = w.heap.size := by omega
  have c6 := h1.c6
  have c7 := h1.c7
  have f6 := h1.fz 6
  have f7 := h1.fz 7
  have HX := hide (hA1.trans (h1.back rl))
  have hMl1 := block_lt h1.block
  clear h1 hb1 bR1 bR hA1
  have hMl2 := block_lt (unhide HX).mc.block
  go_wp2_with fail
  have r42 : ((w1.setCell ⟨M, 6, none⟩ (.int .i64 rl)).setCell ⟨M, 7, none⟩ (.int .i64 0)).cell? ⟨w.heap.size, 4, none⟩ = some (.int .i64 rv) := by
    rw [World.cell?_setCell_other _ _ _ _ (by simp), World.cell?_setCell_other _ _ _ _ (by simp)]
    exact r4
  clear r0 r1 r2 r3 r4 c6 c7 f6 f7
  generalize (w1.setCell ⟨M, 6, none⟩ (.int .i64 rl)).setCell ⟨M, 7, none⟩ (.int .i64 0) = w2 at *
  obtain ⟨fad, fcap, hfv⟩ := ownsRow_form (unhide HX).mc.frames
  have c2 := (unhide HX).mc.c2
  have hown := (unhide HX).mc.frames
  simp only at hfv c2 hown
  rw [hfv] at c2 hown
  have HO := hide hown
  have hflen := (unhide HH).2.2.2.1.frames
  have HV := hide hfv
  have hrl : w.heap.size < w2.heap.size := World.block_lt_of_cell? _ _ r42
  clear hfv hown
  go_region_law
    ((refine step_append_lies _ (by rfl) _ _ _ (by rfl) 0 68 j0 _ 2 32 Tryz.underlying40 hj0 hy0 hy1 hy2 rfl (by omega) _ m.frames.length (fCells X.fps m.frames) (by rfl) (((unhide HO).alloc _).drew)
                ⟨w2.heap.size, 0, none⟩ 1 1 [.slice none 0 0, .int .i64 rv] (by rfl) (by rfl)
                (World.news_of_block (cs := #[.slice none 0 0, .int .i64 rv]) (t := 68) (fr := (0, 0)) (heap_alloc_new w2 _)) (by simp [Value.oneCell'])
                (by omega) (by unfold maxLen; omega) (by omega) (Nat.zero_le _) (w2.heap.size + 1) (by simp) ?_; intro g' cap' w4 hown4 hgrow hat hlt4; rw [← unhide HV] at hgrow hat; obtain ⟨q1, q2, q3, q4, q5⟩ := (unhide HX).mc.frameBack (((Below.refl _ w2).alloc (Nat.le_refl _) _).drew) hgrow rv (.slice (some ⟨g', 0, none⟩) (m.frames.length + 1) cap') hown4 (fun k hk => by simp [Value.ownBlock] at hk; subst hk; rcases hat with e | e; exact Or.inl e; exact Or.inr (by omega)); have HF := hide ((unhide HX).more q1 q2 q3); clear q1 q2 q3 hown4 hgrow hat hlt4))
  all_goals
    go_wp2_with fail
    go_end0
    exact ⟨rfl, _, unhide HF⟩
end Go.Proofs.YtbpajiljfppjcaaGreat

