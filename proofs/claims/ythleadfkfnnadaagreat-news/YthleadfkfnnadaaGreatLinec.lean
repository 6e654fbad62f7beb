/- The walk of parse.Line. -/
import Derived.Test.YthleadfkfnnadaaGreatLine
namespace Go.Proofs.YthleadfkfnnadaaGreat
open Go.RowKit
theorem tokR_of {w : World} {B R : Nat} {tv : Value} {ts : List Rt.Tk} (h : w.ownsRow B 188 2 tv ts.length (Rt.toksCells ts)) (hne : 0 < ts.length) (hR : w.heap.size ≤ R) : TokR w R tv ts := by
  obtain ⟨g, cap, rfl, _, hlt, _⟩ := own_cell h (Rt.toksCells_get ts 0 hne).1
  refine ⟨g, cap, rfl, by omega, fun i hi => ⟨?_, ?_⟩⟩
  · obtain ⟨g', cap', he, _, _, hc⟩ := own_cell h (Rt.toksCells_get ts i hi).1
    simp at he
    rw [he.1]
    exact hc
  · obtain ⟨g', cap', he, _, _, hc⟩ := own_cell h (Rt.toksCells_get ts i hi).2
    simp at he
    rw [he.1]
    exact hc
theorem RFr.toBelow {R : Nat} {ov : Value} {w w' : World} (h : RFr R noOps ov w w') {B : Nat} (hB : B ≤ R) (hs : B ≤ w.heap.size) : Below B w w' :=
  ⟨h.os, h.tape, h.output, h.size, fun k hk => h.block k (by omega) (by omega) (by simp [Value.ownBlock])⟩
theorem below_set6 {B N : Nat} {w w1 : World} (h : Below B w w1) (hN : B ≤ N) (a b c d e f : Value) : Below B w (W6 w1 N a b c d e f) :=
  (((((h.setCell (p := ⟨N, 0, none⟩) hN a).setCell (p := ⟨N, 1, none⟩) hN b).setCell (p := ⟨N, 2, none⟩) hN c).setCell (p := ⟨N, 3, none⟩) hN d).setCell (p := ⟨N, 4, none⟩) hN e).setCell (p := ⟨N, 5, none⟩) hN f
theorem exprs_later {w w' : World} {B B' : Nat} (hx : ∀ (t : TypeId) (size n : Nat) (v : Value) (xs : List Value), w.ownsRow B t size v n xs → w'.ownsRow B' t size v n xs) : ∀ xs os, ExprsR w B xs os → ExprsR w' B' xs os
  | [], [], _ => trivial
  | _ :: xs, _ :: os, ⟨h1, h2⟩ => ⟨hx _ _ _ _ _ h1, exprs_later hx xs os h2⟩
  | [], _ :: _, h => h.elim
  | _ :: _, [], h => h.elim
theorem FormV_later {w w' : World} {B B' : Nat} {v : Array Value} {fm : Rt.PForm} (h : FormV w B v fm) (hx : ∀ (t : TypeId) (size n : Nat) (v : Value) (xs : List Value), w.ownsRow B t size v n xs → w'.ownsRow B' t size v n xs) : FormV w' B' v fm := by
  obtain ⟨pv, iv, vv, vs, rfl, h1, h2, h3, h4⟩ := h
  refine ⟨pv, iv, vv, vs, rfl, hx _ _ _ _ _ h1, hx _ _ _ _ _ h2, hx _ _ _ _ _ h3, ?_⟩
  exact exprs_later hx _ _ h4
def LineAll (ts : List Rt.Tk) (w : World) (e : Ending) (w' : World) : Prop :=
  Below w.heap.size w w' ∧ ((∃ fm fv, Rt.pLineAll ts = some fm ∧ e = .returned (.tuple #[.agg fv, .bool true]) ∧ FormV w' w.heap.size fv fm) ∨ (Rt.pLineAll ts = none ∧ e = .returned (.tuple #[.agg zForm, .bool false])))
set_option maxHeartbeats 4000000 in
set_option maxRecDepth 100000 in
theorem parseLine_any (w : World) (tv : Value) (ts : List Rt.Tk) (B : Nat) (ht : w.ownsRow B 188 2 tv ts.length (Rt.toksCells ts)) (hfew : ts.length ≤ 24) (hsm : ∀ t ∈ ts, t.text.size ≤ 40000) :
    Calls Tryz.prog 122 #[tv] w (LineAll ts w) := by
  obtain ⟨ad, cap, rfl⟩ := ownsRow_form ht
  match ts, ht, hfew, hsm with
  | [], ht, _, _ =>
    have HB := hide ((Below.refl w.heap.size w).alloc (Nat.le_refl _) (.cells zForm 143))
    clear ht
    go_enter Tryz.func122, Tryz.ntmps122
    go_wp2_with fail
    refine bodyPost_ret (v := .tuple #[.agg zForm, .bool true]) ?_ rfl ⟨unhide HB, Or.inl ⟨_, _, rfl, rfl, FormV_plain _ _ _ _ _⟩⟩
    simp [results, Tryz.results122, go_sem]
  | t :: r, ht, hfew, hsm =>
    have HSM := hide hsm
    clear hsm
    have htk := tokR_of (R := w.heap.size) ht (by simp) (Nat.le_refl _)
    obtain ⟨b, cap', he, hb, hc⟩ := htk
    obtain ⟨hc0, hc1⟩ := hc 0 (by simp)
    simp at he hc0 hc1
    obtain ⟨rfl, rfl⟩ := he
    have hbel := ((Below.refl w.heap.size w).alloc (Nat.le_refl _) (.cells zForm 143)).alloc (by simp) (.cells #[.slice (some ⟨b, 0, none⟩) (t :: r).length cap, .int .i64 1, noOps] 208)
    have hr : RdS ((w.alloc (.cells zForm 143)).alloc (.cells #[.slice (some ⟨b, 0, none⟩) (t :: r).length cap, .int .i64 1, noOps] 208)) (w.heap.size + 1) (.slice (some ⟨b, 0, none⟩) (t :: r).length cap) (t :: r) 1 noOps [] := by
      refine ⟨by simp, hfew, by simp, ?_, ?_, World.ownsRow_nil _ _ _ _⟩
      · have := heap_alloc_new (w.alloc (.cells zForm 143)) (.cells #[.slice (some ⟨b, 0, none⟩) (t :: r).length cap, .int .i64 1, noOps] 208)
        simpa using this
      · exact ⟨b, cap, rfl, by omega, fun i hi => ⟨cell_later hbel (hc i hi).1, cell_later hbel (hc i hi).2⟩⟩
    have hN0 : ((w.alloc (.cells zForm 143)).alloc (.cells #[.slice (some ⟨b, 0, none⟩) (t :: r).length cap, .int .i64 1, noOps] 208)).heap[w.heap.size]? = some (.cells zForm 143 (0, 0)) := block_alloc (heap_alloc_new w _) _
    clear hc
    have hlen : (((t :: r).length : Int) == 0) = false := by rw [beq_eq_false_iff_ne]; simp only [List.length_cons]; omega
    have hlen2 : (0 : Int) < ((t :: r).length : Int) := by simp only [List.length_cons]; omega
    generalize hLN : (t :: r).length = LN at *
    go_enter Tryz.func122, Tryz.ntmps122
    go_wp2_with fail
    refine (line_any _ _ _ _ _ t.text hr (unhide HSM)).mono ?_
    rintro e w1 (⟨fm, n1, fv, hs, rfl, hr1, hfv, hfr1⟩ | ⟨hs, rfl, ov, hfr1⟩)
    · have hN1 := hfr1.keep hN0 (by omega)
      have hz1 : w.heap.size + 2 ≤ w1.heap.size := by have := hfr1.size; simp at this; omega
      have hfv2 := hfv
      obtain ⟨pv, iv, vv, vs, rfl, b1, b2, b3, _⟩ := hfv
      obtain ⟨ad1, cap1, rfl⟩ := ownsRow_form b1
      obtain ⟨ad2, cap2, rfl⟩ := ownsRow_form b2
      obtain ⟨ad3, cap3, rfl⟩ := ownsRow_form b3
      have hbelA := hbel.trans (hfr1.toBelow (B := w.heap.size) (by omega) (by simp <;> omega))
      have hA := hr1.later ((Below.refl w1.heap.size w1).alloc (Nat.le_refl _) (.cells #[.int .i64 fm.kind, .string fm.name, .int .i64 fm.cells, .slice ad1 fm.params.length cap1, .slice ad2 fm.index.length cap2, .slice ad3 fm.values.length cap3] 143))
      have hbelB := hbelA.alloc (by omega) (.cells #[.int .i64 fm.kind, .string fm.name, .int .i64 fm.cells, .slice ad1 fm.params.length cap1, .slice ad2 fm.index.length cap2, .slice ad3 fm.values.length cap3] 143)
      have hN2 := block_alloc hN1 (.cells #[.int .i64 fm.kind, .string fm.name, .int .i64 fm.cells, .slice ad1 fm.params.length cap1, .slice ad2 fm.index.length cap2, .slice ad3 fm.values.length cap3] 143)
      have hM2 := heap_alloc_new w1 (.cells #[.int .i64 fm.kind, .string fm.name, .int .i64 fm.cells, .slice ad1 fm.params.length cap1, .slice ad2 fm.index.length cap2, .slice ad3 fm.values.length cap3] 143)
      have hfvB : FormV (w1.alloc (.cells #[.int .i64 fm.kind, .string fm.name, .int .i64 fm.cells, .slice ad1 fm.params.length cap1, .slice ad2 fm.index.length cap2, .slice ad3 fm.values.length cap3] 143)) (w.heap.size + 2) _ fm := FormV_later hfv2 (fun t size n v xs h => ownsRow_mono (h.alloc _) (by simp <;> omega))
      have HS := hide hs
      clear hr hr1 hN0 hN1 hfr1 hbel hbelA hs hfv2 b1 b2 b3
      go_wp2_with fail
      refine (more' _ _ _ _ _ _ _ hA.1).mono ?_
      rintro e w3 ⟨rfl, hr3, hfr3⟩
      have hN3 := hfr3.keep hN2 (by omega)
      have hM3 := hfr3.keep hM2 (by omega)
      have hfv3 := FormV_later hfvB (w' := w3) (B' := w.heap.size + 2) (fun t size n v xs h => hfr3.keepRow h (by omega))
      have hbel3 := hbelB.trans (hfr3.toBelow (B := w.heap.size) (by omega) (by simp <;> omega))
      obtain ⟨c0, c1, c2, c3, c4, c5, f0, f1, f2, f3, f4, f5⟩ := six hN3
      have ⟨d0, d1, d2, d3, d4, d5, _, _, _, _, _, _⟩ := six hM3
      have hne : ¬ w1.heap.size = w.heap.size := by omega
      by_cases hmore : n1 < (t :: r).length
      · have hd : decide (n1 < (t :: r).length) = true := by simpa using hmore
        rw [hd]
        have HE : Hid (Rt.pLineAll (t :: r) = none) := by
          refine hide ?_
          have h := unhide HS
          simp only [List.drop_one, List.tail_cons] at h
          rw [Rt.pLineAll, h]
          simp only
          rw [if_neg (fun e => by rw [drop_at hmore] at e; cases e)]
        have HB := hide hbel3
        clear hr3 hfr3 hN3 hM3 hfv3 hbel3 hA hbelB hN2 hM2 hfvB hmore
        go_wp2_with fail
        refine bodyPost_ret (v := .tuple #[.agg zForm, .bool false]) ?_ rfl ⟨below_set6 (unhide HB) (Nat.le_refl _) _ _ _ _ _ _, Or.inr ⟨unhide HE, rfl⟩⟩
        simp [results, Tryz.results122, go_sem, c0, c1, c2, c3, c4, c5]
      · have hd : decide (n1 < (t :: r).length) = false := by simpa using hmore
        rw [hd]
        have HE : Hid (Rt.pLineAll (t :: r) = some fm) := by
          refine hide ?_
          have h := unhide HS
          simp only [List.drop_one, List.tail_cons] at h
          rw [Rt.pLineAll, h]
          simp only
          rw [if_pos (drop_end hmore)]
        have HB := hide hbel3
        have HV := hide hfv3
        clear hr3 hfr3 hN3 hM3 hfv3 hbel3 hA hbelB hN2 hM2 hfvB hmore
        go_wp2_with fail
        refine bodyPost_ret (v := .tuple #[.agg #[.int .i64 fm.kind, .string fm.name, .int .i64 fm.cells, .slice ad1 fm.params.length cap1, .slice ad2 fm.index.length cap2, .slice ad3 fm.values.length cap3], .bool true]) ?_ rfl
          ⟨below_set6 (unhide HB) (Nat.le_refl _) _ _ _ _ _ _, Or.inl ⟨fm, _, unhide HE, rfl, FormV_set6 (unhide HV) (by omega) (by omega) _ _ _ _ _ _⟩⟩
        simp [results, Tryz.results122, go_sem, c0, c1, c2, c3, c4, c5]
    · have hN1 := hfr1.keep hN0 (by omega)
      have hz1 : w.heap.size < w1.heap.size := by have := hfr1.size; simp at this; omega
      have HE : Hid (Rt.pLineAll (t :: r) = none) := by
        refine hide ?_
        simp only [List.drop_one, List.tail_cons] at hs
        rw [Rt.pLineAll, hs]
      have HB := hide (hbel.trans (hfr1.toBelow (B := w.heap.size) (by omega) (by simp <;> omega)))
      obtain ⟨c0, c1, c2, c3, c4, c5, f0, f1, f2, f3, f4, f5⟩ := six hN1
      clear hr hN0 hN1 hfr1 hbel hs
      go_wp2_with fail
      refine bodyPost_ret (v := .tuple #[.agg zForm, .bool false]) ?_ rfl ⟨(below_set6 (unhide HB) (Nat.le_refl _) _ _ _ _ _ _).alloc (by rw [size_W6]; omega) _, Or.inr ⟨unhide HE, rfl⟩⟩
      simp [results, Tryz.results122, go_sem, c0, c1, c2, c3, c4, c5, hz1]
end Go.Proofs.YthleadfkfnnadaaGreat
