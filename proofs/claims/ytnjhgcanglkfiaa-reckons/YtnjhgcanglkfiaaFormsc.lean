/- The walks of the readers of lines, continued: array, procedure. -/
import Derived.Test.YtnjhgcanglkfiaaFormsb
namespace Go.Proofs.Ytnjhgcanglkfiaa
open Go.RowKit


theorem RFr.keep {R : Nat} {ov : Value} {w1 w2 : World} {N : Nat} {o : Obj} (h : RFr R noOps ov w1 w2) (hN : w1.heap[N]? = some o) (hne : N ≠ R) : w2.heap[N]? = some o := by
  have hlt : N < w1.heap.size := by
    by_cases h : N < w1.heap.size
    · exact h
    · rw [Array.getElem?_eq_none (by omega)] at hN; cases hN
  rw [h.block N hlt hne (by simp [Value.ownBlock])]
  exact hN
theorem RFr.keepRow {R : Nat} {ov : Value} {w1 w2 : World} {B : Nat} {e : TypeId} {size : Nat} {v : Value} {n : Nat} {xs : List Value} (h : RFr R noOps ov w1 w2) (hown : w1.ownsRow B e size v n xs) (hB : R < B) : w2.ownsRow B e size v n xs := by
  obtain ⟨h1, h2⟩ := hown
  refine ⟨h1, ?_⟩
  rcases h2 with h2 | ⟨g, cap, cur, hv, hg, hh, r⟩
  · exact Or.inl h2
  · exact Or.inr ⟨g, cap, cur, hv, hg, h.keep hh (by omega), r⟩

theorem number_any (w : World) (R : Nat) (tv : Value) (ts : List Rt.Tk) (n : Nat) (ov : Value) (ops : List Pop) (hr : RdS w R tv ts n ov ops) (hsm : ∀ t ∈ ts, t.text.size ≤ 40000) :
    Calls Try.prog 78 #[.pointer (some ⟨R, 0, none⟩)] w fun e w' =>
      (∃ v, Rt.pNumber (ts.drop n) = some (v, ts.drop (n + 1)) ∧ e = .returned (.tuple #[.int .i64 v, .bool true]) ∧ RdS w' R tv ts (n + 1) ov ops ∧ RFr R ov ov w w') ∨
      (Rt.pNumber (ts.drop n) = none ∧ e = .returned (.tuple #[.int .i64 0, .bool false]) ∧ RdS w' R tv ts n ov ops ∧ RFr R ov ov w w') := by
  by_cases hn : n < ts.length
  · by_cases hk : ts[n].kind = 2
    · refine (number_yes w R tv ts n ov ops hr hn hk (by have := hsm _ (List.getElem_mem hn); unfold maxLen; omega)).mono ?_
      rintro e w' ⟨rfl, h3, h4⟩
      exact Or.inl ⟨_, by rw [drop_at hn, Rt.pNumber, if_pos hk], rfl, h3, h4⟩
    · refine (number_no' w R tv ts n ov ops hr hn hk).mono ?_
      rintro e w' ⟨rfl, h3, h4⟩
      exact Or.inr ⟨by rw [drop_at hn, Rt.pNumber, if_neg hk], rfl, h3, h4⟩
  · refine (number_end' w R tv ts n ov ops hr hn).mono ?_
    rintro e w' ⟨rfl, h3, h4⟩
    exact Or.inr ⟨by rw [drop_end hn, Rt.pNumber], rfl, h3, h4⟩

set_option maxHeartbeats 1000000 in
theorem array_any (w : World) (R : Nat) (tv : Value) (ts : List Rt.Tk) (n : Nat) (hr : RdS w R tv ts n noOps []) (hsm : ∀ t ∈ ts, t.text.size ≤ 40000) :
    Calls Try.prog 68 #[.pointer (some ⟨R, 0, none⟩)] w (LineP Rt.pArray R tv ts n w) := by
  have hlt : R < w.heap.size := World.block_lt_of_cell? w _ (cell_of_block hr.block 0 (by simp))
  have HSM := hide hsm
  clear hsm
  go_enter Try.func68, Try.ntmps68
  go_wp2_with fail
  obtain ⟨hr0, hfr0⟩ := hr.later ((Below.refl w.heap.size w).alloc (Nat.le_refl _) (.cells zForm 58))
  have hN0 : (w.alloc (.cells zForm 58)).heap[w.heap.size]? = some (.cells zForm 58 (0, 0)) := heap_alloc_new w _
  refine (name_any _ _ _ _ _ _ _ hr0).mono ?_
  rintro e w1 (⟨nm, hn, hs, rfl, hr1, hfr1⟩ | ⟨hs, rfl, hr1, hfr1⟩)
  · have hN := hfr1.keep hN0 (by omega)
    have HS := hide hs
    have HFR := hide (hfr0.trans hfr1)
    clear hr hr0 hfr0 hfr1 hs hN0
    go_wp2_with fail
    refine (number_any _ _ _ _ _ _ _ hr1 (unhide HSM)).mono ?_
    rintro e w2 (⟨v, hs2, rfl, hr2, hfr2⟩ | ⟨hs2, rfl, hr2, hfr2⟩)
    · obtain ⟨c0, c1, c2, c3, c4, c5, f0, f1, f2, f3, f4, f5⟩ := six (hfr2.keep hN (by omega))
      have HS2 := hide hs2
      have HR := hide hr2
      have HFR2 := hide ((unhide HFR).trans hfr2)
      clear hr1 hr2 hfr2 hs2 HFR hN
      by_cases hv1 : v < 1
      · go_wp2_with fail
        refine bodyPost_ret (v := .tuple #[.agg zForm, .bool false]) ?_ rfl (Or.inr ⟨by rw [Rt.pArray, unhide HS]; simp only; rw [unhide HS2]; simp only; rw [if_pos (Or.inl hv1)], rfl, _, (unhide HFR2).set6 (Nat.le_refl _) _ _ _ _ _ _⟩)
        simp [results, Try.results68, go_sem, c0, c1, c2, c3, c4, c5]
      · by_cases hv2 : 32 < v
        · go_wp2_with fail
          refine bodyPost_ret (v := .tuple #[.agg zForm, .bool false]) ?_ rfl (Or.inr ⟨by rw [Rt.pArray, unhide HS]; simp only; rw [unhide HS2]; simp only; rw [if_pos (Or.inr hv2)], rfl, _, (unhide HFR2).set6 (Nat.le_refl _) _ _ _ _ _ _⟩)
          simp [results, Try.results68, go_sem, c0, c1, c2, c3, c4, c5]
        · have HE : Hid (Rt.pArray (ts.drop n) = some (⟨2, nm, v, [], [], []⟩, ts.drop (n + 1 + 1))) := by
            refine hide ?_
            rw [Rt.pArray, unhide HS]
            simp only
            rw [unhide HS2]
            simp only
            rw [if_neg (by omega)]
          go_wp2_with fail
          refine bodyPost_ret (v := .tuple #[.agg #[.int .i64 2, .string nm, .int .i64 v, noOps, noOps, noOps], .bool true]) ?_ rfl
            (Or.inl ⟨_, _, _, unhide HE, rfl, (unhide HR).set6 hlt _ _ _ _ _ _, FormV_plain _ _ _ _ _, (unhide HFR2).set6 (Nat.le_refl _) _ _ _ _ _ _⟩)
          simp [results, Try.results68, go_sem, c0, c1, c2, c3, c4, c5]
    · obtain ⟨c0, c1, c2, c3, c4, c5, f0, f1, f2, f3, f4, f5⟩ := six (hfr2.keep hN (by omega))
      have HS2 := hide hs2
      have HFR2 := hide ((unhide HFR).trans hfr2)
      clear hr1 hr2 hfr2 hs2 HFR hN
      go_wp2_with fail
      refine bodyPost_ret (v := .tuple #[.agg zForm, .bool false]) ?_ rfl (Or.inr ⟨by rw [Rt.pArray, unhide HS]; simp only; rw [unhide HS2], rfl, _, (unhide HFR2).set6 (Nat.le_refl _) _ _ _ _ _ _⟩)
      simp [results, Try.results68, go_sem, c0, c1, c2, c3, c4, c5]
  · obtain ⟨c0, c1, c2, c3, c4, c5, f0, f1, f2, f3, f4, f5⟩ := six (hfr1.keep hN0 (by omega))
    have HS := hide hs
    have HFR := hide (hfr0.trans hfr1)
    clear hr hr0 hfr0 hfr1 hs hN0
    go_wp2_with fail
    refine bodyPost_ret (v := .tuple #[.agg zForm, .bool false]) ?_ rfl (Or.inr ⟨by rw [Rt.pArray, unhide HS], rfl, _, (unhide HFR).set6 (Nat.le_refl _) _ _ _ _ _ _⟩)
    simp [results, Try.results68, go_sem, c0, c1, c2, c3, c4, c5]

end Go.Proofs.Ytnjhgcanglkfiaa

