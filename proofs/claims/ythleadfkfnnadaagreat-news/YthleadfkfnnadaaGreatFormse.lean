/- The walks of the readers of lines, continued: set. -/
import Derived.Test.YthleadfkfnnadaaGreatFormsd
namespace Go.Proofs.YthleadfkfnnadaaGreat
open Go.RowKit
theorem take_any (w : World) (R : Nat) (tv : Value) (ts : List Rt.Tk) (n : Nat) (ov : Value) (ops : List Pop) (x : ByteArray) (hr : RdS w R tv ts n ov ops) :
    Calls Tryz.prog 216 #[.pointer (some ⟨R, 0, none⟩), .string x] w fun e w' =>
      (Rt.pTake x (ts.drop n) = some (ts.drop (n + 1)) ∧ e = .returned (.bool true) ∧ RdS w' R tv ts (n + 1) ov ops ∧ RFr R ov ov w w') ∨
      (Rt.pTake x (ts.drop n) = none ∧ e = .returned (.bool false) ∧ RdS w' R tv ts n ov ops ∧ RFr R ov ov w w') := by
  by_cases hn : n < ts.length
  · by_cases hk : ts[n].text = x
    · refine (take_yes w R tv ts n ov ops x hr hn hk).mono ?_
      rintro e w' ⟨rfl, h3, h4⟩
      exact Or.inl ⟨by rw [drop_at hn, Rt.pTake, if_pos hk], rfl, h3, h4⟩
    · refine (take_no' w R tv ts n ov ops x hr hn hk).mono ?_
      rintro e w' ⟨rfl, h3, h4⟩
      exact Or.inr ⟨by rw [drop_at hn, Rt.pTake, if_neg hk], rfl, h3, h4⟩
  · refine (take_end' w R tv ts n ov ops x hr hn).mono ?_
    rintro e w' ⟨rfl, h3, h4⟩
    exact Or.inr ⟨by rw [drop_end hn, Rt.pTake], rfl, h3, h4⟩
theorem setIf6_0 (a b c d e f x : Value) : (#[a, b, c, d, e, f].setIfInBounds 0 x) = #[x, b, c, d, e, f] := rfl
theorem setIf6_4 (a b c d e f x : Value) : (#[a, b, c, d, e, f].setIfInBounds 4 x) = #[a, b, c, d, x, f] := rfl
set_option maxHeartbeats 4000000 in
set_option maxRecDepth 100000 in
theorem set_any (w : World) (R : Nat) (tv : Value) (ts : List Rt.Tk) (n : Nat) (hr : RdS w R tv ts n noOps []) (hsm : ∀ t ∈ ts, t.text.size ≤ 40000) :
    Calls Tryz.prog 200 #[.pointer (some ⟨R, 0, none⟩)] w (LineP Rt.pSet R tv ts n w) := by
  have hlt : R < w.heap.size := World.block_lt_of_cell? w _ (cell_of_block hr.block 0 (by simp))
  have HSM := hide hsm
  clear hsm
  go_enter Tryz.func200, Tryz.ntmps200
  go_wp2_with fail
  obtain ⟨hr0, hfr0⟩ := hr.later ((Below.refl w.heap.size w).alloc (Nat.le_refl _) (.cells zForm 143))
  have hN0 : (w.alloc (.cells zForm 143)).heap[w.heap.size]? = some (.cells zForm 143 (0, 0)) := heap_alloc_new w _
  refine (name_any _ _ _ _ _ _ _ hr0).mono ?_
  rintro e w1 (⟨nm, hn, hs, rfl, hr1, hfr1⟩ | ⟨hs, rfl, hr1, hfr1⟩)
  · have hN := hfr1.keep hN0 (by omega)
    have hNlt := block_lt hN
    have hfrA := hfr0.trans hfr1
    have HS := hide hs
    have hrB := (hr1.later ((Below.refl w1.heap.size w1).alloc (Nat.le_refl _) (.cells #[.int .i64 8, .string nm, .int .i64 0, noOps, noOps, noOps] 143))).1
    have hfrB := hfrA.alloc (.cells #[.int .i64 8, .string nm, .int .i64 0, noOps, noOps, noOps] 143)
    have hNB := block_alloc hN (.cells #[.int .i64 8, .string nm, .int .i64 0, noOps, noOps, noOps] 143)
    have hMB := heap_alloc_new w1 (.cells #[.int .i64 8, .string nm, .int .i64 0, noOps, noOps, noOps] 143)
    clear hr hr0 hfr0 hfr1 hs hN0 hfrA hN hr1
    go_wp2_with fail
    refine (take_any _ _ _ _ _ _ _ _ hrB).mono ?_
    rintro e w2 (⟨hs2, rfl, hr2, hfr2⟩ | ⟨hs2, rfl, hr2, hfr2⟩)
    · have hN2 := hfr2.keep hNB (by omega)
      have hM2 := hfr2.keep hMB (by omega)
      have hfrC := hfrB.trans hfr2
      have HS2 := hide hs2
      clear hs2 hfr2 hfrB hNB hMB hrB
      go_wp2_with fail
      refine (expression_any _ _ _ _ _ hr2 (unhide HSM)).mono ?_
      rintro e w3 (⟨ix, n3, iv, hs3, rfl, hn3, hix, hr3, hiv, hfr3⟩ | ⟨hs3, rfl, ov3, hfr3⟩)
      · obtain ⟨adi, capi, rfl⟩ := ownsRow_form hiv
        have hM2lt := block_lt hM2
        have hN3 := block_alloc (hfr3.keep hN2 (by omega)) (.cells #[.slice adi ix.length capi] 140)
        have hM3 := block_alloc (hfr3.keep hM2 (by omega)) (.cells #[.slice adi ix.length capi] 140)
        have hE3 := heap_alloc_new w3 (.cells #[.slice adi ix.length capi] 140)
        have hrD := (hr3.later ((Below.refl w3.heap.size w3).alloc (Nat.le_refl _) (.cells #[.slice adi ix.length capi] 140))).1
        have hfrD := (hfrC.trans hfr3).alloc (.cells #[.slice adi ix.length capi] 140)
        have hivD := (ownsRow_mono (b' := w1.heap.size + 1) hiv (by omega)).alloc (.cells #[.slice adi ix.length capi] 140)
        have hM3lt := block_lt (hfr3.keep hM2 (by omega))
        have HS3 := hide hs3
        clear hs3 hfr3 hr3 hiv hN2 hM2 hfrC hr2
        go_wp2_with fail
        refine (take_any _ _ _ _ _ _ _ _ hrD).mono ?_
        rintro e w4 (⟨hs4, rfl, hr4, hfr4⟩ | ⟨hs4, rfl, hr4, hfr4⟩)
        · have hN4 := hfr4.keep hN3 (by omega)
          have hM4 := hfr4.keep hM3 (by omega)
          have hE4 := hfr4.keep hE3 (by omega)
          have hiv4 := hfr4.keepRow hivD (by omega)
          have hfrE := hfrD.trans hfr4
          have HS4 := hide hs4
          have ⟨d0, d1, d2, d3, d4, d5, g0, g1, g2, g3, g4, g5⟩ := six hM4
          have x0 := cell_of_block hE4 0 (by simp)
          simp at x0
          have hMf := set_block (set_block hM4 0 (.int .i64 9)) 4 (.slice adi ix.length capi)
          rw [setIf6_0, setIf6_4] at hMf
          have hNf := set_other (set_other hN4 (M := w1.heap.size) (by omega) 0 (.int .i64 9)) (M := w1.heap.size) (by omega) 4 (.slice adi ix.length capi)
          have hrf := (hr4.setOther (N := w1.heap.size) (i := 0) (by omega) (by intro g h; cases h) (.int .i64 9)).setOther (N := w1.heap.size) (i := 4) (by omega) (by intro g h; cases h) (.slice adi ix.length capi)
          have hfrf := (hfrE.setNew (N := w1.heap.size) (i := 0) (by omega) (.int .i64 9)).setNew (N := w1.heap.size) (i := 4) (by omega) (.slice adi ix.length capi)
          have hivf := ownsRow_setCell_ne (ownsRow_setCell_ne hiv4 (a := ⟨w1.heap.size, 0, none⟩) (fun g hg => by have := (hiv4.lt g hg).1; show g ≠ w1.heap.size; omega) (.int .i64 9)) (a := ⟨w1.heap.size, 4, none⟩) (fun g hg => by have := (hiv4.lt g hg).1; show g ≠ w1.heap.size; omega) (.slice adi ix.length capi)
          clear hs4 hfr4 hr4 hN4 hM4 hE4 hiv4 hfrE hN3 hM3 hE3 hrD hfrD hivD
          go_wp2_with fail
          refine (take_any _ _ _ _ _ _ _ _ hrf).mono ?_
          rintro e w5 (⟨hs5, rfl, hr5, hfr5⟩ | ⟨hs5, rfl, hr5, hfr5⟩)
          · have hN5 := hfr5.keep hNf (by omega)
            have hM5 := hfr5.keep hMf (by omega)
            have hiv5 := hfr5.keepRow hivf (by omega)
            have hfrE := hfrf.trans hfr5
            have HS5 := hide hs5
            clear hs5 hfr5 hrf hNf hMf hivf hfrf
            go_wp2_with fail
            refine (expression_any _ _ _ _ _ hr5 (unhide HSM)).mono ?_
            rintro e w6 (⟨em, n6, xv, hs6, rfl, hn6, hem, hr6, hxv, hfr6⟩ | ⟨hs6, rfl, ov6, hfr6⟩)
            · obtain ⟨adx, capx, rfl⟩ := ownsRow_form hxv
              have hN6 := hfr6.keep hN5 (by omega)
              have hM6 := hfr6.keep hM5 (by omega)
              have hiv6 := hfr6.keepRow hiv5 (by omega)
              have hfrF := hfrE.trans hfr6
              have HE := hide (Rt.set_b (unhide HS) (unhide HS2) (unhide HS3) (unhide HS4) (Rt.to_ok (unhide HS5) hs6))
              have hM6lt := block_lt hM6
              have hxg : ∀ g, (Value.slice adx em.length capx).ownBlock = some g → w5.heap.size ≤ g := fun g hg => (hxv.lt g hg).1
              have hM5lt := block_lt hM5
              obtain ⟨c0, c1, c2, c3, c4, c5, f0, f1, f2, f3, f4, f5⟩ := six hN6
              have ⟨d0, d1, d2, d3, d4, d5, _, _, _, _, _, g5⟩ := six hM6
              have hne : ¬ w1.heap.size = w.heap.size := by omega
              have hz : w.heap.size < w6.heap.size := by omega
              have a1 := (hr6.setOther (N := w1.heap.size) (i := 5) (by omega) (by intro g h; cases h) (Value.slice (some ⟨w6.heap.size + 1, 0, none⟩) 1 1)).set6 hlt (.int .i64 9) (.string nm) (.int .i64 0) noOps (Value.slice adi ix.length capi) (Value.slice (some ⟨w6.heap.size + 1, 0, none⟩) 1 1)
              have a2 := (hfrF.setNew (N := w1.heap.size) (i := 5) (by omega) (Value.slice (some ⟨w6.heap.size + 1, 0, none⟩) 1 1)).set6 (N := w.heap.size) (Nat.le_refl _) (.int .i64 9) (.string nm) (.int .i64 0) noOps (Value.slice adi ix.length capi) (Value.slice (some ⟨w6.heap.size + 1, 0, none⟩) 1 1)
              have a3 := ownsRow_mono (b' := w.heap.size) (own_set6 (N := w.heap.size) (ownsRow_setCell_ne hxv (a := ⟨w1.heap.size, 5, none⟩) (fun g hg => by have := hxg g hg; show g ≠ w1.heap.size; omega) (Value.slice (some ⟨w6.heap.size + 1, 0, none⟩) 1 1)) (fun g hg => by have := hxg g hg; omega) (.int .i64 9) (.string nm) (.int .i64 0) noOps (Value.slice adi ix.length capi) (Value.slice (some ⟨w6.heap.size + 1, 0, none⟩) 1 1)) (by omega)
              have a4 := ownsRow_mono (b' := w.heap.size) (own_set6 (N := w.heap.size) (ownsRow_setCell_ne hiv6 (a := ⟨w1.heap.size, 5, none⟩) (fun g hg => by have := (hiv6.lt g hg).1; show g ≠ w1.heap.size; omega) (Value.slice (some ⟨w6.heap.size + 1, 0, none⟩) 1 1)) (fun g hg => by have := (hiv6.lt g hg).1; omega) (.int .i64 9) (.string nm) (.int .i64 0) noOps (Value.slice adi ix.length capi) (Value.slice (some ⟨w6.heap.size + 1, 0, none⟩) 1 1)) (by omega)
              have HH := hide (And.intro a1 (And.intro a2 (And.intro a3 a4)))
              clear a1 a2 a3 a4 hr6 hfrF hxv hiv6 hN6 hM6 hfrE hfr6 hN5 hM5 hiv5 hr5 hs6 hxg
              go_wp2_with fail
              refine bodyPost_ret (v := .tuple #[.agg #[.int .i64 9, .string nm, .int .i64 0, noOps, Value.slice adi ix.length capi, .slice (some ⟨w6.heap.size + 1, 0, none⟩) 1 1], .bool true]) ?_ rfl ?_
              · simp [results, Tryz.results200, go_sem, c0, c1, c2, c3, c4, c5, hz]
              · obtain ⟨a1, a2, a3, a4⟩ := unhide HH
                have hszA := size_W6 (w6.setCell ⟨w1.heap.size, 5, none⟩ (Value.slice (some ⟨w6.heap.size + 1, 0, none⟩) 1 1)) w.heap.size (.int .i64 9) (.string nm) (.int .i64 0) noOps (Value.slice adi ix.length capi) (Value.slice (some ⟨w6.heap.size + 1, 0, none⟩) 1 1)
                have hszB : (w6.setCell ⟨w1.heap.size, 5, none⟩ (Value.slice (some ⟨w6.heap.size + 1, 0, none⟩) 1 1)).heap.size = w6.heap.size := by simp [World.setCell]
                generalize hwA : W6 (w6.setCell ⟨w1.heap.size, 5, none⟩ (Value.slice (some ⟨w6.heap.size + 1, 0, none⟩) 1 1)) w.heap.size (.int .i64 9) (.string nm) (.int .i64 0) noOps (Value.slice adi ix.length capi) (Value.slice (some ⟨w6.heap.size + 1, 0, none⟩) 1 1) = wA at a1 a2 a3 a4 hszA
                obtain ⟨b1, b2⟩ := a1.later (((Below.refl wA.heap.size wA).alloc (Nat.le_refl _) (.cells #[.slice adx em.length capx] 140)).alloc (by simp) (.cells #[.slice adx em.length capx] 140))
                have hnew := ownsRow_new (wA.alloc (.cells #[.slice adx em.length capx] 140)) w.heap.size 140 (.slice adx em.length capx) (by simp; omega)
                have hszC : (wA.alloc (.cells #[.slice adx em.length capx] 140)).heap.size = w6.heap.size + 1 := by simp [hszA, hszB]
                rw [hszC] at hnew
                skip
                rw [← hwA] at b1 b2 hnew a2 a3 a4
                exact Or.inl ⟨⟨9, nm, 0, [], ix, [em]⟩, n6, _, unhide HE, rfl, b1, ⟨noOps, Value.slice adi ix.length capi, _, [_], rfl, World.ownsRow_nil _ _ _ _, (a4.alloc _).alloc _, hnew, ⟨(a3.alloc _).alloc _, trivial⟩⟩, a2.trans b2⟩
            · have hN6 := hfr6.keep hN5 (by omega)
              have HE := hide (Rt.set_b (unhide HS) (unhide HS2) (unhide HS3) (unhide HS4) (Rt.to_no (unhide HS5) hs6))
              have HFR := hide (hfrE.trans hfr6)
              obtain ⟨c0, c1, c2, c3, c4, c5, f0, f1, f2, f3, f4, f5⟩ := six hN6
              have hz := block_lt hN6
              clear hN6 hN5 hM5 hiv5 hr5 hfrE hfr6 hs6
              go_wp2_with fail
              refine bodyPost_ret (v := .tuple #[.agg zForm, .bool false]) ?_ rfl (Or.inr ⟨unhide HE, rfl, _, ((unhide HFR).set6 (N := w.heap.size) (Nat.le_refl _) _ _ _ _ _ _).alloc _⟩)
              simp [results, Tryz.results200, go_sem, c0, c1, c2, c3, c4, c5, hz]
          · have hN5 := hfr5.keep hNf (by omega)
            have HE := hide (Rt.set_b (unhide HS) (unhide HS2) (unhide HS3) (unhide HS4) (Rt.to_none hs5))
            have HFR := hide (hfrf.trans hfr5)
            obtain ⟨c0, c1, c2, c3, c4, c5, f0, f1, f2, f3, f4, f5⟩ := six hN5
            clear hN5 hr5 hfr5 hs5 hrf hNf hMf hivf hfrf
            go_wp2_with fail
            refine bodyPost_ret (v := .tuple #[.agg zForm, .bool false]) ?_ rfl (Or.inr ⟨unhide HE, rfl, _, (unhide HFR).set6 (Nat.le_refl _) _ _ _ _ _ _⟩)
            simp [results, Tryz.results200, go_sem, c0, c1, c2, c3, c4, c5]
        · have hN4 := hfr4.keep hN3 (by omega)
          have HE := hide (Rt.set_c (unhide HS) (unhide HS2) (unhide HS3) hs4)
          have HFR := hide (hfrD.trans hfr4)
          obtain ⟨c0, c1, c2, c3, c4, c5, f0, f1, f2, f3, f4, f5⟩ := six hN4
          clear hN4 hr4 hfr4 hs4 hN3 hM3 hE3 hrD hfrD hivD
          go_wp2_with fail
          refine bodyPost_ret (v := .tuple #[.agg zForm, .bool false]) ?_ rfl (Or.inr ⟨unhide HE, rfl, _, (unhide HFR).set6 (Nat.le_refl _) _ _ _ _ _ _⟩)
          simp [results, Tryz.results200, go_sem, c0, c1, c2, c3, c4, c5]
      · have hN3 := hfr3.keep hN2 (by omega)
        have HE := hide (Rt.set_d (unhide HS) (unhide HS2) hs3)
        have HFR := hide (hfrC.trans hfr3)
        obtain ⟨c0, c1, c2, c3, c4, c5, f0, f1, f2, f3, f4, f5⟩ := six hN3
        have hz := block_lt hN3
        clear hN3 hfr3 hs3 hN2 hM2 hfrC hr2
        go_wp2_with fail
        refine bodyPost_ret (v := .tuple #[.agg zForm, .bool false]) ?_ rfl (Or.inr ⟨unhide HE, rfl, _, ((unhide HFR).set6 (N := w.heap.size) (Nat.le_refl _) _ _ _ _ _ _).alloc _⟩)
        simp [results, Tryz.results200, go_sem, c0, c1, c2, c3, c4, c5, hz]
    · have hN2 := hfr2.keep hNB (by omega)
      have hM2 := hfr2.keep hMB (by omega)
      have hfrC := hfrB.trans hfr2
      have HS2 := hide hs2
      have hivn : w2.ownsRow (w1.heap.size + 1) 236 3 noOps 0 (popsCells []) := World.ownsRow_nil _ _ _ _
      clear hs2 hfr2 hfrB hNB hMB hrB
      go_wp2_with fail
      refine (take_any _ _ _ _ _ _ _ _ hr2).mono ?_
      rintro e w5 (⟨hs5, rfl, hr5, hfr5⟩ | ⟨hs5, rfl, hr5, hfr5⟩)
      · have hN5 := hfr5.keep hN2 (by omega)
        have hM5 := hfr5.keep hM2 (by omega)
        have hiv5 := hfr5.keepRow hivn (by omega)
        have hfrE := hfrC.trans hfr5
        have HS5 := hide hs5
        clear hs5 hfr5 hr2 hN2 hM2 hivn hfrC
        go_wp2_with fail
        refine (expression_any _ _ _ _ _ hr5 (unhide HSM)).mono ?_
        rintro e w6 (⟨em, n6, xv, hs6, rfl, hn6, hem, hr6, hxv, hfr6⟩ | ⟨hs6, rfl, ov6, hfr6⟩)
        · obtain ⟨adx, capx, rfl⟩ := ownsRow_form hxv
          have hN6 := hfr6.keep hN5 (by omega)
          have hM6 := hfr6.keep hM5 (by omega)
          have hiv6 := hfr6.keepRow hiv5 (by omega)
          have hfrF := hfrE.trans hfr6
          have HE := hide (Rt.set_a (unhide HS) (unhide HS2) (Rt.to_ok (unhide HS5) hs6))
          have hM6lt := block_lt hM6
          have hxg : ∀ g, (Value.slice adx em.length capx).ownBlock = some g → w5.heap.size ≤ g := fun g hg => (hxv.lt g hg).1
          have hM5lt := block_lt hM5
          obtain ⟨c0, c1, c2, c3, c4, c5, f0, f1, f2, f3, f4, f5⟩ := six hN6
          have ⟨d0, d1, d2, d3, d4, d5, _, _, _, _, _, g5⟩ := six hM6
          have hne : ¬ w1.heap.size = w.heap.size := by omega
          have hz : w.heap.size < w6.heap.size := by omega
          have a1 := (hr6.setOther (N := w1.heap.size) (i := 5) (by omega) (by intro g h; cases h) (Value.slice (some ⟨w6.heap.size + 1, 0, none⟩) 1 1)).set6 hlt (.int .i64 8) (.string nm) (.int .i64 0) noOps (noOps) (Value.slice (some ⟨w6.heap.size + 1, 0, none⟩) 1 1)
          have a2 := (hfrF.setNew (N := w1.heap.size) (i := 5) (by omega) (Value.slice (some ⟨w6.heap.size + 1, 0, none⟩) 1 1)).set6 (N := w.heap.size) (Nat.le_refl _) (.int .i64 8) (.string nm) (.int .i64 0) noOps (noOps) (Value.slice (some ⟨w6.heap.size + 1, 0, none⟩) 1 1)
          have a3 := ownsRow_mono (b' := w.heap.size) (own_set6 (N := w.heap.size) (ownsRow_setCell_ne hxv (a := ⟨w1.heap.size, 5, none⟩) (fun g hg => by have := hxg g hg; show g ≠ w1.heap.size; omega) (Value.slice (some ⟨w6.heap.size + 1, 0, none⟩) 1 1)) (fun g hg => by have := hxg g hg; omega) (.int .i64 8) (.string nm) (.int .i64 0) noOps (noOps) (Value.slice (some ⟨w6.heap.size + 1, 0, none⟩) 1 1)) (by omega)
          have a4 := ownsRow_mono (b' := w.heap.size) (own_set6 (N := w.heap.size) (ownsRow_setCell_ne hiv6 (a := ⟨w1.heap.size, 5, none⟩) (fun g hg => by have := (hiv6.lt g hg).1; show g ≠ w1.heap.size; omega) (Value.slice (some ⟨w6.heap.size + 1, 0, none⟩) 1 1)) (fun g hg => by have := (hiv6.lt g hg).1; omega) (.int .i64 8) (.string nm) (.int .i64 0) noOps (noOps) (Value.slice (some ⟨w6.heap.size + 1, 0, none⟩) 1 1)) (by omega)
          have HH := hide (And.intro a1 (And.intro a2 (And.intro a3 a4)))
          clear a1 a2 a3 a4 hr6 hfrF hxv hiv6 hN6 hM6 hfrE hfr6 hN5 hM5 hiv5 hr5 hs6 hxg
          go_wp2_with fail
          refine bodyPost_ret (v := .tuple #[.agg #[.int .i64 8, .string nm, .int .i64 0, noOps, noOps, .slice (some ⟨w6.heap.size + 1, 0, none⟩) 1 1], .bool true]) ?_ rfl ?_
          · simp [results, Tryz.results200, go_sem, c0, c1, c2, c3, c4, c5, hz]
          · obtain ⟨a1, a2, a3, a4⟩ := unhide HH
            have hszA := size_W6 (w6.setCell ⟨w1.heap.size, 5, none⟩ (Value.slice (some ⟨w6.heap.size + 1, 0, none⟩) 1 1)) w.heap.size (.int .i64 8) (.string nm) (.int .i64 0) noOps (noOps) (Value.slice (some ⟨w6.heap.size + 1, 0, none⟩) 1 1)
            have hszB : (w6.setCell ⟨w1.heap.size, 5, none⟩ (Value.slice (some ⟨w6.heap.size + 1, 0, none⟩) 1 1)).heap.size = w6.heap.size := by simp [World.setCell]
            generalize hwA : W6 (w6.setCell ⟨w1.heap.size, 5, none⟩ (Value.slice (some ⟨w6.heap.size + 1, 0, none⟩) 1 1)) w.heap.size (.int .i64 8) (.string nm) (.int .i64 0) noOps (noOps) (Value.slice (some ⟨w6.heap.size + 1, 0, none⟩) 1 1) = wA at a1 a2 a3 a4 hszA
            obtain ⟨b1, b2⟩ := a1.later (((Below.refl wA.heap.size wA).alloc (Nat.le_refl _) (.cells #[.slice adx em.length capx] 140)).alloc (by simp) (.cells #[.slice adx em.length capx] 140))
            have hnew := ownsRow_new (wA.alloc (.cells #[.slice adx em.length capx] 140)) w.heap.size 140 (.slice adx em.length capx) (by simp; omega)
            have hszC : (wA.alloc (.cells #[.slice adx em.length capx] 140)).heap.size = w6.heap.size + 1 := by simp [hszA, hszB]
            rw [hszC] at hnew
            skip
            rw [← hwA] at b1 b2 hnew a2 a3 a4
            exact Or.inl ⟨⟨8, nm, 0, [], [], [em]⟩, n6, _, unhide HE, rfl, b1, ⟨noOps, noOps, _, [_], rfl, World.ownsRow_nil _ _ _ _, (a4.alloc _).alloc _, hnew, ⟨(a3.alloc _).alloc _, trivial⟩⟩, a2.trans b2⟩
        · have hN6 := hfr6.keep hN5 (by omega)
          have HE := hide (Rt.set_a (unhide HS) (unhide HS2) (Rt.to_no (unhide HS5) hs6))
          have HFR := hide (hfrE.trans hfr6)
          obtain ⟨c0, c1, c2, c3, c4, c5, f0, f1, f2, f3, f4, f5⟩ := six hN6
          have hz := block_lt hN6
          clear hN6 hN5 hM5 hiv5 hr5 hfrE hfr6 hs6
          go_wp2_with fail
          refine bodyPost_ret (v := .tuple #[.agg zForm, .bool false]) ?_ rfl (Or.inr ⟨unhide HE, rfl, _, ((unhide HFR).set6 (N := w.heap.size) (Nat.le_refl _) _ _ _ _ _ _).alloc _⟩)
          simp [results, Tryz.results200, go_sem, c0, c1, c2, c3, c4, c5, hz]
      · have hN5 := hfr5.keep hN2 (by omega)
        have HE := hide (Rt.set_a (unhide HS) (unhide HS2) (Rt.to_none hs5))
        have HFR := hide (hfrC.trans hfr5)
        obtain ⟨c0, c1, c2, c3, c4, c5, f0, f1, f2, f3, f4, f5⟩ := six hN5
        clear hN5 hr5 hfr5 hs5 hr2 hN2 hM2 hivn hfrC
        go_wp2_with fail
        refine bodyPost_ret (v := .tuple #[.agg zForm, .bool false]) ?_ rfl (Or.inr ⟨unhide HE, rfl, _, (unhide HFR).set6 (Nat.le_refl _) _ _ _ _ _ _⟩)
        simp [results, Tryz.results200, go_sem, c0, c1, c2, c3, c4, c5]
  · obtain ⟨c0, c1, c2, c3, c4, c5, f0, f1, f2, f3, f4, f5⟩ := six (hfr1.keep hN0 (by omega))
    have HS := hide hs
    have HFR := hide (hfr0.trans hfr1)
    clear hr hr0 hfr0 hfr1 hs hN0
    go_wp2_with fail
    refine bodyPost_ret (v := .tuple #[.agg zForm, .bool false]) ?_ rfl (Or.inr ⟨by rw [Rt.pSet, unhide HS], rfl, _, (unhide HFR).set6 (Nat.le_refl _) _ _ _ _ _ _⟩)
    simp [results, Tryz.results200, go_sem, c0, c1, c2, c3, c4, c5]
end Go.Proofs.YthleadfkfnnadaaGreat
