/- The walks of the readers of lines, continued: call. -/
import Derived.Test.YthleadfkfnnadaaGreatFormse
namespace Go.Proofs.YthleadfkfnnadaaGreat
open Go.RowKit
theorem ExprsR.map {w w' : World} {B : Nat} (h : ∀ x o, w.ownsRow B 236 3 x (List.length o) (popsCells o) → w'.ownsRow B 236 3 x (List.length o) (popsCells o)) : ∀ xs os, ExprsR w B xs os → ExprsR w' B xs os
  | [], [], _ => trivial
  | x :: xs, o :: os, ⟨h1, h2⟩ => ⟨h x o h1, ExprsR.map h xs os h2⟩
  | [], _ :: _, h => h.elim
  | _ :: _, [], h => h.elim
theorem ExprsR.snoc {w : World} {B : Nat} {x : Value} {o : List Pop} (h : w.ownsRow B 236 3 x o.length (popsCells o)) : ∀ xs os, ExprsR w B xs os → ExprsR w B (xs ++ [x]) (os ++ [o])
  | [], [], _ => ⟨h, trivial⟩
  | _ :: xs, _ :: os, ⟨h1, h2⟩ => ⟨h1, ExprsR.snoc h xs os h2⟩
  | [], _ :: _, h => h.elim
  | _ :: _, [], h => h.elim
theorem exprs_mono {w : World} {B B' : Nat} (hB : B' ≤ B) : ∀ xs os, ExprsR w B xs os → ExprsR w B' xs os
  | [], [], _ => trivial
  | _ :: xs, _ :: os, ⟨h1, h2⟩ => ⟨ownsRow_mono h1 hB, exprs_mono hB xs os h2⟩
  | [], _ :: _, h => h.elim
  | _ :: _, [], h => h.elim
theorem cell_one_new2 (w : World) (o : Obj) (x : Value) (t : TypeId) : ∀ j u, [x][j]? = some u → ((w.alloc o).alloc (.cells #[x] t)).cell? ((⟨w.heap.size + 1, 0, none⟩ : Addr).add j) = some u := by
  have h := cell_one_new (w.alloc o) x t
  simpa using h
theorem setIf6_5 (a b c d e f x : Value) : (#[a, b, c, d, e, f].setIfInBounds 5 x) = #[a, b, c, d, e, x] := rfl
theorem Tryz.infoExpr : (Tryz.prog.info? 140).map (fun i => (i.zero, i.size, i.bytes)) = some (some (.agg #[.slice none 0 0]), 1, 24) := by kernel_rfl
set_option maxHeartbeats 4000000 in
set_option maxRecDepth 100000 in
theorem call_any (w : World) (R : Nat) (tv : Value) (ts : List Rt.Tk) (n : Nat) (hr : RdS w R tv ts n noOps []) (hsm : ∀ t ∈ ts, t.text.size ≤ 40000) :
    Calls Tryz.prog 201 #[.pointer (some ⟨R, 0, none⟩)] w (LineP Rt.pCall R tv ts n w) := by
  have hlt : R < w.heap.size := World.block_lt_of_cell? w _ (cell_of_block hr.block 0 (by simp))
  obtain ⟨i0, hi, hz0, hz1, hz2⟩ := info_parts Tryz.infoExpr
  have hfew := hr.few
  have HSM := hide hsm
  clear hsm
  go_enter Tryz.func201, Tryz.ntmps201
  go_wp2_with fail
  obtain ⟨hr0, hfr0⟩ := hr.later ((Below.refl w.heap.size w).alloc (Nat.le_refl _) (.cells zForm 143))
  have hN0 : (w.alloc (.cells zForm 143)).heap[w.heap.size]? = some (.cells zForm 143 (0, 0)) := heap_alloc_new w _
  refine (name_any _ _ _ _ _ _ _ hr0).mono ?_
  rintro e w1 (⟨nm, hn, hs, rfl, hr1, hfr1⟩ | ⟨hs, rfl, hr1, hfr1⟩)
  · have hN := hfr1.keep hN0 (by omega)
    have hNlt := block_lt hN
    have hfrA := hfr0.trans hfr1
    have HS := hide hs
    have hrB := (hr1.later ((Below.refl w1.heap.size w1).alloc (Nat.le_refl _) (.cells #[.int .i64 12, .string nm, .int .i64 0, noOps, noOps, noOps] 143))).1
    have hfrB := hfrA.alloc (.cells #[.int .i64 12, .string nm, .int .i64 0, noOps, noOps, noOps] 143)
    have hNB := block_alloc hN (.cells #[.int .i64 12, .string nm, .int .i64 0, noOps, noOps, noOps] 143)
    have hMB := heap_alloc_new w1 (.cells #[.int .i64 12, .string nm, .int .i64 0, noOps, noOps, noOps] 143)
    clear hr hr0 hfr0 hfr1 hs hN0 hfrA hN hr1
    go_wp2_with fail
    refine (more' _ _ _ _ _ _ _ hrB).mono ?_
    rintro e w2 ⟨rfl, hr2, hfr2⟩
    have hN2 := hfr2.keep hNB (by omega)
    have hM2 := hfr2.keep hMB (by omega)
    have hfrC := hfrB.trans hfr2
    clear hfr2 hfrB hNB hMB hrB
    go_wp2_with fail
    go_loopg [7, 8, 9] (if n + 1 < ts.length then ts.length - (n + 1) + 1 else 0) (fun k wn _ _ wr => ∃ (b : Bool) (n2 f : Nat) (vv : Value) (vs : List Value) (acc : List (List Pop)), wn = .bool b ∧ k = (if b = true then ts.length - n2 + 1 else 0) ∧ n + 1 ≤ n2 ∧ n2 ≤ 24 ∧ acc.length + (n + 1) ≤ n2 ∧
      (b = true → ts.length - n2 < f ∧ Rt.pArgs f acc (ts.drop n2) = Rt.pArgsAll (ts.drop (n + 1))) ∧ (b = false → Rt.pArgsAll (ts.drop (n + 1)) = some (acc, ts.drop n2)) ∧
      RdS wr R tv ts n2 noOps [] ∧ RFr R noOps noOps w wr ∧ wr.heap[w.heap.size]? = some (.cells zForm 143 (0, 0)) ∧
      wr.heap[w1.heap.size]? = some (.cells #[.int .i64 12, .string nm, .int .i64 0, noOps, noOps, vv] 143 (0, 0)) ∧ wr.ownsRow (w1.heap.size + 1) 140 1 vv acc.length vs ∧ ExprsR wr (w1.heap.size + 1) vs acc)
    case atStart =>
      refine ⟨decide (n + 1 < ts.length), n + 1, 25, noOps, [], [], rfl, ?_, Nat.le_refl _, by have := hr2.le; omega, by simp, ?_, ?_, hr2, hfrC, hN2, hM2, World.ownsRow_nil _ _ _ _, trivial⟩
      · simp only [decide_eq_true_eq]
      · intro h
        simp at h
        refine ⟨by omega, ?_⟩
        rw [Rt.pArgsAll, if_neg (fun e => by rw [drop_at h] at e; cases e)]
      · intro h
        simp at h
        rw [Rt.pArgsAll, if_pos (drop_end (by omega))]
    case round =>
      clear hr2 hfrC hN2 hM2
      obtain ⟨b, n2, f, vv, vs, acc, rfl, hk, hn2, hn24, hacc, hTt, hTf, hr2, hfr2, hN2, hM2, hvv, hvs⟩ := hrel
      obtain ⟨ad, cap, rfl⟩ := ownsRow_form hvv
      cases b with
      | false =>
        have HE := hide (Rt.call_some (unhide HS) (hTf rfl))
        obtain ⟨c0, c1, c2, c3, c4, c5, f0, f1, f2, f3, f4, f5⟩ := six hN2
        have ⟨d0, d1, d2, d3, d4, d5, _, _, _, _, _, _⟩ := six hM2
        have HO := hide (ownsRow_mono (b' := w.heap.size) (own_set6 (N := w.heap.size) hvv (fun g hg => by have := (hvv.lt g hg).1; omega) (.int .i64 12) (.string nm) (.int .i64 0) noOps noOps (.slice ad acc.length cap)) (by omega))
        have HV : Hid (ExprsR (W6 wr w.heap.size (.int .i64 12) (.string nm) (.int .i64 0) noOps noOps (.slice ad acc.length cap)) w.heap.size vs acc) := by
          refine hide ?_
          have hx : ∀ x o, wr.ownsRow (w1.heap.size + 1) 236 3 x (List.length o) (popsCells o) → (W6 wr w.heap.size (.int .i64 12) (.string nm) (.int .i64 0) noOps noOps (.slice ad acc.length cap)).ownsRow (w1.heap.size + 1) 236 3 x (List.length o) (popsCells o) := fun x o h => own_set6 h (fun g hg => by have := (h.lt g hg).1; omega) _ _ _ _ _ _
          have h2 := ExprsR.map hx _ _ hvs
          clear hx
          exact exprs_mono (by omega) _ _ h2
        have HR := hide hr2
        have HFR := hide hfr2
        clear hk hTt hTf hr2 hfr2 hN2 hM2 hvv hvs
        go_wp2_with fail
        refine bodyPost_ret (v := .tuple #[.agg #[.int .i64 12, .string nm, .int .i64 0, noOps, noOps, .slice ad acc.length cap], .bool true]) ?_ rfl
          (Or.inl ⟨⟨12, nm, 0, [], [], acc⟩, n2, _, unhide HE, rfl, (unhide HR).set6 hlt _ _ _ _ _ _, ⟨noOps, noOps, _, vs, rfl, World.ownsRow_nil _ _ _ _, World.ownsRow_nil _ _ _ _, unhide HO, unhide HV⟩, (unhide HFR).set6 (Nat.le_refl _) _ _ _ _ _ _⟩)
        simp [results, Tryz.results201, go_sem, c0, c1, c2, c3, c4, c5]
      | true =>
        obtain ⟨hf, hT⟩ := hTt rfl
        obtain ⟨f, rfl⟩ : ∃ f', f = f' + 1 := ⟨f - 1, by omega⟩
        have HT := hide hT
        have HK := hide hk
        clear hTt hTf hT hk
        go_wp2_with fail
        refine (expression_any _ _ _ _ _ hr2 (unhide HSM)).mono ?_
        rintro e w3 (⟨em, n3, xv, hs3, rfl, hn3, hem, hr3, hxv, hfr3⟩ | ⟨hs3, rfl, ov3, hfr3⟩)
        · obtain ⟨adx, capx, rfl⟩ := ownsRow_form hxv
          have hMlt2 := block_lt hM2
          have hN3 := hfr3.keep hN2 (by omega)
          have hM3 := hfr3.keep hM2 (by omega)
          have hvv3 := hfr3.keepRow hvv (by omega)
          have hvs3 := ExprsR.map (w' := w3) (fun x o h => hfr3.keepRow h (by omega)) _ _ hvs
          have hfr4 := hfr2.trans hfr3
          have hxv3 := ownsRow_mono (b' := w1.heap.size + 1) hxv (by omega)
          have hle3 := hr3.le
          have HS3 := hide hs3
          clear hr2 hfr2 hN2 hM2 hvv hvs hxv hfr3 hs3
          -- behind the new variable for the expression
          have hN4 := block_alloc hN3 (.cells #[.slice adx em.length capx] 140)
          have hM4 := block_alloc hM3 (.cells #[.slice adx em.length capx] 140)
          have hMlt := block_lt hM3
          have hvv4 := hvv3.alloc (.cells #[.slice adx em.length capx] 140)
          have hvs4 := ExprsR.map (w' := w3.alloc (.cells #[.slice adx em.length capx] 140)) (fun x o h => h.alloc _) _ _ hvs3
          have hxv4 := hxv3.alloc (.cells #[.slice adx em.length capx] 140)
          have hr4 := (hr3.later ((Below.refl w3.heap.size w3).alloc (Nat.le_refl _) (.cells #[.slice adx em.length capx] 140))).1
          have hfr5 := hfr4.alloc (.cells #[.slice adx em.length capx] 140)
          have ⟨_, _, _, _, _, d5, _, _, _, _, _, g5⟩ := six hM3
          clear hr3 hfr4 hN3 hM3 hvv3 hvs3 hxv3
          go_wp2_with (at_builtin; refine wpList_append_own _ rfl (.tmp 32) (.tmp 34) 141 rfl (w1.heap.size + 1) 140 i0 _ 1 24 Tryz.underlying141 hi hz0 hz1 hz2 rfl (by decide) _ _ _ rfl (hvv4.alloc _) ⟨_, 0, none⟩ 1 1 [.slice adx em.length capx] rfl rfl (cell_one_new2 _ _ _ _) ?c2 ?c3 ?c4 ?c5 ?_)
          case c2 => intro u hu; simp at hu; rcases hu with rfl; rfl
          case c3 => unfold maxLen; omega
          case c4 => omega
          case c5 => simp; omega
          intro v' w5 hown5 hgrow _
          have hrow : ∀ k, (Value.slice ad acc.length cap).ownBlock = some k → w1.heap.size < k := fun k hk => by have := (hvv4.lt k hk).1; omega
          have hM5 := grown_keep hgrow hM4 (fun h => by have := hrow _ h; omega)
          have hN5 := grown_keep hgrow hN4 (fun h => by have := hrow _ h; omega)
          have hr5 := hr4.kept (grown_low hgrow (by simp; omega) (fun k hk => by have := hrow k hk; omega))
          have hfr6 := hfr5.grown hgrow (fun k hk => by have := hrow k hk; omega)
          have hvs5 := ExprsR.map (w' := w5) (fun x o h => own_grown h hgrow (own_ne h hvv4 (by decide))) _ _ hvs4
          have hxv5 := own_grown hxv4 hgrow (own_ne hxv4 hvv4 (by decide))
          obtain ⟨ad5, cap5, rfl⟩ := ownsRow_form hown5
          have ⟨_, _, _, _, _, e5, _, _, _, _, _, k5⟩ := six hM5
          have hM6 := set_block hM5 5 (Value.slice ad5 (acc.length + 1) cap5)
          rw [setIf6_5] at hM6
          have hN6 := set_other hN5 (M := w1.heap.size) (by omega) 5 (Value.slice ad5 (acc.length + 1) cap5)
          have hr6 := hr5.setOther (N := w1.heap.size) (i := 5) (by omega) (by intro g h; cases h) (Value.slice ad5 (acc.length + 1) cap5)
          have hfr7 := hfr6.setNew (N := w1.heap.size) (i := 5) (by omega) (Value.slice ad5 (acc.length + 1) cap5)
          have hown6 := ownsRow_setCell_ne hown5 (a := ⟨w1.heap.size, 5, none⟩) (fun g hg => by have := (hown5.lt g hg).1; show g ≠ w1.heap.size; omega) (Value.slice ad5 (acc.length + 1) cap5)
          have hvs6 := ExprsR.map (w' := w5.setCell ⟨w1.heap.size, 5, none⟩ (Value.slice ad5 (acc.length + 1) cap5)) (fun x o h => ownsRow_setCell_ne h (fun g hg => by have := (h.lt g hg).1; show g ≠ w1.heap.size; omega) _) _ _ (ExprsR.snoc hxv5 _ _ hvs5)
          clear hM5 hN5 hr5 hfr6 hown5 hgrow hr4 hfr5 hM4 hN4 hvv4 hrow hvs5 hxv5 hvs4 hxv4
          go_wp2_with fail
          refine (take_any _ _ _ _ _ _ _ _ hr6).mono ?_
          rintro e w7 (⟨hs7, rfl, hr7, hfr8⟩ | ⟨hs7, rfl, hr7, hfr8⟩)
          · have HT2 := hide ((Rt.args_next (f := f) (acc := acc) (unhide HS3) hs7).symm.trans (unhide HT))
            have HH := hide (And.intro (hfr8.keep hN6 (by omega)) (And.intro (hfr8.keep hM6 (by omega)) (And.intro hr7 (And.intro (hfr7.trans hfr8) (And.intro (hfr8.keepRow hown6 (by omega)) (ExprsR.map (w' := w7) (fun x o h => hfr8.keepRow h (by omega)) _ _ hvs6))))))
            have hle7 := hr7.le
            clear hr7 hfr8 hN6 hM6 hr6 hfr7 hown6 hvs6 hs7
            go_wp2_with fail
            go_roundg (ts.length - (n3 + 1) + 1)
            case measure => have := unhide HK; simp at this; omega
            case rel =>
              obtain ⟨q1, q2, q3, q4, q5, q6⟩ := unhide HH
              exact ⟨true, n3 + 1, f, _, _, acc ++ [em], rfl, by simp, by omega, by omega, by simp; omega, fun _ => ⟨by omega, unhide HT2⟩, (fun h => by cases h), q3, q4, q1, q2, by simpa using q5, q6⟩
          · have HT2 := hide ((unhide HT).symm.trans (Rt.args_stop (f := f) (acc := acc) (unhide HS3) hs7))
            have HH := hide (And.intro (hfr8.keep hN6 (by omega)) (And.intro (hfr8.keep hM6 (by omega)) (And.intro hr7 (And.intro (hfr7.trans hfr8) (And.intro (hfr8.keepRow hown6 (by omega)) (ExprsR.map (w' := w7) (fun x o h => hfr8.keepRow h (by omega)) _ _ hvs6))))))
            clear hr7 hfr8 hN6 hM6 hr6 hfr7 hown6 hvs6 hs7
            go_wp2_with fail
            go_roundg 0
            case measure => have := unhide HK; simp at this; omega
            case rel =>
              obtain ⟨q1, q2, q3, q4, q5, q6⟩ := unhide HH
              exact ⟨false, n3, f, _, _, acc ++ [em], rfl, by simp, by omega, by omega, by simp; omega, (fun h => by cases h), fun _ => unhide HT2, q3, q4, q1, q2, by simpa using q5, q6⟩
        · have hN3 := hfr3.keep hN2 (by omega)
          have HE := hide (Rt.call_none (unhide HS) ((unhide HT).symm.trans (Rt.args_none hs3)))
          have HFR := hide (hfr2.trans hfr3)
          obtain ⟨c0, c1, c2, c3, c4, c5, f0, f1, f2, f3, f4, f5⟩ := six hN3
          have hz := block_lt hN3
          clear hN3 hfr3 hs3 hr2 hfr2 hN2 hM2 hvv hvs
          go_wp2_with fail
          refine bodyPost_ret (v := .tuple #[.agg zForm, .bool false]) ?_ rfl (Or.inr ⟨unhide HE, rfl, _, ((unhide HFR).set6 (N := w.heap.size) (Nat.le_refl _) _ _ _ _ _ _).alloc _⟩)
          simp [results, Tryz.results201, go_sem, c0, c1, c2, c3, c4, c5, hz]
  · obtain ⟨c0, c1, c2, c3, c4, c5, f0, f1, f2, f3, f4, f5⟩ := six (hfr1.keep hN0 (by omega))
    have HS := hide hs
    have HFR := hide (hfr0.trans hfr1)
    clear hr hr0 hfr0 hfr1 hs hN0
    go_wp2_with fail
    refine bodyPost_ret (v := .tuple #[.agg zForm, .bool false]) ?_ rfl (Or.inr ⟨by rw [Rt.pCall, unhide HS], rfl, _, (unhide HFR).set6 (Nat.le_refl _) _ _ _ _ _ _⟩)
    simp [results, Tryz.results201, go_sem, c0, c1, c2, c3, c4, c5]
end Go.Proofs.YthleadfkfnnadaaGreat
