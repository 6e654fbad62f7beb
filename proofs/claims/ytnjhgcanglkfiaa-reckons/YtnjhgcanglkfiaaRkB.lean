/- 'retracekeep.Reckons', walked. -/
import Derived.Test.YtnjhgcanglkfiaaCnB
import Derived.Test.YtnjhgcanglkfiaaMkS
namespace Go.Proofs.Ytnjhgcanglkfiaa
open Go.RowKit
attribute [local go_sem ↓] Go.wp_at_zero Go.wp_at_succ

theorem ktruth_any (b : Bool) (w : World) : Calls Try.prog 6 #[.bool b] w fun e w' => e = .returned (.int .i64 (Rt.truthI b)) ∧ w' = w := by
  cases b <;>
  · go_enter Try.func6, Try.ntmps6
    go_wp2_with fail
    go_ret
    exact ⟨rfl, rfl⟩
theorem rk_run (a b : Int) (iv : Value) (w : World) (hi : Ints w iv [a, b]) : Calls Try.prog 5 #[.string Rt.rkS, iv, .int .i64 (1000 : Nat)] w (RunP (Rt.rkSrc a b) 1000 w) :=
  run_known Rt.rkS Rt.rkP Rt.rkL Rt.rk_err Rt.rk_ln Rt.rk_pls Rt.rk_lk (by kernel_rfl) (of_decide_eq_true (by kernel_rfl)) (by kernel_rfl) iv [a, b] 1000 w (of_decide_eq_true (by kernel_rfl)) hi (by simp) (by omega)
theorem rk_zero' (a b : Int) (h : b = 0) : Rt.runM (Rt.rkSrc a b) 1000 (Rt.firstM (Rt.rkSrc a b)) = (⟨[Rt.noFm], [[], [a], [b], [], [], [], [], [], [], [], [], [], [], [], [], [], []], 2, Rt.rkOut a b, 13, 2⟩, 10) := by
  subst h
  exact Rt.rk_zero a
theorem beq_dec (a b : Int) : (a == b) = decide (a = b) := by
  by_cases h : a = b
  · simp [h]
  · simp [h]
def rkWant (a b : Int) : List Int := [wrap64 (a + b), wrap64 (a - b), wrap64 (a * b), Rt.truthI (decide (a < b)), Rt.truthI (a == b), wrap64 (-a), wrap64 (wrap64 (wrap64 (a - b) - wrap64 (a * b)) + wrap64 (wrap64 (a - wrap64 (b - a)) * 2))]
def rkWant2 (a b : Int) : List Int := [wrap64 (a + b), wrap64 (a - b), wrap64 (a * b), Rt.truthI (decide (a < b)), Rt.truthI (a == b), wrap64 (-a), wrap64 (wrap64 (wrap64 (a - b) - wrap64 (a * b)) + wrap64 (wrap64 (a - wrap64 (b - a)) * 2)), wrap64 (a.tdiv b), wrap64 (a.tmod b * 2), wrap64 (7 - wrap64 ((wrap64 (a.tdiv b)).tdiv 3))]
theorem ints_fresh (w : World) (l : List Int) (hl : l.length ≤ 1000) : (w.alloc (.cells (ints l).toArray 3)).ownsRow w.heap.size 3 1 (.slice (some ⟨w.heap.size, 0, none⟩) l.length l.length) l.length (ints l) :=
  ⟨by simp [ints], Or.inr ⟨w.heap.size, l.length, (ints l).toArray, rfl, Nat.le_refl _, heap_alloc_new w _, Nat.le_refl _, by unfold maxLen; omega, by simp [ints], List.take_of_length_le (by simp [ints])⟩⟩
theorem rk_new (w : World) (o1 o2 o3 : Obj) : (((w.alloc o1).alloc o2).alloc o3).drew.heap[w.heap.size + 2]? = some o3 := by
  show (((w.alloc o1).alloc o2).alloc o3).heap[w.heap.size + 2]? = some o3
  have := heap_alloc_new ((w.alloc o1).alloc o2) o3
  simpa using this
set_option maxHeartbeats 1000000 in
set_option maxRecDepth 100000 in
theorem Reckons_any (w : World) (a b : Int) :
    Calls Try.prog 3 #[.int .i64 a, .int .i64 b] w fun e w' => e = .returned (.bool true) ∧ Below w.heap.size w w' := by
  have hbA := (Below.refl w.heap.size w).alloc (Nat.le_refl _) (.cells #[.int .i64 a, .int .i64 b] 3)
  have hI : Ints (w.alloc (.cells #[.int .i64 a, .int .i64 b] 3)) (.slice (some ⟨w.heap.size, 0, none⟩) 2 2) [a, b] := by
    refine ⟨_, _, rfl, Or.inr ⟨_, _, rfl, fun j hj => ?_⟩⟩
    have hn := heap_alloc_new w (.cells #[.int .i64 a, .int .i64 b] 3)
    match j, hj with
    | 0, _ => exact cell_of_block hn 0 (by simp)
    | 1, _ => exact cell_of_block hn 1 (by simp)
  have hrun := rk_run a b _ _ hI
  clear hI
  by_cases h0 : b = 0
  · have HR : Calls Try.prog 5 #[.string Rt.rkS, .slice (some ⟨w.heap.size, 0, none⟩) 2 2, .int .i64 1000] (w.alloc (.cells #[.int .i64 a, .int .i64 b] 3)) fun e w' => Below w.heap.size w w' ∧ ∃ v, e = .returned (.tuple #[.agg #[.int .i64 2, .int .i64 10, v], .int .i64 0, .int .i64 0]) ∧ w'.ownsRow w.heap.size 3 1 v 7 (ints (Rt.rkOut a b)) := by
      refine hrun.mono ?_
      rintro e w' ⟨hb, v, he, ho⟩
      rw [rk_zero' a b h0] at he ho
      exact ⟨hbA.trans (hb.mono (by simp)), v, he, ownsRow_mono ho (by simp)⟩
    replace HR := hide HR
    have hb0 : (b == 0) = true := by simpa using h0
    have hlt : decide (a < b) = decide (a < b) := rfl
    clear hrun hbA h0 hlt
    go_enter Try.func3, Try.ntmps3
    go_wp2_with fail
    refine (unhide HR).mono ?_
    rintro e w1 ⟨hb1, v, rfl, ho⟩
    obtain ⟨oad, ocap, rfl⟩ := ownsRow_form ho
    have HO := hide (And.intro hb1 ho)
    clear hb1 ho HR
    go_wp2_with fail
    refine (ktruth_any _ _).mono ?_
    rintro e w2 ⟨rfl, rfl⟩
    go_wp2_with fail
    refine (ktruth_any _ _).mono ?_
    rintro e w3 ⟨rfl, rfl⟩
    go_wp2_with fail
    have HE := hide (show rkWant a b = Rt.rkOut a b by unfold rkWant Rt.rkOut; rw [beq_dec])
    obtain ⟨hb1, ho⟩ := unhide HO
    have hbR := (Below.refl w1.heap.size w1).alloc (Nat.le_refl _) (.cells #[.int .i64 2, .int .i64 10, .slice oad 7 ocap] 24)
    have hbW := (Below.refl (w1.heap.size + 1) (w1.alloc (.cells #[.int .i64 2, .int .i64 10, .slice oad 7 ocap] 24))).alloc (by simp) (.cells #[.int .i64 (wrap64 (a + b)), .int .i64 (wrap64 (a - b)), .int .i64 (wrap64 (a * b)), .int .i64 (Rt.truthI (decide (a < b))), .int .i64 (Rt.truthI (a == b)), .int .i64 (wrap64 (-a)), .int .i64 (wrap64 (wrap64 (wrap64 (a - b) - wrap64 (a * b)) + wrap64 (wrap64 (a - wrap64 (b - a)) * 2)))] 3)
    have hw := ints_fresh (w1.alloc (.cells #[.int .i64 2, .int .i64 10, .slice oad 7 ocap] 24)) (rkWant a b) (by simp [rkWant])
    rw [show (ints (rkWant a b)).toArray = #[.int .i64 (wrap64 (a + b)), .int .i64 (wrap64 (a - b)), .int .i64 (wrap64 (a * b)), .int .i64 (Rt.truthI (decide (a < b))), .int .i64 (Rt.truthI (a == b)), .int .i64 (wrap64 (-a)), .int .i64 (wrap64 (wrap64 (wrap64 (a - b) - wrap64 (a * b)) + wrap64 (wrap64 (a - wrap64 (b - a)) * 2)))] from rfl, show (rkWant a b).length = 7 from rfl, show (w1.alloc (.cells #[.int .i64 2, .int .i64 10, .slice oad 7 ocap] 24)).heap.size = w1.heap.size + 1 by simp] at hw
    have hbT := (hbR.mono (B' := w.heap.size) hb1.size)
    have hB := hb1.trans (hbT.trans (hbW.mono (by have := hb1.size; omega)))
    have ho2 := own_later (own_later ho hbR) (hbW.mono (by simp))
    refine (sameInts_keep _ w.heap.size (w1.heap.size + 1) _ _ (Rt.rkOut a b) (rkWant a b) ho2 hw (by simp [Rt.rkOut]) (by simp [rkWant])).mono ?_
    rintro e w4 ⟨rfl, hb4⟩
    rw [show decide (Rt.rkOut a b = rkWant a b) = true by rw [unhide HE]; simp]
    have bR := block_later (block_alloc (heap_alloc_new w1 (.cells #[.int .i64 2, .int .i64 10, .slice oad 7 ocap] 24)) (.cells #[.int .i64 (wrap64 (a + b)), .int .i64 (wrap64 (a - b)), .int .i64 (wrap64 (a * b)), .int .i64 (Rt.truthI (decide (a < b))), .int .i64 (Rt.truthI (a == b)), .int .i64 (wrap64 (-a)), .int .i64 (wrap64 (wrap64 (wrap64 (a - b) - wrap64 (a * b)) + wrap64 (wrap64 (a - wrap64 (b - a)) * 2)))] 3)) hb4
    obtain ⟨r0, r1, r2⟩ := three_cells bR
    have HF := hide (hB.trans (hb4.mono (by have := hB.size; exact this)))
    clear hb1 ho hbR hbW hw hbT hB ho2 hb4 bR HO
    go_wp2_with fail
    go_ret
    exact ⟨rfl, unhide HF⟩
  · have HR : Calls Try.prog 5 #[.string Rt.rkS, .slice (some ⟨w.heap.size, 0, none⟩) 2 2, .int .i64 1000] (w.alloc (.cells #[.int .i64 a, .int .i64 b] 3)) fun e w' => Below w.heap.size w w' ∧ ∃ v, e = .returned (.tuple #[.agg #[.int .i64 1, .int .i64 13, v], .int .i64 0, .int .i64 0]) ∧ w'.ownsRow w.heap.size 3 1 v 10 (ints (Rt.rkOut2 a b)) := by
      refine hrun.mono ?_
      rintro e w' ⟨hb, v, he, ho⟩
      rw [Rt.rk_nonzero a b h0] at he ho
      exact ⟨hbA.trans (hb.mono (by simp)), v, he, ownsRow_mono ho (by simp)⟩
    replace HR := hide HR
    have hb0 : (b == 0) = false := by simpa using h0
    obtain ⟨i0, hi0, hz0, hz1, hz2⟩ := info_parts Try.infoIntK
    clear hrun hbA
    go_enter Try.func3, Try.ntmps3
    go_wp2_with fail
    refine (unhide HR).mono ?_
    rintro e w1 ⟨hb1, v, rfl, ho⟩
    obtain ⟨oad, ocap, rfl⟩ := ownsRow_form ho
    have HO := hide (And.intro hb1 ho)
    clear hb1 ho HR
    go_wp2_with fail
    refine (ktruth_any _ _).mono ?_
    rintro e w2 ⟨rfl, rfl⟩
    go_wp2_with fail
    refine (ktruth_any _ _).mono ?_
    rintro e w3 ⟨rfl, rfl⟩
    go_wp2_with fail
    have hw := ints_fresh (w1.alloc (.cells #[.int .i64 1, .int .i64 13, .slice oad 10 ocap] 24)) (rkWant a b) (by simp [rkWant])
    rw [show (ints (rkWant a b)).toArray = #[.int .i64 (wrap64 (a + b)), .int .i64 (wrap64 (a - b)), .int .i64 (wrap64 (a * b)), .int .i64 (Rt.truthI (decide (a < b))), .int .i64 (Rt.truthI (a == b)), .int .i64 (wrap64 (-a)), .int .i64 (wrap64 (wrap64 (wrap64 (a - b) - wrap64 (a * b)) + wrap64 (wrap64 (a - wrap64 (b - a)) * 2)))] from rfl, show (rkWant a b).length = 7 from rfl, show (w1.alloc (.cells #[.int .i64 1, .int .i64 13, .slice oad 10 ocap] 24)).heap.size = w1.heap.size + 1 by simp] at hw
    have HW := hide hw
    clear hw
    go_region_held3 (fun _ => True) (trivial)
      ((refine step_append_lies _ (by rfl) _ _ _ (by rfl) (w1.heap.size + 1) 3 i0 _ 1 8 Try.underlying22 hi0 hz0 hz1 hz2 rfl (by omega) _ 7 (ints (rkWant a b)) (by rfl) (((unhide HW).alloc _).drew)
            ⟨w1.heap.size + 2, 0, none⟩ 3 3 [.int .i64 (IntKind.i64.wrap (a.tdiv b)), .int .i64 (IntKind.i64.wrap (a.tmod b * 2)), .int .i64 (IntKind.i64.wrap (7 - IntKind.i64.wrap ((IntKind.i64.wrap (a.tdiv b)).tdiv 3)))] (by rfl) (by rfl)
            (World.news_of_block (cs := #[.int .i64 (IntKind.i64.wrap (a.tdiv b)), .int .i64 (IntKind.i64.wrap (a.tmod b * 2)), .int .i64 (IntKind.i64.wrap (7 - IntKind.i64.wrap ((IntKind.i64.wrap (a.tdiv b)).tdiv 3)))]) (t := 3) (fr := (0, 0)) (rk_new w1 _ _ _)) (by simp [Value.oneCell'])
            (by omega) (by unfold maxLen; omega) (by omega) (by simp) (w1.heap.size + 3) (by simp) ?_; intro g cap w4 hown hgrow hat hlt))
    have hbR : Below (w1.alloc (.cells #[.int .i64 1, .int .i64 13, .slice oad 10 ocap] 24)).heap.size (w1.alloc (.cells #[.int .i64 1, .int .i64 13, .slice oad 10 ocap] 24)) w4 := Below.grown ((((Below.refl _ (w1.alloc (.cells #[.int .i64 1, .int .i64 13, .slice oad 10 ocap] 24))).alloc (Nat.le_refl _) _).alloc (by simp) _).drew) hgrow (by simp) (fun k hk => by simp [Value.ownBlock] at hk; simp; omega)
    have hw2 : w4.ownsRow (w1.heap.size + 1) 3 1 (.slice (some ⟨g, 0, none⟩) 10 cap) 10 (ints (rkWant2 a b)) := by
      simp only [IntWalk.i64_left] at hown
      exact hown
    obtain ⟨hb1, ho⟩ := unhide HO
    have hbA := (Below.refl w1.heap.size w1).alloc (Nat.le_refl _) (.cells #[.int .i64 1, .int .i64 13, .slice oad 10 ocap] 24)
    have hbW : Below w.heap.size w w4 := hb1.trans ((hbA.mono hb1.size).trans (hbR.mono (by have := hb1.size; simp; omega)))
    have ho2 := own_later (own_later ho hbA) hbR
    obtain ⟨r0, r1, r2⟩ := three_cells (block_later (heap_alloc_new w1 (.cells #[.int .i64 1, .int .i64 13, .slice oad 10 ocap] 24)) hbR)
    have HX := hide (And.intro hw2 (And.intro ho2 (And.intro hbW (block_later (heap_alloc_new w1 (.cells #[.int .i64 1, .int .i64 13, .slice oad 10 ocap] 24)) hbR))))
    have HE := hide (show rkWant2 a b = Rt.rkOut2 a b by unfold rkWant2 Rt.rkOut2; rw [beq_dec])
    clear hw2 ho2 hbW hbA hb1 ho hbR hown hgrow hat hlt HW HO
    go_wp2_with fail
    obtain ⟨hw2, ho2, hbW, bR⟩ := unhide HX
    refine (sameInts_keep _ w.heap.size (w1.heap.size + 1) _ _ (Rt.rkOut2 a b) (rkWant2 a b) ho2 hw2 (by simp [Rt.rkOut2]) (by simp [rkWant2])).mono ?_
    rintro e w5 ⟨rfl, hb5⟩
    rw [show decide (Rt.rkOut2 a b = rkWant2 a b) = true by rw [unhide HE]; simp]
    obtain ⟨q0, q1, q2⟩ := three_cells (block_later bR hb5)
    have HF := hide (hbW.trans (hb5.mono hbW.size))
    clear hw2 ho2 hbW hb5 bR r0 r1 r2 HX
    go_wp2_with fail
    go_ret
    exact ⟨rfl, unhide HF⟩
end Go.Proofs.Ytnjhgcanglkfiaa

