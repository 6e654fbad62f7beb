/- 'retracekeep.Undone' returns true for all numbers, and they read as they did: the row. -/
import Derived.Test.YtbpajiljfppjcaaGreatDoorLkC
import Derived.Test.YtbpajiljfppjcaaGreatDoorBdA
import Derived.Test.YtbpajiljfppjcaaGreatDoorSsD
namespace Go.Proofs.YtbpajiljfppjcaaGreatDoor
open Go.RowKit
attribute [local go_sem ↓] Go.wp_at_zero Go.wp_at_succ

theorem outView : OutTy 56 := by unfold OutTy PTy; decide
theorem outReply : OutTy 36 := by unfold OutTy PTy; decide
set_option maxHeartbeats 4000000 in
set_option maxRecDepth 100000 in
theorem undone_any (w : World) (P B : Nat) (S : Rt.Src) (cap : Int) (n low : Nat) (mk : List Bool) (X : McX) (jv : Value) (h : Sess w P B S cap n low mk X jv) (hc : Cst S cap mk) (hn : n + 2000 ≤ 4611686018427386000) :
    Calls Tryz.prog 27 #[.pointer (some ⟨P, 0, none⟩)] w fun e w' => e = .returned (.bool true) ∧ ∃ n' low' X' jv', SAft P B S cap X X' jv jv' (Rt.seAt S n' low' mk) w w' ∧ Rt.SeOk S cap n' low' ∧ n' ≤ n + 1 := by
  have HI0 := hide (UnI.start h)
  have HC := hide hc
  clear h hc
  go_enter Tryz.func27, Tryz.ntmps27
  go_wp2_with fail
  have hkk := (unhide HI0).ok
  have hlf := Rt.lowF_le (unhide HC).plc.call (unhide HC).lo hkk.le
  have hlf0 := Rt.lowF_ge S cap n low
  have hpart := Rt.recsOf_part S hlf0 hlf
  have hsame : Rt.lowF S cap n low = low → (Rt.recsOf S (Rt.lowF S cap n low) (n - Rt.lowF S cap n low)).length = (Rt.recsOf S low (n - low)).length := fun e => by rw [e]
  have HP := hide (And.intro hlf (And.intro hlf0 (And.intro hpart hsame)))
  clear hkk hlf hlf0 hpart hsame
  refine ((unhide HI0).sess.look (unhide HC)).mono ?_
  rintro e w1 ⟨hb, va, vc, vo, rfl, hv⟩
  obtain ⟨aa1, ac1, aa2, ac2, aa3, ac3, rfl, rfl, rfl⟩ := hv.forms
  have HI1 := hide (((unhide HI0).later hb).view hv)
  clear hb hv HI0
  generalize (Rt.valuesL S (Rt.atM S n)).length = ay1 at *
  generalize (Rt.callsL (Rt.atM S n)).length = ay2 at *
  generalize (Rt.atM S n).output.length = ay3 at *
  have HV1 := hide (show vwA S n (.slice aa1 ay1 ac1) (.slice aa2 ay2 ac2) (.slice aa3 ay3 ac3) = #[.int .i64 0, .int .i64 0, .int .i64 (Rt.atM S n).fin, .int .i64 (Rt.atM S n).line, .int .i64 ((Rt.atM S n).frames.length : Int), .int .i64 (n : Int), .slice aa1 ay1 ac1, .slice aa2 ay2 ac2, .slice aa3 ay3 ac3] from rfl)
  rw [unhide HV1]
  by_cases hz : (Rt.atM S n).fin = 0
  · have HZ := hide hz
    rw [hz] at HV1 ⊢
    clear hz
    have HVz := HV1
    obtain ⟨l1, hl1⟩ : ∃ l, l = (Rt.atM S n).line := ⟨_, rfl⟩
    obtain ⟨d1, hd1⟩ : ∃ d : Int, d = ((Rt.atM S n).frames.length : Int) := ⟨_, rfl⟩
    rw [← hl1, ← hd1] at HV1 ⊢
    clear hl1 hd1 HVz
    go_wp2_with fail
    have hq := hide ((unhide HI1).alloc #[.int .i64 0, .int .i64 0, .int .i64 0, .int .i64 l1, .int .i64 d1, .int .i64 (n : Int), .slice aa1 ay1 ac1, .slice aa2 ay2 ac2, .slice aa3 ay3 ac3] 56 outView)
    clear HI1
    obtain ⟨A1, hA1⟩ : ∃ A, A = w1.heap.size := ⟨_, rfl⟩
    rw [← hA1] at hq ⊢
    revert hq
    generalize w1.alloc (.cells #[.int .i64 0, .int .i64 0, .int .i64 0, .int .i64 l1, .int .i64 d1, .int .i64 (n : Int), .slice aa1 ay1 ac1, .slice aa2 ay2 ac2, .slice aa3 ay3 ac3] 56) = wa
    intro HI2
    clear hA1
    refine ((unhide HI2).sess.held).mono ?_
    rintro e w2 ⟨rfl, rfl⟩
    obtain ⟨ct, hct⟩ : ∃ c, c = (Rt.recsOf S low (n - low)).length := ⟨_, rfl⟩
    rw [← hct] at HP ⊢
    clear hct
    go_wp2_with fail
    refine ((unhide HI2).sess.fwd1 (unhide HC) (unhide HZ) (by omega)).mono ?_
    rintro e w3 ⟨rfl, X1, jv1, hA, hok⟩
    have HI3 := hide ((unhide HI2).move hA hok)
    clear hA hok HI2
    unfold replyN
    generalize Rt.stepWhy S (n + 1) = rs1 at *
    obtain ⟨f2, hf2⟩ : ∃ f, f = (Rt.atM S (n + 1)).fin := ⟨_, rfl⟩
    obtain ⟨l2, hl2⟩ : ∃ f, f = (Rt.atM S (n + 1)).line := ⟨_, rfl⟩
    obtain ⟨d2, hd2⟩ : ∃ f : Int, f = ((Rt.atM S (n + 1)).frames.length : Int) := ⟨_, rfl⟩
    rw [← hf2, ← hl2, ← hd2]
    clear hf2 hl2 hd2
    go_wp2_with fail
    have hq := hide ((unhide HI3).alloc #[.int .i64 rs1, .int .i64 1, .int .i64 f2, .int .i64 l2, .int .i64 d2, .int .i64 ((n : Int) + 1)] 36 outReply)
    clear HI3
    obtain ⟨R, hR⟩ : ∃ A, A = w3.heap.size := ⟨_, rfl⟩
    rw [← hR] at hq ⊢
    revert hq
    generalize w3.alloc (.cells #[.int .i64 rs1, .int .i64 1, .int .i64 f2, .int .i64 l2, .int .i64 d2, .int .i64 ((n : Int) + 1)] 36) = wb
    intro HI4
    clear hR
    refine ((unhide HI4).sess.look (unhide HC)).mono ?_
    rintro e w4 ⟨hb, va, vc, vo, rfl, hv⟩
    obtain ⟨ba1, bc1, ba2, bc2, ba3, bc3, rfl, rfl, rfl⟩ := hv.forms
    have HI5 := hide (((unhide HI4).later hb).view hv)
    clear hb hv HI4
    generalize (Rt.valuesL S (Rt.atM S (n + 1))).length = by1 at *
    generalize (Rt.callsL (Rt.atM S (n + 1))).length = by2 at *
    generalize (Rt.atM S (n + 1)).output.length = by3 at *
    have HV2 := hide (show vwA S (n + 1) (.slice ba1 by1 bc1) (.slice ba2 by2 bc2) (.slice ba3 by3 bc3) = #[.int .i64 0, .int .i64 0, .int .i64 (Rt.atM S (n + 1)).fin, .int .i64 (Rt.atM S (n + 1)).line, .int .i64 ((Rt.atM S (n + 1)).frames.length : Int), .int .i64 ((n : Int) + 1), .slice ba1 by1 bc1, .slice ba2 by2 bc2, .slice ba3 by3 bc3] from rfl)
    rw [unhide HV2]
    generalize (Rt.atM S (n + 1)).fin = f3 at *
    generalize (Rt.atM S (n + 1)).line = l3 at *
    generalize ((Rt.atM S (n + 1)).frames.length : Int) = d3 at *
    go_wp2_with fail
    have hq := hide ((unhide HI5).alloc #[.int .i64 0, .int .i64 0, .int .i64 f3, .int .i64 l3, .int .i64 d3, .int .i64 ((n : Int) + 1), .slice ba1 by1 bc1, .slice ba2 by2 bc2, .slice ba3 by3 bc3] 56 outView)
    clear HI5
    obtain ⟨A2, hA2⟩ : ∃ A, A = w4.heap.size := ⟨_, rfl⟩
    rw [← hA2] at hq ⊢
    revert hq
    generalize w4.alloc (.cells #[.int .i64 0, .int .i64 0, .int .i64 f3, .int .i64 l3, .int .i64 d3, .int .i64 ((n : Int) + 1), .slice ba1 by1 bc1, .slice ba2 by2 bc2, .slice ba3 by3 bc3] 56) = wc
    intro HI6
    clear hA2
    obtain ⟨lf, hlfE⟩ : ∃ l, l = Rt.lowF S cap n low := ⟨_, rfl⟩
    rw [← hlfE] at HP HI6
    clear hlfE
    refine ((unhide HI6).sess.bwd1 (unhide HC) (by omega) (by have := (unhide HP).1; omega) (by omega)).mono ?_
    rw [Nat.add_sub_cancel]
    rintro e w5 ⟨rfl, X2, jv2, hA, hok⟩
    have HI7 := hide ((unhide HI6).move hA hok)
    clear hA hok HI6
    unfold replyN
    obtain ⟨f4, hf4⟩ : ∃ f, f = (Rt.atM S n).fin := ⟨_, rfl⟩
    obtain ⟨l4, hl4⟩ : ∃ f, f = (Rt.atM S n).line := ⟨_, rfl⟩
    obtain ⟨d4, hd4⟩ : ∃ f : Int, f = ((Rt.atM S n).frames.length : Int) := ⟨_, rfl⟩
    rw [← hf4, ← hl4, ← hd4]
    clear hf4 hl4 hd4
    go_wp2_with fail
    have hq := hide ((unhide HI7).alloc #[.int .i64 1, .int .i64 1, .int .i64 f4, .int .i64 l4, .int .i64 d4, .int .i64 (n : Int)] 36 outReply)
    clear HI7
    obtain ⟨Q, hQ⟩ : ∃ A, A = w5.heap.size := ⟨_, rfl⟩
    rw [← hQ] at hq ⊢
    revert hq
    generalize w5.alloc (.cells #[.int .i64 1, .int .i64 1, .int .i64 f4, .int .i64 l4, .int .i64 d4, .int .i64 (n : Int)] 36) = wd
    intro HI8
    clear hQ
    refine ((unhide HI8).sess.look (unhide HC)).mono ?_
    rintro e w6 ⟨hb, va, vc, vo, rfl, hv⟩
    obtain ⟨ca1, cc1, ca2, cc2, ca3, cc3, rfl, rfl, rfl⟩ := hv.forms
    have HI9 := hide (((unhide HI8).later hb).view hv)
    clear hb hv HI8
    generalize (Rt.valuesL S (Rt.atM S n)).length = cy1 at *
    generalize (Rt.callsL (Rt.atM S n)).length = cy2 at *
    generalize (Rt.atM S n).output.length = cy3 at *
    have HV3 := hide (show vwA S n (.slice ca1 cy1 cc1) (.slice ca2 cy2 cc2) (.slice ca3 cy3 cc3) = #[.int .i64 0, .int .i64 0, .int .i64 (Rt.atM S n).fin, .int .i64 (Rt.atM S n).line, .int .i64 ((Rt.atM S n).frames.length : Int), .int .i64 (n : Int), .slice ca1 cy1 cc1, .slice ca2 cy2 cc2, .slice ca3 cy3 cc3] from rfl)
    rw [unhide HV3]
    have ezz := unhide HZ
    rw [ezz] at HV3 ⊢
    clear ezz
    generalize (Rt.atM S n).line = l5 at *
    generalize ((Rt.atM S n).frames.length : Int) = d5 at *
    have HA1 := (unhide HI9).bls (A1, #[.int .i64 0, .int .i64 0, .int .i64 0, .int .i64 l1, .int .i64 d1, .int .i64 (n : Int), .slice aa1 ay1 ac1, .slice aa2 ay2 ac2, .slice aa3 ay3 ac3], 56) (by simp)
    obtain ⟨x0, x1, x2, x3, x4, x5, x6, x7, x8, xz⟩ := nine_any HA1.1
    have hA1w := block_lt HA1.1
    clear HA1
    go_wp2_with fail
    have hq := hide ((unhide HI9).alloc #[.int .i64 0, .int .i64 0, .int .i64 0, .int .i64 l5, .int .i64 d5, .int .i64 (n : Int), .slice ca1 cy1 cc1, .slice ca2 cy2 cc2, .slice ca3 cy3 cc3] 56 outView)
    clear HI9
    obtain ⟨A3, hA3⟩ : ∃ A, A = w6.heap.size := ⟨_, rfl⟩
    rw [← hA3] at hq ⊢
    revert hq
    generalize w6.alloc (.cells #[.int .i64 0, .int .i64 0, .int .i64 0, .int .i64 l5, .int .i64 d5, .int .i64 (n : Int), .slice ca1 cy1 cc1, .slice ca2 cy2 cc2, .slice ca3 cy3 cc3] 56) = we
    intro HIa
    clear hA3
    have hsv := views_same ((unhide HIa).vws (n, .slice aa1 ay1 ac1, .slice aa2 ay2 ac2, .slice aa3 ay3 ac3) (by simp)) ((unhide HIa).vws (n, .slice ca1 cy1 cc1, .slice ca2 cy2 cc2, .slice ca3 cy3 cc3) (by simp)) (unhide HC).plc
    rw [unhide HV1, unhide HV3] at hsv
    refine hsv.mono ?_
    rintro e w7 ⟨rfl, hb7⟩
    have HIb := hide ((unhide HIa).later hb7)
    clear hsv hb7 HIa x0 x1 x2 x3 x4 x5 x6 x7 x8 xz hA1w
    go_wp2_with fail
    refine ((unhide HIb).sess.held).mono ?_
    rintro e w8 ⟨rfl, rfl⟩
    obtain ⟨ct2, hct⟩ : ∃ c, c = (Rt.recsOf S lf (n - lf)).length := ⟨_, rfl⟩
    rw [← hct] at HP ⊢
    clear hct
    have p1 : ¬ (lf : Int) < (low : Int) := by have := (unhide HP).2.1; omega
    have p2 : ¬ (ct : Int) < (ct2 : Int) := by have := (unhide HP).2.2.1; omega
    have HIc : Hid (UnI w w8 P B S cap mk X jv n lf X2 jv2 ((R, #[.int .i64 rs1, .int .i64 1, .int .i64 f2, .int .i64 l2, .int .i64 d2, .int .i64 ((n : Int) + 1)], 36) :: [(A2, #[.int .i64 0, .int .i64 0, .int .i64 f3, .int .i64 l3, .int .i64 d3, .int .i64 ((n : Int) + 1), .slice ba1 by1 bc1, .slice ba2 by2 bc2, .slice ba3 by3 bc3], 56)]) [(n + 1, .slice ba1 by1 bc1, .slice ba2 by2 bc2, .slice ba3 by3 bc3)]) := hide ((unhide HIb).fewer (fun b hb => by simp at hb ⊢; rcases hb with rfl | rfl <;> simp) (fun v hv => by simp at hv ⊢; simp [hv]))
    clear HIb
    by_cases hl : lf = low
    · have p3 : ((lf : Int) == (low : Int)) = true := by rw [beq_iff_eq, hl]
      have p4 : ((ct2 : Int) != (ct : Int)) = false := by
        have := (unhide HP).2.2.2 hl
        simp [this]
      clear hl HP
      go_wp2_with fail
      refine ((unhide HIc).sess.fwd1 (unhide HC) (unhide HZ) (by omega)).mono ?_
      rintro e w9 ⟨rfl, X3, jv3, hA, hok⟩
      have HId := hide ((unhide HIc).move hA hok)
      clear hA hok HIc
      unfold replyN
      generalize Rt.stepWhy S (n + 1) = rs2 at *
      obtain ⟨f6, hf6⟩ : ∃ f, f = (Rt.atM S (n + 1)).fin := ⟨_, rfl⟩
      obtain ⟨l6, hl6⟩ : ∃ f, f = (Rt.atM S (n + 1)).line := ⟨_, rfl⟩
      obtain ⟨d6, hd6⟩ : ∃ f : Int, f = ((Rt.atM S (n + 1)).frames.length : Int) := ⟨_, rfl⟩
      rw [← hf6, ← hl6, ← hd6]
      clear hf6 hl6 hd6
      have hR := (unhide HId).bls (R, #[.int .i64 rs1, .int .i64 1, .int .i64 f2, .int .i64 l2, .int .i64 d2, .int .i64 ((n : Int) + 1)], 36) (by simp)
      have hA2b := (unhide HId).bls (A2, #[.int .i64 0, .int .i64 0, .int .i64 f3, .int .i64 l3, .int .i64 d3, .int .i64 ((n : Int) + 1), .slice ba1 by1 bc1, .slice ba2 by2 bc2, .slice ba3 by3 bc3], 56) (by simp)
      obtain ⟨x0, x1, x2, x3, x4, x5, xz⟩ := six_any hR.1
      have hRA : A2 ≠ R := fun e => by
        have h1 := hR.1
        have h2 := hA2b.1
        simp only at h1 h2
        rw [e, h1] at h2
        injection h2 with h2
        injection h2 with _ h2
        exact absurd h2 (by decide)
      have hq := hide ((unhide HId).set6 (by simpa using hRA) (.int .i64 rs2) (.int .i64 1) (.int .i64 f6) (.int .i64 l6) (.int .i64 d6) (.int .i64 ((n : Int) + 1)))
      have hRw := block_lt hR.1
      clear hR hA2b HId hRA
      go_wp2_with fail
      revert hq
      unfold W6
      generalize ((((((w9.setCell ⟨R, 0, none⟩ (.int .i64 rs2)).setCell ⟨R, 1, none⟩ (.int .i64 1)).setCell ⟨R, 2, none⟩ (.int .i64 f6)).setCell ⟨R, 3, none⟩ (.int .i64 l6)).setCell ⟨R, 4, none⟩ (.int .i64 d6)).setCell ⟨R, 5, none⟩ (.int .i64 ((n : Int) + 1))) = wf
      intro HIe
      clear x0 x1 x2 x3 x4 x5 xz hRw
      refine ((unhide HIe).sess.look (unhide HC)).mono ?_
      rintro e w10 ⟨hb, va, vc, vo, rfl, hv⟩
      obtain ⟨da1, dc1, da2, dc2, da3, dc3, rfl, rfl, rfl⟩ := hv.forms
      have HIf := hide (((unhide HIe).later hb).view hv)
      clear hb hv HIe
      generalize (Rt.valuesL S (Rt.atM S (n + 1))).length = dy1 at *
      generalize (Rt.callsL (Rt.atM S (n + 1))).length = dy2 at *
      generalize (Rt.atM S (n + 1)).output.length = dy3 at *
      have HV4 := hide (show vwA S (n + 1) (.slice da1 dy1 dc1) (.slice da2 dy2 dc2) (.slice da3 dy3 dc3) = #[.int .i64 0, .int .i64 0, .int .i64 (Rt.atM S (n + 1)).fin, .int .i64 (Rt.atM S (n + 1)).line, .int .i64 ((Rt.atM S (n + 1)).frames.length : Int), .int .i64 ((n : Int) + 1), .slice da1 dy1 dc1, .slice da2 dy2 dc2, .slice da3 dy3 dc3] from rfl)
      rw [unhide HV4]
      generalize (Rt.atM S (n + 1)).fin = f7 at *
      generalize (Rt.atM S (n + 1)).line = l7 at *
      generalize ((Rt.atM S (n + 1)).frames.length : Int) = d7 at *
      have HA2 := (unhide HIf).bls (A2, #[.int .i64 0, .int .i64 0, .int .i64 f3, .int .i64 l3, .int .i64 d3, .int .i64 ((n : Int) + 1), .slice ba1 by1 bc1, .slice ba2 by2 bc2, .slice ba3 by3 bc3], 56) (by simp)
      obtain ⟨x0, x1, x2, x3, x4, x5, x6, x7, x8, xz⟩ := nine_any HA2.1
      have hA2w := block_lt HA2.1
      clear HA2
      go_wp2_with fail
      have hq := hide ((unhide HIf).alloc #[.int .i64 0, .int .i64 0, .int .i64 f7, .int .i64 l7, .int .i64 d7, .int .i64 ((n : Int) + 1), .slice da1 dy1 dc1, .slice da2 dy2 dc2, .slice da3 dy3 dc3] 56 outView)
      clear HIf
      obtain ⟨A4, hA4⟩ : ∃ A, A = w10.heap.size := ⟨_, rfl⟩
      rw [← hA4] at hq ⊢
      revert hq
      generalize w10.alloc (.cells #[.int .i64 0, .int .i64 0, .int .i64 f7, .int .i64 l7, .int .i64 d7, .int .i64 ((n : Int) + 1), .slice da1 dy1 dc1, .slice da2 dy2 dc2, .slice da3 dy3 dc3] 56) = wg
      intro HIg
      clear hA4
      have hsv := views_same ((unhide HIg).vws (n + 1, .slice ba1 by1 bc1, .slice ba2 by2 bc2, .slice ba3 by3 bc3) (by simp)) ((unhide HIg).vws (n + 1, .slice da1 dy1 dc1, .slice da2 dy2 dc2, .slice da3 dy3 dc3) (by simp)) (unhide HC).plc
      rw [unhide HV2, unhide HV4] at hsv
      refine hsv.mono ?_
      rintro e w11 ⟨rfl, hb11⟩
      have hlast := (unhide HIg).later hb11
      have hR := hlast.bls (R, #[.int .i64 rs2, .int .i64 1, .int .i64 f6, .int .i64 l6, .int .i64 d6, .int .i64 ((n : Int) + 1)], 36) (by simp)
      obtain ⟨z0, z1, z2, z3, z4, z5, zz⟩ := six_any hR.1
      have HL := hide hlast
      clear hsv hb11 HIg x0 x1 x2 x3 x4 x5 x6 x7 x8 xz hA2w hlast hR
      go_wp2_with fail
      go_ret
      exact ⟨rfl, n + 1, _, X3, jv3, (unhide HL).aft, (unhide HL).ok, Nat.le_refl _⟩
    · have p3 : ((lf : Int) == (low : Int)) = false := by rw [beq_eq_false_iff_ne]; omega
      clear hl HP
      go_wp2_with fail
      refine ((unhide HIc).sess.fwd1 (unhide HC) (unhide HZ) (by omega)).mono ?_
      rintro e w9 ⟨rfl, X3, jv3, hA, hok⟩
      have HId := hide ((unhide HIc).move hA hok)
      clear hA hok HIc
      unfold replyN
      generalize Rt.stepWhy S (n + 1) = rs2 at *
      obtain ⟨f6, hf6⟩ : ∃ f, f = (Rt.atM S (n + 1)).fin := ⟨_, rfl⟩
      obtain ⟨l6, hl6⟩ : ∃ f, f = (Rt.atM S (n + 1)).line := ⟨_, rfl⟩
      obtain ⟨d6, hd6⟩ : ∃ f : Int, f = ((Rt.atM S (n + 1)).frames.length : Int) := ⟨_, rfl⟩
      rw [← hf6, ← hl6, ← hd6]
      clear hf6 hl6 hd6
      have hR := (unhide HId).bls (R, #[.int .i64 rs1, .int .i64 1, .int .i64 f2, .int .i64 l2, .int .i64 d2, .int .i64 ((n : Int) + 1)], 36) (by simp)
      have hA2b := (unhide HId).bls (A2, #[.int .i64 0, .int .i64 0, .int .i64 f3, .int .i64 l3, .int .i64 d3, .int .i64 ((n : Int) + 1), .slice ba1 by1 bc1, .slice ba2 by2 bc2, .slice ba3 by3 bc3], 56) (by simp)
      obtain ⟨x0, x1, x2, x3, x4, x5, xz⟩ := six_any hR.1
      have hRA : A2 ≠ R := fun e => by
        have h1 := hR.1
        have h2 := hA2b.1
        simp only at h1 h2
        rw [e, h1] at h2
        injection h2 with h2
        injection h2 with _ h2
        exact absurd h2 (by decide)
      have hq := hide ((unhide HId).set6 (by simpa using hRA) (.int .i64 rs2) (.int .i64 1) (.int .i64 f6) (.int .i64 l6) (.int .i64 d6) (.int .i64 ((n : Int) + 1)))
      have hRw := block_lt hR.1
      clear hR hA2b HId hRA
      go_wp2_with fail
      revert hq
      unfold W6
      generalize ((((((w9.setCell ⟨R, 0, none⟩ (.int .i64 rs2)).setCell ⟨R, 1, none⟩ (.int .i64 1)).setCell ⟨R, 2, none⟩ (.int .i64 f6)).setCell ⟨R, 3, none⟩ (.int .i64 l6)).setCell ⟨R, 4, none⟩ (.int .i64 d6)).setCell ⟨R, 5, none⟩ (.int .i64 ((n : Int) + 1))) = wf
      intro HIe
      clear x0 x1 x2 x3 x4 x5 xz hRw
      refine ((unhide HIe).sess.look (unhide HC)).mono ?_
      rintro e w10 ⟨hb, va, vc, vo, rfl, hv⟩
      obtain ⟨da1, dc1, da2, dc2, da3, dc3, rfl, rfl, rfl⟩ := hv.forms
      have HIf := hide (((unhide HIe).later hb).view hv)
      clear hb hv HIe
      generalize (Rt.valuesL S (Rt.atM S (n + 1))).length = dy1 at *
      generalize (Rt.callsL (Rt.atM S (n + 1))).length = dy2 at *
      generalize (Rt.atM S (n + 1)).output.length = dy3 at *
      have HV4 := hide (show vwA S (n + 1) (.slice da1 dy1 dc1) (.slice da2 dy2 dc2) (.slice da3 dy3 dc3) = #[.int .i64 0, .int .i64 0, .int .i64 (Rt.atM S (n + 1)).fin, .int .i64 (Rt.atM S (n + 1)).line, .int .i64 ((Rt.atM S (n + 1)).frames.length : Int), .int .i64 ((n : Int) + 1), .slice da1 dy1 dc1, .slice da2 dy2 dc2, .slice da3 dy3 dc3] from rfl)
      rw [unhide HV4]
      generalize (Rt.atM S (n + 1)).fin = f7 at *
      generalize (Rt.atM S (n + 1)).line = l7 at *
      generalize ((Rt.atM S (n + 1)).frames.length : Int) = d7 at *
      have HA2 := (unhide HIf).bls (A2, #[.int .i64 0, .int .i64 0, .int .i64 f3, .int .i64 l3, .int .i64 d3, .int .i64 ((n : Int) + 1), .slice ba1 by1 bc1, .slice ba2 by2 bc2, .slice ba3 by3 bc3], 56) (by simp)
      obtain ⟨x0, x1, x2, x3, x4, x5, x6, x7, x8, xz⟩ := nine_any HA2.1
      have hA2w := block_lt HA2.1
      clear HA2
      go_wp2_with fail
      have hq := hide ((unhide HIf).alloc #[.int .i64 0, .int .i64 0, .int .i64 f7, .int .i64 l7, .int .i64 d7, .int .i64 ((n : Int) + 1), .slice da1 dy1 dc1, .slice da2 dy2 dc2, .slice da3 dy3 dc3] 56 outView)
      clear HIf
      obtain ⟨A4, hA4⟩ : ∃ A, A = w10.heap.size := ⟨_, rfl⟩
      rw [← hA4] at hq ⊢
      revert hq
      generalize w10.alloc (.cells #[.int .i64 0, .int .i64 0, .int .i64 f7, .int .i64 l7, .int .i64 d7, .int .i64 ((n : Int) + 1), .slice da1 dy1 dc1, .slice da2 dy2 dc2, .slice da3 dy3 dc3] 56) = wg
      intro HIg
      clear hA4
      have hsv := views_same ((unhide HIg).vws (n + 1, .slice ba1 by1 bc1, .slice ba2 by2 bc2, .slice ba3 by3 bc3) (by simp)) ((unhide HIg).vws (n + 1, .slice da1 dy1 dc1, .slice da2 dy2 dc2, .slice da3 dy3 dc3) (by simp)) (unhide HC).plc
      rw [unhide HV2, unhide HV4] at hsv
      refine hsv.mono ?_
      rintro e w11 ⟨rfl, hb11⟩
      have hlast := (unhide HIg).later hb11
      have hR := hlast.bls (R, #[.int .i64 rs2, .int .i64 1, .int .i64 f6, .int .i64 l6, .int .i64 d6, .int .i64 ((n : Int) + 1)], 36) (by simp)
      obtain ⟨z0, z1, z2, z3, z4, z5, zz⟩ := six_any hR.1
      have HL := hide hlast
      clear hsv hb11 HIg x0 x1 x2 x3 x4 x5 x6 x7 x8 xz hA2w hlast hR
      go_wp2_with fail
      go_ret
      exact ⟨rfl, n + 1, _, X3, jv3, (unhide HL).aft, (unhide HL).ok, Nat.le_refl _⟩
  · obtain ⟨f1, hf1⟩ : ∃ f, f = (Rt.atM S n).fin := ⟨_, rfl⟩
    generalize (Rt.atM S n).line = l1 at *
    generalize ((Rt.atM S n).frames.length : Int) = d1 at *
    rw [← hf1] at hz ⊢
    have hz' : (f1 != 0) = true := by simpa using hz
    clear hz hf1
    have HF := hide (((unhide HI1).alloc #[.int .i64 0, .int .i64 0, .int .i64 f1, .int .i64 l1, .int .i64 d1, .int .i64 (n : Int), .slice aa1 ay1 ac1, .slice aa2 ay2 ac2, .slice aa3 ay3 ac3] 56 outView))
    go_wp2_with fail
    go_ret
    exact ⟨rfl, n, low, X, jv, (unhide HF).aft, (unhide HF).ok, by omega⟩
set_option maxHeartbeats 4000000 in
set_option maxRecDepth 100000 in
theorem Undone_any (w : World) (cv iv mv : Value) (code input moves : List Int) (cp : Int) (hc : IntsR w w.heap.size cv code) (hi : IntsR w w.heap.size iv input) (hm : IntsR w w.heap.size mv moves) (hcp : -9223372036854775808 ≤ cp ∧ cp ≤ 9223372036854775807) (hml : moves.length ≤ 70368744177664) :
    Calls Tryz.prog 6 #[cv, iv, .int .i64 cp, mv] w fun e w' => e = .returned (.bool true) ∧ Below w.heap.size w w' := by
  obtain ⟨pls, r1, r2, r3, r4, r5, r6⟩ := Rt.made_all code
  have hl100 : (input.take 100).length ≤ 100 := by simp; omega
  have cform : ∃ ad cap, cv = .slice ad code.length cap := by obtain ⟨ad, cap, h, _⟩ := hc; exact ⟨ad, cap, h⟩
  have iform : ∃ ad cap, iv = .slice ad input.length cap := by obtain ⟨ad, cap, h, _⟩ := hi; exact ⟨ad, cap, h⟩
  have mform : ∃ ad cap, mv = .slice ad moves.length cap := by obtain ⟨ad, cap, h, _⟩ := hm; exact ⟨ad, cap, h⟩
  obtain ⟨cad, ccap, rfl⟩ := cform
  obtain ⟨iad, icap, rfl⟩ := iform
  obtain ⟨mad, mcap, rfl⟩ := mform
  have hcap := pick_range2 cp 496 (by omega)
  have HRM := hide (fun W => room_any W cp hcp.1 hcp.2)
  obtain ⟨cap, hcapE⟩ : ∃ c, c = 5 + Rt.pickP cp 496 := ⟨_, rfl⟩
  rw [← hcapE] at HRM
  have hcap5 : 5 ≤ cap ∧ cap ≤ 500 := by omega
  clear hcapE hcap
  have HH := hide (And.intro hc (And.intro hi (And.intro hm (And.intro r1 (plc_of (inp := input.take 100) r1 hl100)))))
  clear hc hi hm r1 r2 r3 r4 hcp
  go_enter Tryz.func6, Tryz.ntmps6
  go_wp2_with fail
  refine (source_any _ _ code (unhide HH).1).mono ?_
  rintro e w1 ⟨rfl, hb1⟩
  generalize Rt.srcB code = text at *
  have HB1 := hide hb1
  clear hb1
  go_wp2_with fail
  refine (fed_any w1 w1.heap.size _ input (IntsR.keeps (unhide HH).2.1 (unhide HB1))).mono ?_
  rintro e w2 ⟨hb2, u2, rfl, hu2⟩
  have hui2 := row_ints hu2 rfl
  obtain ⟨uad2, ucap2, rfl⟩ := ownsRow_form hu2
  have HB2 := hide ((unhide HB1).trans (hb2.mono (unhide HB1).size))
  have HN := hide (begun_at text _ (input.take 100) cap w2 pls (by unfold maxLen; omega) hui2 (unhide HH).2.2.2.1 hl100 hcap5)
  obtain ⟨S, hSE⟩ : ∃ S, S = srcOf text pls (input.take 100) := ⟨_, rfl⟩
  rw [← hSE] at HN
  have HCs := hide (show Cst S cap mk0 from ⟨by rw [hSE]; exact (unhide HH).2.2.2.2, hcap5.1, hcap5.2, by simp [mk0]⟩)
  clear hb2 hu2 hui2 HB1 hSE
  generalize (input.take 100).length = il at *
  go_wp2_with fail
  refine (unhide HRM _).mono ?_
  rintro e w2' ⟨rfl, rfl⟩
  go_wp2_with fail
  refine (unhide HN).mono ?_
  rintro e w3 ⟨hb3, P, B, X, jv, rfl, hown, hses⟩
  have HS := hide (And.intro ((unhide HB2).trans (hb3.mono (unhide HB2).size)) (And.intro (fun k hk => Nat.le_trans (unhide HB2).size (hown k hk)) hses))
  clear hb3 hown hses HN HB2 HRM
  go_wp2_with fail
  refine (undone_any _ P B S cap 0 0 mk0 X jv (unhide HS).2.2 (unhide HCs) (by omega)).mono ?_
  rintro e w4 ⟨rfl, n1, low1, X1, jv1, hA4, hk4, hn1⟩
  have HA := hide (And.intro hA4 hk4)
  clear hA4 hk4
  go_wp2_with fail
  go_loopw [10, 11, 12, 13] (fun _ i _ _ wr => ∃ (k n low : Nat) (X' : McX) (jv' : Value), k ≤ moves.length ∧ i = .int .i64 k ∧ n ≤ 1 + 61 * k ∧ SAft P B S cap X X' jv jv' (Rt.seAt S n low mk0) w3 wr ∧ Rt.SeOk S cap n low)
    (fun _ i _ _ _ => moves.length + 1 - (intOf i).toNat)
  case atStart => exact ⟨0, n1, low1, X1, jv1, Nat.zero_le _, rfl, by omega, (unhide HA).1, (unhide HA).2⟩
  case round =>
    obtain ⟨k, n, low, X', jv', hk, rfl, hn, hA, hok⟩ := hrel
    have HX := hide (And.intro hA hok)
    clear hA hok
    by_cases hlt : k < moves.length
    · have hlt' : (k : Int) < (moves.length : Int) := by omega
      have hk0 : (0 : Int) ≤ (k : Int) := by omega
      have hBw : Below w.heap.size w wr := (unhide HS).1.trans ((unhide HX).1.low (unhide HS).1.size (unhide HS).2.1)
      obtain ⟨mb, mo, rfl, hmb, hmc⟩ := ints_at (unhide HH).2.2.1 hlt
      have m1 := cell_later hBw hmc
      have hraw := ints_in (unhide HH).2.2.1 hlt
      have HMv := hide ((show Sess wr P B S cap n low mk0 X' jv' from ⟨(unhide HX).1.ses, (unhide HX).2⟩).moves (unhide HCs) (by omega) moves[k] hraw)
      have HMN := hide ((Rt.moveR_at (show 0 ≤ cap by omega) (unhide HCs).plc.input mk0 moves[k] n low (unhide HX).2 (by omega)).2)
      clear hBw hmc hraw
      generalize moves[k] = raw at *
      generalize Rt.moveLow S cap mk0 low raw n = low2 at *
      generalize Rt.mvF raw = fu at *
      rcases hres : Rt.moveN S mk0 low raw n with ⟨n2, mv2, rs2⟩
      rw [hres] at HMv HMN
      simp only at HMv HMN
      clear hres
      go_wp2_with fail
      refine (unhide HMv).mono ?_
      rintro e w6 ⟨rfl, X2, jv2, hA2, hok2⟩
      have hA3 := (unhide HX).1.trans hA2
      have hn2 := (unhide HMN).2.1
      have HY := hide (And.intro hA3 hok2)
      clear hA2 hok2 hA3 m1
      unfold replyN
      generalize (Rt.atM S n2).fin = f2 at *
      generalize (Rt.atM S n2).line = l2 at *
      generalize ((Rt.atM S n2).frames.length : Int) = d2 at *
      have HY2 := hide ((unhide HY).1.below ((Below.refl w6.heap.size w6).alloc (Nat.le_refl _) (.cells #[.int .i64 rs2, .int .i64 (mv2 : Int), .int .i64 f2, .int .i64 l2, .int .i64 d2, .int .i64 (n2 : Int)] 36)))
      go_wp2_with fail
      refine (undone_any _ P B S cap n2 low2 mk0 X2 jv2 ⟨(unhide HY2).ses, (unhide HY).2⟩ (unhide HCs) (by omega)).mono ?_
      rintro e w7 ⟨rfl, n3, low3, X3, jv3, hA4, hk4, hn3⟩
      have HZ := hide (And.intro ((unhide HY2).trans hA4) hk4)
      clear hA4 hk4
      go_wp2_with fail
      go_roundw
      case rel => exact ⟨k + 1, n3, low3, X3, jv3, by omega, by go_num, by omega, (unhide HZ).1, (unhide HZ).2⟩
      case measure => simp [intOf]; omega
    · have hlt' : ¬ (k : Int) < (moves.length : Int) := by omega
      have HBW : Hid (Below w.heap.size w wr) := hide ((unhide HS).1.trans ((unhide HX).1.low (unhide HS).1.size (unhide HS).2.1))
      go_wp2_with fail
      go_ret
      exact ⟨rfl, unhide HBW⟩
end Go.Proofs.YtbpajiljfppjcaaGreatDoor

namespace Go.Proofs.YtbpajiljfppjcaaGreatDoor
open Go.ChangeShapes Go.WideShapes Go.ChangeAt Go.RowKit

/-- The door's own heap meets the condition. -/
theorem undone_met (os : Os) (args : Array Value) : laidMetH Tryz.prog Rows.undoneRow.laid ((World.doorLaid Tryz.prog 24 os).forCall (fun _ _ => 0) ⟨#[], args, []⟩).memory :=
  laidMetH_of_parts3 (fuel := 8) (laidMet_of_run' 8 (by kernel_rfl) (by kernel_rfl)) (by kernel_rfl) (by kernel_rfl)
set_option maxHeartbeats 1000000 in
set_option maxRecDepth 100000 in
theorem undone_lifted (os : Os) (started : os.Started) (H : Type) (enc : TypeId × Value → H) :
    ReturnsInHanded {} Tryz.checked os 6 .any (fun w args => (Rows.undoneSpec.pre enc Tryz.prog Tryz.f6 [] false w args ∧ laidMetH Tryz.prog Rows.undoneRow.laid w) ∧ sizedMet enc Tryz.prog Tryz.f6 (OpenSpec.ofChange Rows.undoneSpec) false w args)
      (Rows.undoneSpec.post enc Tryz.prog Tryz.f6 false true false false) := by
  refine returnsInHanded_of_change_and (C := Tryz.checked) (X := fun w _ => laidMetH Tryz.prog Rows.undoneRow.laid w) (fun _ _ _ hh h => h.of_heap hh) Tryz.own started (by kernel_rfl) Tryz.func6
    (ChangeSpec.witness_shaped (enc := enc) (C := Tryz.checked) (os := os) (X := fun w _ => laidMetH Tryz.prog Rows.undoneRow.laid w) false (World.doorLaid Tryz.prog 24 os) #[.slice none 0 0, .slice none 0 0, .int .i64 0, .slice none 0 0] 8 rfl (World.shaped_of_RefB (by kernel_rfl) (by kernel_rfl)) (by kernel_rfl) (by kernel_rfl) (by kernel_rfl) (undone_met os _)) ?_
  intro W base args ds gs before hval0 hW _ hsize hL _
  have hval : ∀ (j : Nat) t v, Tryz.f6.params[j]? = some t → args[j]? = some v → Value.okWide Tryz.prog W .any base t v := hval0
  have hsz : (DataW.weightsEach Tryz.prog (Tryz.f6.params.toList ++ Rows.undoneSpec.plain.varTypes Tryz.prog) (ds ++ gs)).all (· ≤ reachBytes) = true := hsize
  have hW' := hW
  obtain ⟨p, q, hA0, hV, rfl, _, _⟩ := hW
  have hA : DataW.TrodAll enc Tryz.prog W 0 (fun _ => true) true Tryz.f6.params.toList args.toList ds p := hA0
  rw [Tryz.params6] at hA hval hsz
  obtain ⟨v0, v1, v2, v3, d0, d1, d2, d3, p0, p1, p2, p3, rfl, rfl, rfl, h0, h1, h2, h3⟩ := trodAll_four hA
  obtain ⟨rfl, rfl⟩ := trodVars_none hV
  obtain ⟨a0, len0, cap0, rfl⟩ := okWide_slice Tryz.underlying22 (hval 0 22 v0 rfl rfl)
  obtain ⟨a1, len1, cap1, rfl⟩ := okWide_slice Tryz.underlying22 (hval 1 22 v1 rfl rfl)
  obtain ⟨i2, rfl⟩ := okWide_int Tryz.underlying3 (hval 2 3 v2 rfl rfl)
  obtain ⟨a3, len3, cap3, rfl⟩ := okWide_slice Tryz.underlying22 (hval 3 22 v3 rfl rfl)
  clear hA0 hval0 hsize
  simp only [List.append_nil] at hW'
  have hlt : ∀ x ∈ p0 ++ p1 ++ p2 ++ p3, x.block < W.heap.size := fun x hx => by simpa using hW'.lt x hx
  have hlt0 : ∀ x ∈ p0, x.block < W.heap.size := fun x hx => hlt x (by simp [hx])
  have hlt1 : ∀ x ∈ p1, x.block < W.heap.size := fun x hx => hlt x (by simp [hx])
  have hlt2 : ∀ x ∈ p2, x.block < W.heap.size := fun x hx => hlt x (by simp [hx])
  have hlt3 : ∀ x ∈ p3, x.block < W.heap.size := fun x hx => hlt x (by simp [hx])
  obtain ⟨l0, hl0, hd0⟩ := ints_arg h0
  obtain ⟨l1, hl1, hd1⟩ := ints_arg h1
  obtain ⟨l3, hl3, hd3⟩ := ints_arg h3
  have hn3 := ints_len hsz (j := 3) rfl rfl hd3
  have hi2 : -9223372036854775808 ≤ i2 ∧ i2 ≤ 9223372036854775807 := by
    obtain ⟨f2, g2⟩ := h2
    obtain ⟨k, hk, _, hk3⟩ := DataW.trod_int Tryz.underlying3 g2
    simp [Value.cells] at hk
    subst hk
    exact bounds_i64 hk3
  have hargs0 : ∀ (W' : World), Below W.heap.size W W' → DataW.Trod enc Tryz.prog W' 0 (fun b => decide (b < W.heap.size)) true 22 (.slice a0 len0 cap0) d0 p0 :=
    fun W' hn => Below.trod Tryz.laidOut (by kernel_rfl) (of_decide_eq_true (by kernel_rfl)) h0 hn hlt0
  have hargs1 : ∀ (W' : World), Below W.heap.size W W' → DataW.Trod enc Tryz.prog W' 0 (fun b => decide (b < W.heap.size)) true 22 (.slice a1 len1 cap1) d1 p1 :=
    fun W' hn => Below.trod Tryz.laidOut (by kernel_rfl) (of_decide_eq_true (by kernel_rfl)) h1 hn hlt1
  have hargs2 : ∀ (W' : World), Below W.heap.size W W' → DataW.Trod enc Tryz.prog W' 0 (fun b => decide (b < W.heap.size)) true 3 (.int .i64 i2) d2 p2 :=
    fun W' hn => Below.trod Tryz.laidOut (by kernel_rfl) (of_decide_eq_true (by kernel_rfl)) h2 hn hlt2
  have hargs3 : ∀ (W' : World), Below W.heap.size W W' → DataW.Trod enc Tryz.prog W' 0 (fun b => decide (b < W.heap.size)) true 22 (.slice a3 len3 cap3) d3 p3 :=
    fun W' hn => Below.trod Tryz.laidOut (by kernel_rfl) (of_decide_eq_true (by kernel_rfl)) h3 hn hlt3
  refine (Undone_any W _ _ _ l0 l1 l3 i2 hl0 hl1 hl3 hi2 hn3).mono fun e W' ⟨he, hnx⟩ => ?_
  subst he
  have h9 := trodAll_mk4 (hargs0 _ hnx) (hargs1 _ hnx) (hargs2 _ hnx) (hargs3 _ hnx)
  simp only [← List.append_assoc] at h9
  exact ⟨_, rfl, _, _, _, [], p0 ++ p1 ++ p2 ++ p3, [], hW', trodAll_mk1 (shut_bool Tryz.underlying4 _), h9, rfl, hnx.frame _, fun h => by cases h⟩

theorem undone_row : Rows.UndoneSaid :=
  OpenClaim.holds_of_wide 6 Tryz.f6 rfl rfl rfl rfl rfl rfl rfl ⟨rfl, rfl, rfl, rfl, rfl⟩ rfl rfl rfl rfl rfl (by kernel_rfl) Tryz.func6 (by kernel_rfl)
    (of_decide_eq_true (by kernel_rfl)) (by unfold Func.isWrapper; first | (rw [if_pos (by decide +kernel)]; kernel_rfl) | (rw [if_neg (by decide +kernel)]; exact ⟨rfl, rfl⟩))
    (fun os started H enc _ => undone_lifted os started H enc)

end Go.Proofs.YtbpajiljfppjcaaGreatDoor

