/- 'retracekeep.Roomy' returns true for all numbers, and they read as they did: the row. -/
import Derived.Test.YtbpajiljfppjcaaGreatDoorLkD
import Derived.Test.YtbpajiljfppjcaaGreatDoorSsD
namespace Go.Proofs.YtbpajiljfppjcaaGreatDoor
open Go.RowKit
attribute [local go_sem ↓] Go.wp_at_zero Go.wp_at_succ

set_option maxHeartbeats 4000000 in
set_option maxRecDepth 100000 in
theorem Roomy_any (w : World) (cv iv mv : Value) (code input moves : List Int) (cp cq : Int) (hc : IntsR w w.heap.size cv code) (hi : IntsR w w.heap.size iv input) (hm : IntsR w w.heap.size mv moves) (hcp : -9223372036854775808 ≤ cp ∧ cp ≤ 9223372036854775807) (hcq : -9223372036854775808 ≤ cq ∧ cq ≤ 9223372036854775807) (hml : moves.length ≤ 70368744177664) :
    Calls Tryz.prog 8 #[cv, iv, .int .i64 cp, .int .i64 cq, mv] w fun e w' => e = .returned (.bool true) ∧ Below w.heap.size w w' := by
  obtain ⟨pls, r1, r2, r3, r4, r5, r6⟩ := Rt.made_all code
  have hl100 : (input.take 100).length ≤ 100 := by simp; omega
  have cform : ∃ ad cap, cv = .slice ad code.length cap := by obtain ⟨ad, cap, h, _⟩ := hc; exact ⟨ad, cap, h⟩
  have iform : ∃ ad cap, iv = .slice ad input.length cap := by obtain ⟨ad, cap, h, _⟩ := hi; exact ⟨ad, cap, h⟩
  have mform : ∃ ad cap, mv = .slice ad moves.length cap := by obtain ⟨ad, cap, h, _⟩ := hm; exact ⟨ad, cap, h⟩
  obtain ⟨cad, ccap, rfl⟩ := cform
  obtain ⟨iad, icap, rfl⟩ := iform
  obtain ⟨mad, mcap, rfl⟩ := mform
  have hcap := pick_range2 cp 496 (by omega)
  have HRM := hide (fun W => room_any W cp hcp.1 hcp.2)
  obtain ⟨ca, hcapE⟩ : ∃ c, c = 5 + Rt.pickP cp 496 := ⟨_, rfl⟩
  rw [← hcapE] at HRM
  have hca5 : 5 ≤ ca ∧ ca ≤ 500 := by omega
  clear hcapE hcap
  have hcap := pick_range2 cq 496 (by omega)
  have HRN := hide (fun W => room_any W cq hcq.1 hcq.2)
  obtain ⟨cb, hcapE⟩ : ∃ c, c = 5 + Rt.pickP cq 496 := ⟨_, rfl⟩
  rw [← hcapE] at HRN
  have hcb5 : 5 ≤ cb ∧ cb ≤ 500 := by omega
  clear hcapE hcap
  have HH := hide (And.intro hc (And.intro hi (And.intro hm (And.intro r1 (plc_of (inp := input.take 100) r1 hl100)))))
  clear hc hi hm r1 r2 r3 r4 hcp hcq
  go_enter Tryz.func8, Tryz.ntmps8
  go_wp2_with fail
  refine (source_any _ _ code (unhide HH).1).mono ?_
  rintro e w1 ⟨rfl, hb1⟩
  generalize Rt.srcB code = text at *
  have HB1 := hide hb1
  clear hb1
  go_wp2_with fail
  refine (fed_any w1 w1.heap.size _ input (IntsR.keeps (unhide HH).2.1 (unhide HB1))).mono ?_
  rintro e w2 ⟨hb2, u2, rfl, hu2⟩
  have hui2 := row_ints hu2 rfl
  obtain ⟨uad2, ucap2, rfl⟩ := ownsRow_form hu2
  have HB2 := hide ((unhide HB1).trans (hb2.mono (unhide HB1).size))
  obtain ⟨S, hSE⟩ : ∃ S, S = srcOf text pls (input.take 100) := ⟨_, rfl⟩
  have HN := hide (begun_at text _ (input.take 100) ca w2 pls (by unfold maxLen; omega) hui2 (unhide HH).2.2.2.1 hl100 hca5)
  rw [← hSE] at HN
  have HCa := hide (show Cst S ca mk0 from ⟨by rw [hSE]; exact (unhide HH).2.2.2.2, hca5.1, hca5.2, by simp [mk0]⟩)
  have HCb := hide (show Cst S cb mk0 from ⟨by rw [hSE]; exact (unhide HH).2.2.2.2, hcb5.1, hcb5.2, by simp [mk0]⟩)
  have HSE := hide hSE
  clear hb2 hu2 hui2 HB1 hSE
  have HL100 := hide hl100
  clear hl100
  generalize (input.take 100).length = il at HN
  go_wp2_with fail
  refine (unhide HRM _).mono ?_
  rintro e w2' ⟨rfl, rfl⟩
  go_wp2_with fail
  refine (unhide HN).mono ?_
  rintro e w3 ⟨hb3, Pa, Ba, Xa, ja, rfl, howna, hsesa⟩
  have HS := hide (And.intro ((unhide HB2).trans (hb3.mono (unhide HB2).size)) (And.intro (fun k hk => Nat.le_trans (unhide HB2).size (howna k hk)) hsesa))
  clear hb3 howna hsesa HN HB2 HRM
  go_wp2_with fail
  refine (fed_any w3 w3.heap.size _ input (IntsR.keeps (unhide HH).2.1 (unhide HS).1)).mono ?_
  rintro e w4 ⟨hb4, u4, rfl, hu4⟩
  have hui4 := row_ints hu4 rfl
  obtain ⟨uad4, ucap4, rfl⟩ := ownsRow_form hu4
  have HN := hide (begun_at text _ (input.take 100) cb w4 pls (by unfold maxLen; omega) hui4 (unhide HH).2.2.2.1 (unhide HL100) hcb5)
  rw [← unhide HSE] at HN
  have HB4 := hide hb4
  clear hb4 hu4 hui4
  generalize (input.take 100).length = il4 at HN
  go_wp2_with fail
  refine (unhide HRN _).mono ?_
  rintro e w4' ⟨rfl, rfl⟩
  go_wp2_with fail
  refine (unhide HN).mono ?_
  rintro e w5 ⟨hb5, Pb, Bb, Xb, jb, rfl, hownb, hsesb⟩
  have HT := hide (TwI.start (unhide HS).1 (unhide HS).2.2 (unhide HS).2.1 ((unhide HB4).trans (hb5.mono (unhide HB4).size)) hsesb (fun k hk => Nat.le_trans (unhide HB4).size (hownb k hk)))
  clear hb5 hownb hsesb HN HB4 HRN HS HSE HL100
  go_wp2_with fail
  go_loopw [14, 15, 16, 17, 18, 19, 20, 21] (fun i _ _ _ _ _ _ _ wr => ∃ (k n la lb : Nat) (Xa' Xb' : McX) (ja' jb' : Value), k ≤ moves.length ∧ i = .int .i64 k ∧ n ≤ 60 * k ∧ TwI w wr Pa Ba Pb Bb S ca cb mk0 mk0 n la Xa' ja' n lb Xb' jb' [])
    (fun i _ _ _ _ _ _ _ _ => moves.length + 1 - (intOf i).toNat)
  case atStart => exact ⟨0, 0, 0, 0, Xa, Xb, ja, jb, Nat.zero_le _, rfl, by omega, unhide HT⟩
  case round =>
    obtain ⟨k, n, la, lb, Xa', Xb', ja', jb', hk, rfl, hn, hT⟩ := hrel
    have HX := hide hT
    clear hT
    by_cases hlt : k < moves.length
    · have hlt' : (k : Int) < (moves.length : Int) := by omega
      have hk0 : (0 : Int) ≤ (k : Int) := by omega
      obtain ⟨mb, mo, rfl, hmb, hmc⟩ := ints_at (unhide HH).2.2.1 hlt
      have m1 := cell_later (unhide HX).below hmc
      have hraw := ints_in (unhide HH).2.2.1 hlt
      have HMa := hide ((unhide HX).a.moves (unhide HCa) (by omega) moves[k] hraw)
      have HMb := hide (fun (W : World) (h : Sess W Pb Bb S cb n lb mk0 Xb' jb') => h.moves (unhide HCb) (by omega) moves[k] hraw)
      have HNa := hide ((Rt.moveR_at (show 0 ≤ ca by omega) (unhide HCa).plc.input mk0 moves[k] n la (unhide HX).a.ok (by omega)).2)
      have HAL := hide (Rt.moveN_alike S mk0 la lb moves[k] n)
      have HMC := hide (show ∀ W, Below w.heap.size w W → W.cell? ⟨mb, mo + k, none⟩ = some (.int .i64 moves[k]) from fun W hW => cell_later hW hmc)
      clear hmc hraw
      generalize moves[k] = raw at *
      generalize Rt.moveLow S ca mk0 la raw n = la2 at *
      generalize Rt.moveLow S cb mk0 lb raw n = lb2 at *
      generalize Rt.mvF raw = fu at *
      rcases hres : Rt.moveN S mk0 la raw n with ⟨n2, ka, ra⟩
      rw [hres] at HMa HNa HAL
      rcases hres2 : Rt.moveN S mk0 lb raw n with ⟨n3, kb, rb⟩
      rw [hres2] at HMb HAL
      simp only at HMa HNa HMb HAL
      clear hres hres2
      go_wp2_with fail
      refine (unhide HMa).mono ?_
      rintro e w6 ⟨rfl, X2, j2, hA, hok⟩
      have HT2 := hide ((unhide HX).moveA hA hok)
      clear hA hok HX HMa m1
      unfold replyN
      obtain ⟨f1, hf1⟩ : ∃ f, f = (Rt.atM S n2).fin := ⟨_, rfl⟩
      obtain ⟨l1, hl1⟩ : ∃ f, f = (Rt.atM S n2).line := ⟨_, rfl⟩
      obtain ⟨d1, hd1⟩ : ∃ f : Int, f = ((Rt.atM S n2).frames.length : Int) := ⟨_, rfl⟩
      rw [← hf1, ← hl1, ← hd1]
      have HQ1 := hide (And.intro hf1 (And.intro hl1 hd1))
      clear hf1 hl1 hd1
      have hq := hide ((unhide HT2).alloc #[.int .i64 ra, .int .i64 (ka : Int), .int .i64 f1, .int .i64 l1, .int .i64 d1, .int .i64 (n2 : Int)] 36 outR2)
      have m2 := unhide HMC _ (unhide hq).below
      clear HT2
      go_wp2_with fail
      obtain ⟨A, hA⟩ : ∃ A, A = w6.heap.size := ⟨_, rfl⟩
      rw [← hA] at hq ⊢
      clear m2
      revert hq
      generalize w6.alloc (.cells #[.int .i64 ra, .int .i64 (ka : Int), .int .i64 f1, .int .i64 l1, .int .i64 d1, .int .i64 (n2 : Int)] 36) = wa
      intro HT3
      clear hA
      refine (unhide HMb _ (unhide HT3).b).mono ?_
      rintro e w7 ⟨rfl, X3, j3, hA, hok⟩
      have HT4 := hide ((unhide HT3).moveB hA hok)
      clear hA hok HT3 HMb
      unfold replyN
      have h1 := (unhide HT4).bls (A, #[.int .i64 ra, .int .i64 (ka : Int), .int .i64 f1, .int .i64 l1, .int .i64 d1, .int .i64 (n2 : Int)], 36) (by simp)
      obtain ⟨x0, x1, x2, x3, x4, x5, xz⟩ := six_any h1.1
      have hAw := block_lt h1.1
      clear h1
      by_cases h6 : ra = 6 ∨ rb = 6
      · have HBW := hide ((unhide HT4).below)
        generalize (Rt.atM S n3).fin = f2 at *
        generalize (Rt.atM S n3).line = l2 at *
        generalize ((Rt.atM S n3).frames.length : Int) = d2 at *
        have HBW2 := hide ((unhide HBW).alloc (unhide HBW).size (.cells #[.int .i64 rb, .int .i64 (kb : Int), .int .i64 f2, .int .i64 l2, .int .i64 d2, .int .i64 (n3 : Int)] 36))
        by_cases h6a : ra = 6
        · have h6' : (ra == 6) = true := by rw [beq_iff_eq]; exact h6a
          clear h6 h6a
          go_wp2_with fail
          go_ret
          exact ⟨rfl, unhide HBW2⟩
        · have h6' : (ra == 6) = false := by rw [beq_eq_false_iff_ne]; exact h6a
          have h6'' : (rb == 6) = true := by rw [beq_iff_eq]; rcases h6 with h | h; exact absurd h h6a; exact h
          clear h6 h6a
          go_wp2_with fail
          go_ret
          exact ⟨rfl, unhide HBW2⟩
      · have h6a : (ra == 6) = false := by rw [beq_eq_false_iff_ne]; exact fun e => h6 (Or.inl e)
        have h6b : (rb == 6) = false := by rw [beq_eq_false_iff_ne]; exact fun e => h6 (Or.inr e)
        have hal := unhide HAL (fun e => h6 (Or.inl e)) (fun e => h6 (Or.inr e))
        injection hal with e1 e2
        injection e2 with e2 e3
        subst e1 e2 e3
        clear h6 HAL
        rw [← (unhide HQ1).1, ← (unhide HQ1).2.1, ← (unhide HQ1).2.2]
        go_wp2_with fail
        have hq := hide ((unhide HT4).alloc #[.int .i64 ra, .int .i64 (ka : Int), .int .i64 f1, .int .i64 l1, .int .i64 d1, .int .i64 (n2 : Int)] 36 outR2)
        clear HT4
        obtain ⟨A2, hA2⟩ : ∃ A, A = w7.heap.size := ⟨_, rfl⟩
        rw [← hA2] at hq ⊢
        revert hq
        generalize w7.alloc (.cells #[.int .i64 ra, .int .i64 (ka : Int), .int .i64 f1, .int .i64 l1, .int .i64 d1, .int .i64 (n2 : Int)] 36) = wb
        intro HT5
        clear hA2 x0 x1 x2 x3 x4 x5 xz hAw
        refine ((unhide HT5).a.look (unhide HCa)).mono ?_
        rintro e w8 ⟨hb, va, vc, vo, rfl, hv⟩
        obtain ⟨xa1, xc1, xa2, xc2, xa3, xc3, rfl, rfl, rfl⟩ := hv.forms
        have HT6p := hide (And.intro ((unhide HT5).later hb) hb)
        have HVx0 := hide hv
        clear hb hv HT5
        generalize (Rt.valuesL S (Rt.atM S n2)).length = xy1 at *
        generalize (Rt.callsL (Rt.atM S n2)).length = xy2 at *
        generalize (Rt.atM S n2).output.length = xy3 at *
        have HVx := hide (show vwA S n2 (.slice xa1 xy1 xc1) (.slice xa2 xy2 xc2) (.slice xa3 xy3 xc3) = #[.int .i64 0, .int .i64 0, .int .i64 f1, .int .i64 l1, .int .i64 d1, .int .i64 (n2 : Int), .slice xa1 xy1 xc1, .slice xa2 xy2 xc2, .slice xa3 xy3 xc3] from by rw [(unhide HQ1).1, (unhide HQ1).2.1, (unhide HQ1).2.2]; rfl)
        rw [unhide HVx]
        have HT6 := hide (unhide HT6p).1
        clear HT6p
        go_wp2_with fail
        have hq := hide ((unhide HT6).alloc #[.int .i64 0, .int .i64 0, .int .i64 f1, .int .i64 l1, .int .i64 d1, .int .i64 (n2 : Int), .slice xa1 xy1 xc1, .slice xa2 xy2 xc2, .slice xa3 xy3 xc3] 56 outV2)
        have HVx1 := hide ((unhide HVx0).later ((Below.refl w8.heap.size w8).alloc (Nat.le_refl _) (.cells #[.int .i64 0, .int .i64 0, .int .i64 f1, .int .i64 l1, .int .i64 d1, .int .i64 (n2 : Int), .slice xa1 xy1 xc1, .slice xa2 xy2 xc2, .slice xa3 xy3 xc3] 56)))
        clear HVx0
        clear HT6
        obtain ⟨A3, hA3⟩ : ∃ A, A = w8.heap.size := ⟨_, rfl⟩
        rw [← hA3] at hq ⊢
        revert hq HVx1
        generalize w8.alloc (.cells #[.int .i64 0, .int .i64 0, .int .i64 f1, .int .i64 l1, .int .i64 d1, .int .i64 (n2 : Int), .slice xa1 xy1 xc1, .slice xa2 xy2 xc2, .slice xa3 xy3 xc3] 56) = wc
        intro HVx1 HT7
        clear hA3
        refine ((unhide HT7).b.look (unhide HCb)).mono ?_
        rintro e w9 ⟨hb, va, vc, vo, rfl, hv⟩
        obtain ⟨ya1, yc1, ya2, yc2, ya3, yc3, rfl, rfl, rfl⟩ := hv.forms
        have HT8p := hide (And.intro ((unhide HT7).later hb) hb)
        have HVy0 := hide hv
        clear hb hv HT7
        generalize (Rt.valuesL S (Rt.atM S n2)).length = yy1 at *
        generalize (Rt.callsL (Rt.atM S n2)).length = yy2 at *
        generalize (Rt.atM S n2).output.length = yy3 at *
        have HVy := hide (show vwA S n2 (.slice ya1 yy1 yc1) (.slice ya2 yy2 yc2) (.slice ya3 yy3 yc3) = #[.int .i64 0, .int .i64 0, .int .i64 f1, .int .i64 l1, .int .i64 d1, .int .i64 (n2 : Int), .slice ya1 yy1 yc1, .slice ya2 yy2 yc2, .slice ya3 yy3 yc3] from by rw [(unhide HQ1).1, (unhide HQ1).2.1, (unhide HQ1).2.2]; rfl)
        rw [unhide HVy]
        have HVx2 := hide ((unhide HVx1).later (unhide HT8p).2)
        have HT8 := hide (unhide HT8p).1
        clear HT8p HVx1
        have h3 := (unhide HT8).bls (A3, #[.int .i64 0, .int .i64 0, .int .i64 f1, .int .i64 l1, .int .i64 d1, .int .i64 (n2 : Int), .slice xa1 xy1 xc1, .slice xa2 xy2 xc2, .slice xa3 xy3 xc3], 56) (by simp)
        obtain ⟨x0, x1, x2, x3, x4, x5, x6, x7, x8, xz⟩ := nine_any h3.1
        have hA3w := block_lt h3.1
        clear h3
        go_wp2_with fail
        have hq := hide ((unhide HT8).alloc #[.int .i64 0, .int .i64 0, .int .i64 f1, .int .i64 l1, .int .i64 d1, .int .i64 (n2 : Int), .slice ya1 yy1 yc1, .slice ya2 yy2 yc2, .slice ya3 yy3 yc3] 56 outV2)
        have HVx3 := hide ((unhide HVx2).later ((Below.refl w9.heap.size w9).alloc (Nat.le_refl _) (.cells #[.int .i64 0, .int .i64 0, .int .i64 f1, .int .i64 l1, .int .i64 d1, .int .i64 (n2 : Int), .slice ya1 yy1 yc1, .slice ya2 yy2 yc2, .slice ya3 yy3 yc3] 56)))
        have HVy1 := hide ((unhide HVy0).later ((Below.refl w9.heap.size w9).alloc (Nat.le_refl _) (.cells #[.int .i64 0, .int .i64 0, .int .i64 f1, .int .i64 l1, .int .i64 d1, .int .i64 (n2 : Int), .slice ya1 yy1 yc1, .slice ya2 yy2 yc2, .slice ya3 yy3 yc3] 56)))
        clear HVx2 HVy0
        clear HT8
        obtain ⟨A4, hA4⟩ : ∃ A, A = w9.heap.size := ⟨_, rfl⟩
        rw [← hA4] at hq ⊢
        revert hq HVx3 HVy1
        generalize w9.alloc (.cells #[.int .i64 0, .int .i64 0, .int .i64 f1, .int .i64 l1, .int .i64 d1, .int .i64 (n2 : Int), .slice ya1 yy1 yc1, .slice ya2 yy2 yc2, .slice ya3 yy3 yc3] 56) = wd
        intro HVx3 HVy1 HT9
        clear hA4
        have hsv := views_same (unhide HVx3) (unhide HVy1) (unhide HCa).plc
        rw [unhide HVx, unhide HVy] at hsv
        refine hsv.mono ?_
        rintro e w10 ⟨rfl, hb10⟩
        have hT := (unhide HT9).later hb10
        have g1 := hT.bls (A, #[.int .i64 ra, .int .i64 (ka : Int), .int .i64 f1, .int .i64 l1, .int .i64 d1, .int .i64 (n2 : Int)], 36) (by simp)
        have g2 := hT.bls (A2, #[.int .i64 ra, .int .i64 (ka : Int), .int .i64 f1, .int .i64 l1, .int .i64 d1, .int .i64 (n2 : Int)], 36) (by simp)
        obtain ⟨z0, z1, z2, z3, z4, z5, zz⟩ := six_any g1.1
        obtain ⟨q0, q1, q2, q3, q4, q5, qz⟩ := six_any g2.1
        have HTl := hide hT
        clear hsv hb10 HT9 hT g1 g2 x0 x1 x2 x3 x4 x5 x6 x7 x8 xz hA3w
        go_wp2_with fail
        go_roundw
        case rel => exact ⟨k + 1, n2, la2, lb2, X2, X3, j2, j3, by omega, by go_num, by have := (unhide HNa).2.1; omega, (unhide HTl).fewer (fun _ h => by simp at h)⟩
        case measure => simp [intOf]; omega
    · have hlt' : ¬ (k : Int) < (moves.length : Int) := by omega
      have HBW := hide (unhide HX).below
      go_wp2_with fail
      go_ret
      exact ⟨rfl, unhide HBW⟩
end Go.Proofs.YtbpajiljfppjcaaGreatDoor

namespace Go.Proofs.YtbpajiljfppjcaaGreatDoor
open Go.ChangeShapes Go.WideShapes Go.ChangeAt Go.RowKit

/-- The door's own heap meets the condition. -/
theorem roomy_met (os : Os) (args : Array Value) : laidMetH Tryz.prog Rows.roomyRow.laid ((World.doorLaid Tryz.prog 24 os).forCall (fun _ _ => 0) ⟨#[], args, []⟩).memory :=
  laidMetH_of_parts3 (fuel := 8) (laidMet_of_run' 8 (by kernel_rfl) (by kernel_rfl)) (by kernel_rfl) (by kernel_rfl)
set_option maxHeartbeats 1000000 in
set_option maxRecDepth 100000 in
theorem roomy_lifted (os : Os) (started : os.Started) (H : Type) (enc : TypeId × Value → H) :
    ReturnsInHanded {} Tryz.checked os 8 .any (fun w args => (Rows.roomySpec.pre enc Tryz.prog Tryz.f8 [] false w args ∧ laidMetH Tryz.prog Rows.roomyRow.laid w) ∧ sizedMet enc Tryz.prog Tryz.f8 (OpenSpec.ofChange Rows.roomySpec) false w args)
      (Rows.roomySpec.post enc Tryz.prog Tryz.f8 false true false false) := by
  refine returnsInHanded_of_change_and (C := Tryz.checked) (X := fun w _ => laidMetH Tryz.prog Rows.roomyRow.laid w) (fun _ _ _ hh h => h.of_heap hh) Tryz.own started (by kernel_rfl) Tryz.func8
    (ChangeSpec.witness_shaped (enc := enc) (C := Tryz.checked) (os := os) (X := fun w _ => laidMetH Tryz.prog Rows.roomyRow.laid w) false (World.doorLaid Tryz.prog 24 os) #[.slice none 0 0, .slice none 0 0, .int .i64 0, .int .i64 0, .slice none 0 0] 8 rfl (World.shaped_of_RefB (by kernel_rfl) (by kernel_rfl)) (by kernel_rfl) (by kernel_rfl) (by kernel_rfl) (roomy_met os _)) ?_
  intro W base args ds gs before hval0 hW _ hsize hL _
  have hval : ∀ (j : Nat) t v, Tryz.f8.params[j]? = some t → args[j]? = some v → Value.okWide Tryz.prog W .any base t v := hval0
  have hsz : (DataW.weightsEach Tryz.prog (Tryz.f8.params.toList ++ Rows.roomySpec.plain.varTypes Tryz.prog) (ds ++ gs)).all (· ≤ reachBytes) = true := hsize
  have hW' := hW
  obtain ⟨p, q, hA0, hV, rfl, _, _⟩ := hW
  have hA : DataW.TrodAll enc Tryz.prog W 0 (fun _ => true) true Tryz.f8.params.toList args.toList ds p := hA0
  rw [Tryz.params8] at hA hval hsz
  obtain ⟨v0, v1, v2, v3, v4, d0, d1, d2, d3, d4, p0, p1, p2, p3, p4, rfl, rfl, rfl, h0, h1, h2, h3, h4⟩ := trodAll_five hA
  obtain ⟨rfl, rfl⟩ := trodVars_none hV
  obtain ⟨a0, len0, cap0, rfl⟩ := okWide_slice Tryz.underlying22 (hval 0 22 v0 rfl rfl)
  obtain ⟨a1, len1, cap1, rfl⟩ := okWide_slice Tryz.underlying22 (hval 1 22 v1 rfl rfl)
  obtain ⟨i2, rfl⟩ := okWide_int Tryz.underlying3 (hval 2 3 v2 rfl rfl)
  obtain ⟨i3, rfl⟩ := okWide_int Tryz.underlying3 (hval 3 3 v3 rfl rfl)
  obtain ⟨a4, len4, cap4, rfl⟩ := okWide_slice Tryz.underlying22 (hval 4 22 v4 rfl rfl)
  clear hA0 hval0 hsize
  simp only [List.append_nil] at hW'
  have hlt : ∀ x ∈ p0 ++ p1 ++ p2 ++ p3 ++ p4, x.block < W.heap.size := fun x hx => by simpa using hW'.lt x hx
  have hlt0 : ∀ x ∈ p0, x.block < W.heap.size := fun x hx => hlt x (by simp [hx])
  have hlt1 : ∀ x ∈ p1, x.block < W.heap.size := fun x hx => hlt x (by simp [hx])
  have hlt2 : ∀ x ∈ p2, x.block < W.heap.size := fun x hx => hlt x (by simp [hx])
  have hlt3 : ∀ x ∈ p3, x.block < W.heap.size := fun x hx => hlt x (by simp [hx])
  have hlt4 : ∀ x ∈ p4, x.block < W.heap.size := fun x hx => hlt x (by simp [hx])
  obtain ⟨l0, hl0, hd0⟩ := ints_arg h0
  obtain ⟨l1, hl1, hd1⟩ := ints_arg h1
  obtain ⟨l4, hl4, hd4⟩ := ints_arg h4
  have hn4 := ints_len hsz (j := 4) rfl rfl hd4
  have hi2 : -9223372036854775808 ≤ i2 ∧ i2 ≤ 9223372036854775807 := by
    obtain ⟨f2, g2⟩ := h2
    obtain ⟨k, hk, _, hk3⟩ := DataW.trod_int Tryz.underlying3 g2
    simp [Value.cells] at hk
    subst hk
    exact bounds_i64 hk3
  have hi3 : -9223372036854775808 ≤ i3 ∧ i3 ≤ 9223372036854775807 := by
    obtain ⟨f2, g2⟩ := h3
    obtain ⟨k, hk, _, hk3⟩ := DataW.trod_int Tryz.underlying3 g2
    simp [Value.cells] at hk
    subst hk
    exact bounds_i64 hk3
  have hargs0 : ∀ (W' : World), Below W.heap.size W W' → DataW.Trod enc Tryz.prog W' 0 (fun b => decide (b < W.heap.size)) true 22 (.slice a0 len0 cap0) d0 p0 :=
    fun W' hn => Below.trod Tryz.laidOut (by kernel_rfl) (of_decide_eq_true (by kernel_rfl)) h0 hn hlt0
  have hargs1 : ∀ (W' : World), Below W.heap.size W W' → DataW.Trod enc Tryz.prog W' 0 (fun b => decide (b < W.heap.size)) true 22 (.slice a1 len1 cap1) d1 p1 :=
    fun W' hn => Below.trod Tryz.laidOut (by kernel_rfl) (of_decide_eq_true (by kernel_rfl)) h1 hn hlt1
  have hargs2 : ∀ (W' : World), Below W.heap.size W W' → DataW.Trod enc Tryz.prog W' 0 (fun b => decide (b < W.heap.size)) true 3 (.int .i64 i2) d2 p2 :=
    fun W' hn => Below.trod Tryz.laidOut (by kernel_rfl) (of_decide_eq_true (by kernel_rfl)) h2 hn hlt2
  have hargs3 : ∀ (W' : World), Below W.heap.size W W' → DataW.Trod enc Tryz.prog W' 0 (fun b => decide (b < W.heap.size)) true 3 (.int .i64 i3) d3 p3 :=
    fun W' hn => Below.trod Tryz.laidOut (by kernel_rfl) (of_decide_eq_true (by kernel_rfl)) h3 hn hlt3
  have hargs4 : ∀ (W' : World), Below W.heap.size W W' → DataW.Trod enc Tryz.prog W' 0 (fun b => decide (b < W.heap.size)) true 22 (.slice a4 len4 cap4) d4 p4 :=
    fun W' hn => Below.trod Tryz.laidOut (by kernel_rfl) (of_decide_eq_true (by kernel_rfl)) h4 hn hlt4
  refine (Roomy_any W _ _ _ l0 l1 l4 i2 i3 hl0 hl1 hl4 hi2 hi3 hn4).mono fun e W' ⟨he, hnx⟩ => ?_
  subst he
  have h9 := trodAll_mk5 (hargs0 _ hnx) (hargs1 _ hnx) (hargs2 _ hnx) (hargs3 _ hnx) (hargs4 _ hnx)
  simp only [← List.append_assoc] at h9
  exact ⟨_, rfl, _, _, _, [], p0 ++ p1 ++ p2 ++ p3 ++ p4, [], hW', trodAll_mk1 (shut_bool Tryz.underlying4 _), h9, rfl, hnx.frame _, fun h => by cases h⟩

theorem roomy_row : Rows.RoomySaid :=
  OpenClaim.holds_of_wide 8 Tryz.f8 rfl rfl rfl rfl rfl rfl rfl ⟨rfl, rfl, rfl, rfl, rfl⟩ rfl rfl rfl rfl rfl (by kernel_rfl) Tryz.func8 (by kernel_rfl)
    (of_decide_eq_true (by kernel_rfl)) (by unfold Func.isWrapper; first | (rw [if_pos (by decide +kernel)]; kernel_rfl) | (rw [if_neg (by decide +kernel)]; exact ⟨rfl, rfl⟩))
    (fun os started H enc _ => roomy_lifted os started H enc)

end Go.Proofs.YtbpajiljfppjcaaGreatDoor

