/- The move of a session by single steps backward: behind. -/
import Derived.Test.YtbpajiljfppjcaaGreatDoorSdC
namespace Go.Proofs.YtbpajiljfppjcaaGreatDoor
open Go.RowKit
attribute [local go_sem ↓] Go.wp_at_zero Go.wp_at_succ

namespace Rt
theorem bends_k (S : Src) (mk : List Bool) (low : Nat) (kind fuel d0 : Int) (n k : Nat) : bendsN S mk low kind fuel d0 n k = if ¬ (if k = 0 then 0 else arrivedI (seAt S n 0 mk) kind d0 1) = 0 then (if k = 0 then 0 else arrivedI (seAt S n 0 mk) kind d0 1) else if n = 0 then 5 else if n = low then 6 else if fuel ≤ (k : Int) then 4 else 0 := by
  rw [bends_eq]
  have ea : arrivedI (seAt S n 0 mk) kind d0 (k : Int) = if k = 0 then 0 else arrivedI (seAt S n 0 mk) kind d0 1 := by
    unfold arrivedI
    by_cases h : k = 0
    · rw [if_pos h, if_pos (show (k : Int) = 0 by omega)]
    · rw [if_neg h, if_neg (show ¬ (k : Int) = 0 by omega), if_neg (show ¬ (1 : Int) = 0 by omega)]
  rw [ea]
end Rt
set_option maxHeartbeats 4000000 in
set_option maxRecDepth 100000 in
theorem behind_any (w wr : World) (Pa Ba Pb Bb T M : Nat) (S : Rt.Src) (cap : Int) (mk : List Bool) (na la n low : Nat) (Xa Xb : McX) (ja jb : Value) (rest : List (Nat × Array Value × TypeId)) (h : TwI w wr Pa Ba Pb Bb S cap cap mk mk na la Xa ja n low Xb jb ((T, twC Pa Pb M, 46) :: (M, mkC mk, 4) :: rest)) (hc : Cst S cap mk) (kind : Int) (fuel : Nat) (hk : 0 ≤ kind ∧ kind ≤ 3) (hf : fuel ≤ 1000) (hn : n + 3000 ≤ 4611686018427386000) (F : Nat × Nat × Int) (hF : Rt.backN S mk low kind fuel (Rt.atM S n).frames.length (fuel + 1) n 0 = F) :
    Calls Tryz.prog 31 #[.pointer (some ⟨T, 0, none⟩), .int .i64 kind, .int .i64 fuel] wr fun e w' => e = .returned (.tuple #[.int .i64 F.2.2, .int .i64 (F.2.1 : Int)]) ∧ ∃ X' j', TwI w w' Pa Ba Pb Bb S cap cap mk mk na la Xa ja F.1 low X' j' ((T, twC Pa Pb M, 46) :: (M, mkC mk, 4) :: rest) := by
  have HI := hide h
  have HC := hide hc
  have HK := hide hk
  obtain ⟨t0, t1, t2⟩ := three_cells (h.bls (T, twC Pa Pb M, 46) (by simp)).1
  clear h hc hk
  go_enter Tryz.func31, Tryz.ntmps31
  go_wp2_with fail
  refine (unhide HI).b.whereS.mono ?_
  rintro e w1 ⟨rfl, hb1⟩
  have HI1 := hide ((unhide HI).later hb1)
  clear hb1 t0 t1 t2 HI
  unfold replyN
  generalize (Rt.atM S n).fin = f0 at *
  generalize (Rt.atM S n).line = l0 at *
  generalize ((Rt.atM S n).frames.length : Int) = d0 at *
  have HF := hide hF
  clear hF
  go_wp2_with fail
  have hq := hide ((unhide HI1).alloc #[.int .i64 0, .int .i64 0, .int .i64 f0, .int .i64 l0, .int .i64 d0, .int .i64 (n : Int)] 36 outR2)
  obtain ⟨A, hA⟩ : ∃ A, A = w1.heap.size := ⟨_, rfl⟩
  rw [← hA] at hq ⊢
  have hAT : ∀ b ∈ (T, twC Pa Pb M, 46) :: (M, mkC mk, 4) :: rest, b.1 ≠ A := fun b hb => by
    have g1 := block_lt ((unhide HI1).bls b hb).1
    omega
  clear HI1
  revert hq
  generalize w1.alloc (.cells #[.int .i64 0, .int .i64 0, .int .i64 f0, .int .i64 l0, .int .i64 d0, .int .i64 (n : Int)] 36) = wa
  intro HI2
  clear hA
  have HAT := hide hAT
  clear hAT
  go_loopw [10, 11, 12, 13, 14, 15] (fun i _ _ _ _ _ wr => ∃ (k m : Nat) (X' : McX) (j' : Value) (v0 v1 v2 v3 v4 v5 : Value), k ≤ fuel + 1 ∧ i = .int .i64 k ∧ m ≤ n ∧ TwI w wr Pa Ba Pb Bb S cap cap mk mk na la Xa ja m low X' j' ((A, #[v0, v1, v2, v3, v4, v5], 36) :: (T, twC Pa Pb M, 46) :: (M, mkC mk, 4) :: rest) ∧ ((k ≤ fuel ∧ Rt.backN S mk low kind fuel d0 (fuel + 1 - k) m k = F) ∨ (k = fuel + 1 ∧ F = (m, fuel, 4))))
    (fun i _ _ _ _ _ _ => fuel + 2 - (intOf i).toNat)
  case atStart => exact ⟨0, n, Xb, jb, _, _, _, _, _, _, Nat.zero_le _, rfl, Nat.le_refl _, unhide HI2, Or.inl ⟨Nat.zero_le _, unhide HF⟩⟩
  case round =>
    obtain ⟨k, m, X', j', v0, v1, v2, v3, v4, v5, hk, rfl, hm1, hI, hst⟩ := hrel
    have HX := hide hI
    obtain ⟨t0, t1, t2⟩ := three_cells (hI.bls (T, twC Pa Pb M, 46) (by simp)).1
    clear hI HI2 HF
    rcases hst with ⟨hkf, hst⟩ | ⟨hkf, hst⟩
    · have hk' : (k : Int) ≤ (fuel : Int) := by omega
      rw [show fuel + 1 - k = (fuel - k) + 1 by omega, Rt.backN, Rt.bends_k] at hst
      have HSt := hide hst
      clear hst
      go_wp2_with fail
      refine (unhide HX).b.whereS.mono ?_
      rintro e w2 ⟨rfl, hb2⟩
      have HX2 := hide ((unhide HX).later hb2)
      have hA := (unhide HX2).bls (A, #[v0, v1, v2, v3, v4, v5], 36) (by simp)
      obtain ⟨y0, y1, y2, y3, y4, y5, yz⟩ := six_any hA.1
      have hAw := block_lt hA.1
      clear hb2 hA t0 t1 t2
      unfold replyN
      obtain ⟨f1, hf1⟩ : ∃ f, f = (Rt.atM S m).fin := ⟨_, rfl⟩
      obtain ⟨l1, hl1⟩ : ∃ f, f = (Rt.atM S m).line := ⟨_, rfl⟩
      obtain ⟨d1, hd1⟩ : ∃ f : Int, f = ((Rt.atM S m).frames.length : Int) := ⟨_, rfl⟩
      rw [← hf1, ← hl1, ← hd1]
      clear hf1 hl1 hd1
      have hq := hide ((unhide HX2).set6 (unhide HAT) (.int .i64 0) (.int .i64 0) (.int .i64 f1) (.int .i64 l1) (.int .i64 d1) (.int .i64 (m : Int)))
      unfold W6 at hq
      revert hq
      generalize hWS : ((((((w2.setCell ⟨A, 0, none⟩ (.int .i64 0)).setCell ⟨A, 1, none⟩ (.int .i64 0)).setCell ⟨A, 2, none⟩ (.int .i64 f1)).setCell ⟨A, 3, none⟩ (.int .i64 l1)).setCell ⟨A, 4, none⟩ (.int .i64 d1)).setCell ⟨A, 5, none⟩ (.int .i64 (m : Int))) = wS
      intro hq
      have HWS := hide hWS
      clear hWS
      by_cases hk0 : k = 0
      · have hkp : ¬ (0 : Int) < (k : Int) := by omega
        have hst := unhide HSt
        rw [if_pos hk0, if_neg (not_not_intro rfl)] at hst
        have HSt3 := hide hst
        clear hst HSt hk0
        obtain ⟨t0, t1, t2⟩ := three_cells ((unhide HX2).bls (T, twC Pa Pb M, 46) (by simp)).1
        have hAT1 : ¬ A = T := fun e => unhide HAT (T, twC Pa Pb M, 46) (by simp) e.symm
        have hTA1 : ¬ T = A := unhide HAT (T, twC Pa Pb M, 46) (by simp)
        have HHd := hide ((unhide hq).b.held)
        go_wp2_with fail
        rw [unhide HWS]
        refine (unhide HHd).mono ?_
        rintro e w4 ⟨rfl, rfl⟩
        generalize (Rt.recsOf S low (m - low)).length = ct at *
        clear HHd
        have hAb := (unhide hq).bls (A, #[.int .i64 0, .int .i64 0, .int .i64 f1, .int .i64 l1, .int .i64 d1, .int .i64 (m : Int)], 36) (by simp)
        clear t0 t1 t2 y0 y1 y2 y3 y4 y5 yz hAw
        obtain ⟨b0, b1, b2, b3, b4, b5, bz⟩ := six_any hAb.1
        obtain ⟨t0, t1, t2⟩ := three_cells ((unhide hq).bls (T, twC Pa Pb M, 46) (by simp)).1
        have hAw4 := block_lt hAb.1
        clear hAb
        by_cases hm0 : m = 0
        · have hm0' : ((m : Int) == 0) = true := by rw [beq_iff_eq]; omega
          have HFE := hide (show F = (m, k, 5) by
            have := unhide HSt3
            rw [if_pos hm0, if_neg (show ¬ (5 : Int) = 0 by omega)] at this
            exact this.symm)
          have HR := hide ((unhide hq).fewer (bl' := (T, twC Pa Pb M, 46) :: (M, mkC mk, 4) :: rest) (fun b hb => List.mem_cons_of_mem _ hb))
          clear HSt3 hm0
          go_wp2_with fail
          refine bodyPost_ret (v := .tuple #[.int .i64 5, .int .i64 (k : Int)]) ?_ rfl ⟨by rw [unhide HFE], X', j', by rw [unhide HFE]; exact unhide HR⟩
          simp [results, Tryz.results31, go_sem]
        · have hm0' : ((m : Int) == 0) = false := by rw [beq_eq_false_iff_ne]; omega
          by_cases hml : m = low
          · have hml' : ((m : Int) == (low : Int)) = true := by rw [beq_iff_eq]; omega
            have HFE := hide (show F = (m, k, 6) by
              have := unhide HSt3
              rw [if_neg hm0, if_pos hml, if_neg (show ¬ (6 : Int) = 0 by omega)] at this
              exact this.symm)
            have HR := hide ((unhide hq).fewer (bl' := (T, twC Pa Pb M, 46) :: (M, mkC mk, 4) :: rest) (fun b hb => List.mem_cons_of_mem _ hb))
            clear HSt3 hm0 hml
            go_wp2_with fail
            refine bodyPost_ret (v := .tuple #[.int .i64 6, .int .i64 (k : Int)]) ?_ rfl ⟨by rw [unhide HFE], X', j', by rw [unhide HFE]; exact unhide HR⟩
            simp [results, Tryz.results31, go_sem]
          · have hml' : ((m : Int) == (low : Int)) = false := by rw [beq_eq_false_iff_ne]; omega
            by_cases hkl : k < fuel
            · have hkl' : (k : Int) < (fuel : Int) := by omega
              obtain ⟨p, hp⟩ : ∃ p, m - 1 = p := ⟨_, rfl⟩
              have HNx := hide (show Rt.backN S mk low kind fuel d0 (fuel + 1 - (k + 1)) p (k + 1) = F by
                have := unhide HSt3
                rw [if_neg hm0, if_neg hml, if_neg (show ¬ (fuel : Int) ≤ (k : Int) by omega), if_pos rfl] at this
                rw [show fuel + 1 - (k + 1) = fuel - k by omega, ← hp]
                exact this)
              have hw : IntKind.i64.wrap ((m : Int) - 1) = (p : Int) := by rw [IntWalk.i64_left, IntWalk.wrap64_in _ (by omega)]; omega
              have HFd := hide ((unhide hq).b.bwd1 (unhide HC) hm0 hml (by omega))
              rw [hp] at HFd
              have HPM := hide (show p + 1 = m by omega)
              clear HSt3 hm0 hml hp
              go_wp2_with fail
              refine (unhide HFd).mono ?_
              rintro e w5 ⟨rfl, X2, j2, hA, hok⟩
              have HX4 := hide ((unhide hq).moveB hA hok)
              have hAb := (unhide HX4).bls (A, #[.int .i64 0, .int .i64 0, .int .i64 f1, .int .i64 l1, .int .i64 d1, .int .i64 (m : Int)], 36) (by simp)
              clear b0 b1 b2 b3 b4 b5 bz t0 t1 t2
              obtain ⟨b0, b1, b2, b3, b4, b5, bz⟩ := six_any hAb.1
              have hAw5 := block_lt hAb.1
              clear hA hok HFd hAb
              unfold replyN
              generalize (Rt.atM S p).fin = f5 at *
              generalize (Rt.atM S p).line = l5 at *
              generalize ((Rt.atM S p).frames.length : Int) = d5 at *
              have HX5 := hide ((unhide HX4).later ((Below.refl w5.heap.size w5).alloc (Nat.le_refl _) (.cells #[.int .i64 1, .int .i64 1, .int .i64 f5, .int .i64 l5, .int .i64 d5, .int .i64 (p : Int)] 36)))
              go_wp2_with fail
              go_roundw
              case rel => exact ⟨k + 1, p, X2, j2, _, _, _, _, _, _, by omega, by go_num, by have := unhide HPM; omega, unhide HX5, Or.inl ⟨by omega, unhide HNx⟩⟩
              case measure => simp [intOf]; omega
            · have hkl' : ¬ (k : Int) < (fuel : Int) := by omega
              have HFE := hide (show F = (m, fuel, 4) by
                have := unhide HSt3
                rw [if_neg hm0, if_neg hml, if_pos (show (fuel : Int) ≤ (k : Int) by omega), if_neg (show ¬ (4 : Int) = 0 by omega)] at this
                rw [← this, show k = fuel by omega])
              clear HSt3 hm0 hml
              go_wp2_with fail
              go_roundw
              case rel => exact ⟨k + 1, m, X', j', _, _, _, _, _, _, by omega, by go_num, hm1, unhide hq, Or.inr ⟨by omega, unhide HFE⟩⟩
              case measure => simp [intOf]; omega
      · have hkp : (0 : Int) < (k : Int) := by omega
        have hst := unhide HSt
        rw [if_neg hk0] at hst
        have HSt3 := hide hst
        have HCm := hide (come_any w wS Pa Ba Pb Bb T M S cap cap mk na la m low Xa X' ja j' _ (unhide hq) (by simp) (by simp) (unhide HC).mks kind d0 (unhide HK))
        clear hst HSt
        generalize Rt.arrivedI (Rt.seAt S m 0 mk) kind d0 1 = ai at *
        go_wp2_with fail
        rw [unhide HWS]
        refine (unhide HCm).mono ?_
        rintro e w3 ⟨rfl, hb3⟩
        have HX3 := hide ((unhide hq).later hb3)
        obtain ⟨t0, t1, t2⟩ := three_cells ((unhide HX3).bls (T, twC Pa Pb M, 46) (by simp)).1
        have hA := (unhide HX3).bls (A, #[.int .i64 0, .int .i64 0, .int .i64 f1, .int .i64 l1, .int .i64 d1, .int .i64 (m : Int)], 36) (by simp)
        obtain ⟨z0, z1, z2, z3, z4, z5, zz⟩ := six_any hA.1
        have hAw3 := block_lt hA.1
        clear hb3 HCm hA y0 y1 y2 y3 y4 y5 yz hAw hq HX2 HX HWS
        by_cases ha : ai = 0
        · subst ha
          have hst := unhide HSt3
          rw [if_neg (not_not_intro rfl)] at hst
          replace HSt3 := hide hst
          clear hst
          have HHd := hide ((unhide HX3).b.held)
          go_wp2_with fail
          refine (unhide HHd).mono ?_
          rintro e w4 ⟨rfl, rfl⟩
          generalize (Rt.recsOf S low (m - low)).length = ct at *
          clear HHd
          have hAb := (unhide HX3).bls (A, #[.int .i64 0, .int .i64 0, .int .i64 f1, .int .i64 l1, .int .i64 d1, .int .i64 (m : Int)], 36) (by simp)
          clear t0 t1 t2 z0 z1 z2 z3 z4 z5 zz hAw3
          obtain ⟨b0, b1, b2, b3, b4, b5, bz⟩ := six_any hAb.1
          obtain ⟨t0, t1, t2⟩ := three_cells ((unhide HX3).bls (T, twC Pa Pb M, 46) (by simp)).1
          have hAw4 := block_lt hAb.1
          clear hAb
          by_cases hm0 : m = 0
          · have hm0' : ((m : Int) == 0) = true := by rw [beq_iff_eq]; omega
            have HFE := hide (show F = (m, k, 5) by
              have := unhide HSt3
              rw [if_pos hm0, if_neg (show ¬ (5 : Int) = 0 by omega)] at this
              exact this.symm)
            have HR := hide ((unhide HX3).fewer (bl' := (T, twC Pa Pb M, 46) :: (M, mkC mk, 4) :: rest) (fun b hb => List.mem_cons_of_mem _ hb))
            clear HSt3 hm0
            go_wp2_with fail
            refine bodyPost_ret (v := .tuple #[.int .i64 5, .int .i64 (k : Int)]) ?_ rfl ⟨by rw [unhide HFE], X', j', by rw [unhide HFE]; exact unhide HR⟩
            simp [results, Tryz.results31, go_sem]
          · have hm0' : ((m : Int) == 0) = false := by rw [beq_eq_false_iff_ne]; omega
            by_cases hml : m = low
            · have hml' : ((m : Int) == (low : Int)) = true := by rw [beq_iff_eq]; omega
              have HFE := hide (show F = (m, k, 6) by
                have := unhide HSt3
                rw [if_neg hm0, if_pos hml, if_neg (show ¬ (6 : Int) = 0 by omega)] at this
                exact this.symm)
              have HR := hide ((unhide HX3).fewer (bl' := (T, twC Pa Pb M, 46) :: (M, mkC mk, 4) :: rest) (fun b hb => List.mem_cons_of_mem _ hb))
              clear HSt3 hm0 hml
              go_wp2_with fail
              refine bodyPost_ret (v := .tuple #[.int .i64 6, .int .i64 (k : Int)]) ?_ rfl ⟨by rw [unhide HFE], X', j', by rw [unhide HFE]; exact unhide HR⟩
              simp [results, Tryz.results31, go_sem]
            · have hml' : ((m : Int) == (low : Int)) = false := by rw [beq_eq_false_iff_ne]; omega
              by_cases hkl : k < fuel
              · have hkl' : (k : Int) < (fuel : Int) := by omega
                obtain ⟨p, hp⟩ : ∃ p, m - 1 = p := ⟨_, rfl⟩
                have HNx := hide (show Rt.backN S mk low kind fuel d0 (fuel + 1 - (k + 1)) p (k + 1) = F by
                  have := unhide HSt3
                  rw [if_neg hm0, if_neg hml, if_neg (show ¬ (fuel : Int) ≤ (k : Int) by omega), if_pos rfl] at this
                  rw [show fuel + 1 - (k + 1) = fuel - k by omega, ← hp]
                  exact this)
                have hw : IntKind.i64.wrap ((m : Int) - 1) = (p : Int) := by rw [IntWalk.i64_left, IntWalk.wrap64_in _ (by omega)]; omega
                have HFd := hide ((unhide HX3).b.bwd1 (unhide HC) hm0 hml (by omega))
                rw [hp] at HFd
                have HPM := hide (show p + 1 = m by omega)
                clear HSt3 hm0 hml hp
                go_wp2_with fail
                refine (unhide HFd).mono ?_
                rintro e w5 ⟨rfl, X2, j2, hA, hok⟩
                have HX4 := hide ((unhide HX3).moveB hA hok)
                have hAb := (unhide HX4).bls (A, #[.int .i64 0, .int .i64 0, .int .i64 f1, .int .i64 l1, .int .i64 d1, .int .i64 (m : Int)], 36) (by simp)
                clear b0 b1 b2 b3 b4 b5 bz t0 t1 t2
                obtain ⟨b0, b1, b2, b3, b4, b5, bz⟩ := six_any hAb.1
                have hAw5 := block_lt hAb.1
                clear hA hok HFd hAb
                unfold replyN
                generalize (Rt.atM S p).fin = f5 at *
                generalize (Rt.atM S p).line = l5 at *
                generalize ((Rt.atM S p).frames.length : Int) = d5 at *
                have HX5 := hide ((unhide HX4).later ((Below.refl w5.heap.size w5).alloc (Nat.le_refl _) (.cells #[.int .i64 1, .int .i64 1, .int .i64 f5, .int .i64 l5, .int .i64 d5, .int .i64 (p : Int)] 36)))
                go_wp2_with fail
                go_roundw
                case rel => exact ⟨k + 1, p, X2, j2, _, _, _, _, _, _, by omega, by go_num, by have := unhide HPM; omega, unhide HX5, Or.inl ⟨by omega, unhide HNx⟩⟩
                case measure => simp [intOf]; omega
              · have hkl' : ¬ (k : Int) < (fuel : Int) := by omega
                have HFE := hide (show F = (m, fuel, 4) by
                  have := unhide HSt3
                  rw [if_neg hm0, if_neg hml, if_pos (show (fuel : Int) ≤ (k : Int) by omega), if_neg (show ¬ (4 : Int) = 0 by omega)] at this
                  rw [← this, show k = fuel by omega])
                clear HSt3 hm0 hml
                go_wp2_with fail
                go_roundw
                case rel => exact ⟨k + 1, m, X', j', _, _, _, _, _, _, by omega, by go_num, hm1, unhide HX3, Or.inr ⟨by omega, unhide HFE⟩⟩
                case measure => simp [intOf]; omega
        · have ha' : (ai != 0) = true := by simpa using ha
          have HFE := hide (show F = (m, k, ai) by have := unhide HSt3; rw [if_pos ha, if_neg ha] at this; exact this.symm)
          have HR := hide ((unhide HX3).fewer (bl' := (T, twC Pa Pb M, 46) :: (M, mkC mk, 4) :: rest) (fun b hb => List.mem_cons_of_mem _ hb))
          clear ha HSt3 HX3
          go_wp2_with fail
          refine bodyPost_ret (v := .tuple #[.int .i64 ai, .int .i64 (k : Int)]) ?_ rfl ⟨by rw [unhide HFE], X', j', by rw [unhide HFE]; exact unhide HR⟩
          simp [results, Tryz.results31, go_sem]
    · have hk' : ¬ (k : Int) ≤ (fuel : Int) := by omega
      have HFE := hide hst
      have HR := hide ((unhide HX).fewer (bl' := (T, twC Pa Pb M, 46) :: (M, mkC mk, 4) :: rest) (fun b hb => List.mem_cons_of_mem _ hb))
      clear hst HX
      go_wp2_with fail
      refine bodyPost_ret (v := .tuple #[.int .i64 4, .int .i64 (fuel : Int)]) ?_ rfl ⟨by rw [unhide HFE], X', j', by rw [unhide HFE]; exact unhide HR⟩
      simp [results, Tryz.results31, go_sem]
end Go.Proofs.YtbpajiljfppjcaaGreatDoor

