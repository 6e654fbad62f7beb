/- What is apart from a session. -/
import Derived.Test.YtbpajiljfppjcaaGreatRcA
namespace Go.Proofs.YtbpajiljfppjcaaGreat
open Go.RowKit
namespace Rt
/-- A run that goes on till it ends. -/
theorem at_next {S : Src} {n : Nat} {m m' : Mc} (h : atM S n = m) (hs : (stepM S m).1 = m') : atM S (n + 1) = m' := by
  show (stepM S (atM S n)).1 = m'
  rw [h, hs]
theorem rc_deepAt (k : Int) (h6 : 6 ≤ k) (hm : k ≤ 9223372036854775807) : atM (rcSrc k) 0 = rcM [noFm] 0 0 0 [] 10 ∧ atM (rcSrc k) 1 = rcM [noFm] 1 0 0 [] 11 ∧ atM (rcSrc k) 2 = rcM [noFm] 1 k 1 [] 12 ∧ atM (rcSrc k) 3 = rcM [noFm, ⟨[k], 12⟩] 1 k 1 [] 4 ∧ atM (rcSrc k) 4 = rcM [noFm, ⟨[k], 12⟩] 1 k 1 [] 5 ∧ atM (rcSrc k) 5 = rcM [noFm, ⟨[k], 12⟩] (wrap64 (1 * k)) k 1 [] 6 ∧ atM (rcSrc k) 6 = rcM [noFm, ⟨[k], 12⟩, ⟨[(k - 1)], 6⟩] (wrap64 (1 * k)) k 1 [] 4 ∧ atM (rcSrc k) 7 = rcM [noFm, ⟨[k], 12⟩, ⟨[(k - 1)], 6⟩] (wrap64 (1 * k)) k 1 [] 5 ∧ atM (rcSrc k) 8 = rcM [noFm, ⟨[k], 12⟩, ⟨[(k - 1)], 6⟩] (wrap64 ((wrap64 (1 * k)) * (k - 1))) k 1 [] 6 ∧ atM (rcSrc k) 9 = rcM [noFm, ⟨[k], 12⟩, ⟨[(k - 1)], 6⟩, ⟨[(k - 2)], 6⟩] (wrap64 ((wrap64 (1 * k)) * (k - 1))) k 1 [] 4 ∧ atM (rcSrc k) 10 = rcM [noFm, ⟨[k], 12⟩, ⟨[(k - 1)], 6⟩, ⟨[(k - 2)], 6⟩] (wrap64 ((wrap64 (1 * k)) * (k - 1))) k 1 [] 5 ∧ atM (rcSrc k) 11 = rcM [noFm, ⟨[k], 12⟩, ⟨[(k - 1)], 6⟩, ⟨[(k - 2)], 6⟩] (wrap64 ((wrap64 ((wrap64 (1 * k)) * (k - 1))) * (k - 2))) k 1 [] 6 ∧ atM (rcSrc k) 12 = rcM [noFm, ⟨[k], 12⟩, ⟨[(k - 1)], 6⟩, ⟨[(k - 2)], 6⟩, ⟨[(k - 3)], 6⟩] (wrap64 ((wrap64 ((wrap64 (1 * k)) * (k - 1))) * (k - 2))) k 1 [] 4 ∧ atM (rcSrc k) 13 = rcM [noFm, ⟨[k], 12⟩, ⟨[(k - 1)], 6⟩, ⟨[(k - 2)], 6⟩, ⟨[(k - 3)], 6⟩] (wrap64 ((wrap64 ((wrap64 (1 * k)) * (k - 1))) * (k - 2))) k 1 [] 5 ∧ atM (rcSrc k) 14 = rcM [noFm, ⟨[k], 12⟩, ⟨[(k - 1)], 6⟩, ⟨[(k - 2)], 6⟩, ⟨[(k - 3)], 6⟩] (wrap64 ((wrap64 ((wrap64 ((wrap64 (1 * k)) * (k - 1))) * (k - 2))) * (k - 3))) k 1 [] 6 ∧ atM (rcSrc k) 15 = rcM [noFm, ⟨[k], 12⟩, ⟨[(k - 1)], 6⟩, ⟨[(k - 2)], 6⟩, ⟨[(k - 3)], 6⟩, ⟨[(k - 4)], 6⟩] (wrap64 ((wrap64 ((wrap64 ((wrap64 (1 * k)) * (k - 1))) * (k - 2))) * (k - 3))) k 1 [] 4 ∧ atM (rcSrc k) 16 = rcM [noFm, ⟨[k], 12⟩, ⟨[(k - 1)], 6⟩, ⟨[(k - 2)], 6⟩, ⟨[(k - 3)], 6⟩, ⟨[(k - 4)], 6⟩] (wrap64 ((wrap64 ((wrap64 ((wrap64 (1 * k)) * (k - 1))) * (k - 2))) * (k - 3))) k 1 [] 5 ∧ atM (rcSrc k) 17 = rcM [noFm, ⟨[k], 12⟩, ⟨[(k - 1)], 6⟩, ⟨[(k - 2)], 6⟩, ⟨[(k - 3)], 6⟩, ⟨[(k - 4)], 6⟩] (wrap64 ((wrap64 ((wrap64 ((wrap64 ((wrap64 (1 * k)) * (k - 1))) * (k - 2))) * (k - 3))) * (k - 4))) k 1 [] 6 ∧ atM (rcSrc k) 18 = { rcM [noFm, ⟨[k], 12⟩, ⟨[(k - 1)], 6⟩, ⟨[(k - 2)], 6⟩, ⟨[(k - 3)], 6⟩, ⟨[(k - 4)], 6⟩] (wrap64 ((wrap64 ((wrap64 ((wrap64 ((wrap64 (1 * k)) * (k - 1))) * (k - 2))) * (k - 3))) * (k - 4))) k 1 [] 6 with fin := 5 } := by
  have w1 : wrap64 (k - 1) = k - 1 := IntWalk.wrap64_in _ (by omega)
  have w2 : wrap64 (k - 1 - 1) = k - 2 := by rw [IntWalk.wrap64_in _ (by omega)]; omega
  have w3 : wrap64 (k - 2 - 1) = k - 3 := by rw [IntWalk.wrap64_in _ (by omega)]; omega
  have w4 : wrap64 (k - 3 - 1) = k - 4 := by rw [IntWalk.wrap64_in _ (by omega)]; omega
  have h0 : atM (rcSrc k) 0 = rcM [noFm] 0 0 0 [] 10 := rc_first k
  have h1 : atM (rcSrc k) 1 = rcM [noFm] 1 0 0 [] 11 := at_next h0 (rc_st10 ..)
  have h2 : atM (rcSrc k) 2 = rcM [noFm] 1 k 1 [] 12 := at_next h1 (rc_st11 ..)
  have h3 : atM (rcSrc k) 3 = rcM [noFm, ⟨[k], 12⟩] 1 k 1 [] 4 := at_next h2 (rc_st12 ..)
  have h4 : atM (rcSrc k) 4 = rcM [noFm, ⟨[k], 12⟩] 1 k 1 [] 5 := at_next h3 (rc_yes2 (h := by omega) ..)
  have h5 : atM (rcSrc k) 5 = rcM [noFm, ⟨[k], 12⟩] (wrap64 (1 * k)) k 1 [] 6 := at_next h4 (rc_set2 ..)
  have h6 : atM (rcSrc k) 6 = rcM [noFm, ⟨[k], 12⟩, ⟨[(k - 1)], 6⟩] (wrap64 (1 * k)) k 1 [] 4 := at_next h5 (by rw [rc_call2, w1])
  have h7 : atM (rcSrc k) 7 = rcM [noFm, ⟨[k], 12⟩, ⟨[(k - 1)], 6⟩] (wrap64 (1 * k)) k 1 [] 5 := at_next h6 (rc_yes3 (h := by omega) ..)
  have h8 : atM (rcSrc k) 8 = rcM [noFm, ⟨[k], 12⟩, ⟨[(k - 1)], 6⟩] (wrap64 ((wrap64 (1 * k)) * (k - 1))) k 1 [] 6 := at_next h7 (rc_set3 ..)
  have h9 : atM (rcSrc k) 9 = rcM [noFm, ⟨[k], 12⟩, ⟨[(k - 1)], 6⟩, ⟨[(k - 2)], 6⟩] (wrap64 ((wrap64 (1 * k)) * (k - 1))) k 1 [] 4 := at_next h8 (by rw [rc_call3, w2])
  have h10 : atM (rcSrc k) 10 = rcM [noFm, ⟨[k], 12⟩, ⟨[(k - 1)], 6⟩, ⟨[(k - 2)], 6⟩] (wrap64 ((wrap64 (1 * k)) * (k - 1))) k 1 [] 5 := at_next h9 (rc_yes4 (h := by omega) ..)
  have h11 : atM (rcSrc k) 11 = rcM [noFm, ⟨[k], 12⟩, ⟨[(k - 1)], 6⟩, ⟨[(k - 2)], 6⟩] (wrap64 ((wrap64 ((wrap64 (1 * k)) * (k - 1))) * (k - 2))) k 1 [] 6 := at_next h10 (rc_set4 ..)
  have h12 : atM (rcSrc k) 12 = rcM [noFm, ⟨[k], 12⟩, ⟨[(k - 1)], 6⟩, ⟨[(k - 2)], 6⟩, ⟨[(k - 3)], 6⟩] (wrap64 ((wrap64 ((wrap64 (1 * k)) * (k - 1))) * (k - 2))) k 1 [] 4 := at_next h11 (by rw [rc_call4, w3])
  have h13 : atM (rcSrc k) 13 = rcM [noFm, ⟨[k], 12⟩, ⟨[(k - 1)], 6⟩, ⟨[(k - 2)], 6⟩, ⟨[(k - 3)], 6⟩] (wrap64 ((wrap64 ((wrap64 (1 * k)) * (k - 1))) * (k - 2))) k 1 [] 5 := at_next h12 (rc_yes5 (h := by omega) ..)
  have h14 : atM (rcSrc k) 14 = rcM [noFm, ⟨[k], 12⟩, ⟨[(k - 1)], 6⟩, ⟨[(k - 2)], 6⟩, ⟨[(k - 3)], 6⟩] (wrap64 ((wrap64 ((wrap64 ((wrap64 (1 * k)) * (k - 1))) * (k - 2))) * (k - 3))) k 1 [] 6 := at_next h13 (rc_set5 ..)
  have h15 : atM (rcSrc k) 15 = rcM [noFm, ⟨[k], 12⟩, ⟨[(k - 1)], 6⟩, ⟨[(k - 2)], 6⟩, ⟨[(k - 3)], 6⟩, ⟨[(k - 4)], 6⟩] (wrap64 ((wrap64 ((wrap64 ((wrap64 (1 * k)) * (k - 1))) * (k - 2))) * (k - 3))) k 1 [] 4 := at_next h14 (by rw [rc_call5, w4])
  have h16 : atM (rcSrc k) 16 = rcM [noFm, ⟨[k], 12⟩, ⟨[(k - 1)], 6⟩, ⟨[(k - 2)], 6⟩, ⟨[(k - 3)], 6⟩, ⟨[(k - 4)], 6⟩] (wrap64 ((wrap64 ((wrap64 ((wrap64 (1 * k)) * (k - 1))) * (k - 2))) * (k - 3))) k 1 [] 5 := at_next h15 (rc_yes6 (h := by omega) ..)
  have h17 : atM (rcSrc k) 17 = rcM [noFm, ⟨[k], 12⟩, ⟨[(k - 1)], 6⟩, ⟨[(k - 2)], 6⟩, ⟨[(k - 3)], 6⟩, ⟨[(k - 4)], 6⟩] (wrap64 ((wrap64 ((wrap64 ((wrap64 ((wrap64 (1 * k)) * (k - 1))) * (k - 2))) * (k - 3))) * (k - 4))) k 1 [] 6 := at_next h16 (rc_set6 ..)
  have h18 : atM (rcSrc k) 18 = { rcM [noFm, ⟨[k], 12⟩, ⟨[(k - 1)], 6⟩, ⟨[(k - 2)], 6⟩, ⟨[(k - 3)], 6⟩, ⟨[(k - 4)], 6⟩] (wrap64 ((wrap64 ((wrap64 ((wrap64 ((wrap64 (1 * k)) * (k - 1))) * (k - 2))) * (k - 3))) * (k - 4))) k 1 [] 6 with fin := 5 } := at_next h17 (rc_deep ..)
  exact ⟨h0, h1, h2, h3, h4, h5, h6, h7, h8, h9, h10, h11, h12, h13, h14, h15, h16, h17, h18⟩
theorem rc_lowAt (k : Int) (h1 : k ≤ 1) : atM (rcSrc k) 0 = rcM [noFm] 0 0 0 [] 10 ∧ atM (rcSrc k) 1 = rcM [noFm] 1 0 0 [] 11 ∧ atM (rcSrc k) 2 = rcM [noFm] 1 k 1 [] 12 ∧ atM (rcSrc k) 3 = rcM [noFm, ⟨[k], 12⟩] 1 k 1 [] 4 ∧ atM (rcSrc k) 4 = rcM [noFm, ⟨[k], 12⟩] 1 k 1 [] 8 ∧ atM (rcSrc k) 5 = rcM [noFm] 1 k 1 [] 13 ∧ atM (rcSrc k) 6 = rcM [noFm] 1 k 1 [1] 14 ∧ atM (rcSrc k) 7 = { rcM [noFm] 1 k 1 [1] 14 with fin := 1 } := by
  have hk := h1
  clear h1
  have h0 : atM (rcSrc k) 0 = rcM [noFm] 0 0 0 [] 10 := rc_first k
  have h1 : atM (rcSrc k) 1 = rcM [noFm] 1 0 0 [] 11 := at_next h0 (rc_st10 ..)
  have h2 : atM (rcSrc k) 2 = rcM [noFm] 1 k 1 [] 12 := at_next h1 (rc_st11 ..)
  have h3 : atM (rcSrc k) 3 = rcM [noFm, ⟨[k], 12⟩] 1 k 1 [] 4 := at_next h2 (rc_st12 ..)
  have h4 : atM (rcSrc k) 4 = rcM [noFm, ⟨[k], 12⟩] 1 k 1 [] 8 := at_next h3 (rc_no2 (h := by omega) ..)
  have h5 : atM (rcSrc k) 5 = rcM [noFm] 1 k 1 [] 13 := at_next h4 (rc_back2 ..)
  have h6 : atM (rcSrc k) 6 = rcM [noFm] 1 k 1 [1] 14 := at_next h5 (rc_st13 ..)
  have h7 : atM (rcSrc k) 7 = { rcM [noFm] 1 k 1 [1] 14 with fin := 1 } := at_next h6 (rc_st14 ..)
  exact ⟨h0, h1, h2, h3, h4, h5, h6, h7⟩
theorem rc_at2 : (∀ i, i < 11 → (atM (rcSrc 2) i).fin = 0) ∧ atM (rcSrc 2) 11 = { rcM [noFm] 2 2 1 [2] 14 with fin := 1 } := by
  have h0 : atM (rcSrc 2) 0 = rcM [noFm] 0 0 0 [] 10 := rc_first 2
  have h1 : atM (rcSrc 2) 1 = rcM [noFm] 1 0 0 [] 11 := at_next h0 (rc_st10 ..)
  have h2 : atM (rcSrc 2) 2 = rcM [noFm] 1 2 1 [] 12 := at_next h1 (rc_st11 ..)
  have h3 : atM (rcSrc 2) 3 = rcM [noFm, ⟨[2], 12⟩] 1 2 1 [] 4 := at_next h2 (rc_st12 ..)
  have h4 : atM (rcSrc 2) 4 = rcM [noFm, ⟨[2], 12⟩] 1 2 1 [] 5 := at_next h3 (rc_yes2 (h := by decide) ..)
  have h5 : atM (rcSrc 2) 5 = rcM [noFm, ⟨[2], 12⟩] 2 2 1 [] 6 := at_next h4 ((rc_set2 ..).trans (by kernel_rfl))
  have h6 : atM (rcSrc 2) 6 = rcM [noFm, ⟨[2], 12⟩, ⟨[1], 6⟩] 2 2 1 [] 4 := at_next h5 ((rc_call2 ..).trans (by kernel_rfl))
  have h7 : atM (rcSrc 2) 7 = rcM [noFm, ⟨[2], 12⟩, ⟨[1], 6⟩] 2 2 1 [] 8 := at_next h6 (rc_no3 (h := by decide) ..)
  have h8 : atM (rcSrc 2) 8 = rcM [noFm, ⟨[2], 12⟩] 2 2 1 [] 8 := at_next h7 (rc_ret3 ..)
  have h9 : atM (rcSrc 2) 9 = rcM [noFm] 2 2 1 [] 13 := at_next h8 (rc_back2 ..)
  have h10 : atM (rcSrc 2) 10 = rcM [noFm] 2 2 1 [2] 14 := at_next h9 (rc_st13 ..)
  have h11 : atM (rcSrc 2) 11 = { rcM [noFm] 2 2 1 [2] 14 with fin := 1 } := at_next h10 (rc_st14 ..)
  refine ⟨fun i hi => ?_, h11⟩
  match i, hi with
  | 0, _ => rw [h0]; rfl
  | 1, _ => rw [h1]; rfl
  | 2, _ => rw [h2]; rfl
  | 3, _ => rw [h3]; rfl
  | 4, _ => rw [h4]; rfl
  | 5, _ => rw [h5]; rfl
  | 6, _ => rw [h6]; rfl
  | 7, _ => rw [h7]; rfl
  | 8, _ => rw [h8]; rfl
  | 9, _ => rw [h9]; rfl
  | 10, _ => rw [h10]; rfl
  | j + 11, hj => exact absurd hj (by omega)
theorem rc_at3 : (∀ i, i < 15 → (atM (rcSrc 3) i).fin = 0) ∧ atM (rcSrc 3) 15 = { rcM [noFm] 6 3 1 [6] 14 with fin := 1 } := by
  have h0 : atM (rcSrc 3) 0 = rcM [noFm] 0 0 0 [] 10 := rc_first 3
  have h1 : atM (rcSrc 3) 1 = rcM [noFm] 1 0 0 [] 11 := at_next h0 (rc_st10 ..)
  have h2 : atM (rcSrc 3) 2 = rcM [noFm] 1 3 1 [] 12 := at_next h1 (rc_st11 ..)
  have h3 : atM (rcSrc 3) 3 = rcM [noFm, ⟨[3], 12⟩] 1 3 1 [] 4 := at_next h2 (rc_st12 ..)
  have h4 : atM (rcSrc 3) 4 = rcM [noFm, ⟨[3], 12⟩] 1 3 1 [] 5 := at_next h3 (rc_yes2 (h := by decide) ..)
  have h5 : atM (rcSrc 3) 5 = rcM [noFm, ⟨[3], 12⟩] 3 3 1 [] 6 := at_next h4 ((rc_set2 ..).trans (by kernel_rfl))
  have h6 : atM (rcSrc 3) 6 = rcM [noFm, ⟨[3], 12⟩, ⟨[2], 6⟩] 3 3 1 [] 4 := at_next h5 ((rc_call2 ..).trans (by kernel_rfl))
  have h7 : atM (rcSrc 3) 7 = rcM [noFm, ⟨[3], 12⟩, ⟨[2], 6⟩] 3 3 1 [] 5 := at_next h6 (rc_yes3 (h := by decide) ..)
  have h8 : atM (rcSrc 3) 8 = rcM [noFm, ⟨[3], 12⟩, ⟨[2], 6⟩] 6 3 1 [] 6 := at_next h7 ((rc_set3 ..).trans (by kernel_rfl))
  have h9 : atM (rcSrc 3) 9 = rcM [noFm, ⟨[3], 12⟩, ⟨[2], 6⟩, ⟨[1], 6⟩] 6 3 1 [] 4 := at_next h8 ((rc_call3 ..).trans (by kernel_rfl))
  have h10 : atM (rcSrc 3) 10 = rcM [noFm, ⟨[3], 12⟩, ⟨[2], 6⟩, ⟨[1], 6⟩] 6 3 1 [] 8 := at_next h9 (rc_no4 (h := by decide) ..)
  have h11 : atM (rcSrc 3) 11 = rcM [noFm, ⟨[3], 12⟩, ⟨[2], 6⟩] 6 3 1 [] 8 := at_next h10 (rc_ret4 ..)
  have h12 : atM (rcSrc 3) 12 = rcM [noFm, ⟨[3], 12⟩] 6 3 1 [] 8 := at_next h11 (rc_ret3 ..)
  have h13 : atM (rcSrc 3) 13 = rcM [noFm] 6 3 1 [] 13 := at_next h12 (rc_back2 ..)
  have h14 : atM (rcSrc 3) 14 = rcM [noFm] 6 3 1 [6] 14 := at_next h13 (rc_st13 ..)
  have h15 : atM (rcSrc 3) 15 = { rcM [noFm] 6 3 1 [6] 14 with fin := 1 } := at_next h14 (rc_st14 ..)
  refine ⟨fun i hi => ?_, h15⟩
  match i, hi with
  | 0, _ => rw [h0]; rfl
  | 1, _ => rw [h1]; rfl
  | 2, _ => rw [h2]; rfl
  | 3, _ => rw [h3]; rfl
  | 4, _ => rw [h4]; rfl
  | 5, _ => rw [h5]; rfl
  | 6, _ => rw [h6]; rfl
  | 7, _ => rw [h7]; rfl
  | 8, _ => rw [h8]; rfl
  | 9, _ => rw [h9]; rfl
  | 10, _ => rw [h10]; rfl
  | 11, _ => rw [h11]; rfl
  | 12, _ => rw [h12]; rfl
  | 13, _ => rw [h13]; rfl
  | 14, _ => rw [h14]; rfl
  | j + 15, hj => exact absurd hj (by omega)
theorem rc_at4 : (∀ i, i < 19 → (atM (rcSrc 4) i).fin = 0) ∧ atM (rcSrc 4) 19 = { rcM [noFm] 24 4 1 [24] 14 with fin := 1 } := by
  have h0 : atM (rcSrc 4) 0 = rcM [noFm] 0 0 0 [] 10 := rc_first 4
  have h1 : atM (rcSrc 4) 1 = rcM [noFm] 1 0 0 [] 11 := at_next h0 (rc_st10 ..)
  have h2 : atM (rcSrc 4) 2 = rcM [noFm] 1 4 1 [] 12 := at_next h1 (rc_st11 ..)
  have h3 : atM (rcSrc 4) 3 = rcM [noFm, ⟨[4], 12⟩] 1 4 1 [] 4 := at_next h2 (rc_st12 ..)
  have h4 : atM (rcSrc 4) 4 = rcM [noFm, ⟨[4], 12⟩] 1 4 1 [] 5 := at_next h3 (rc_yes2 (h := by decide) ..)
  have h5 : atM (rcSrc 4) 5 = rcM [noFm, ⟨[4], 12⟩] 4 4 1 [] 6 := at_next h4 ((rc_set2 ..).trans (by kernel_rfl))
  have h6 : atM (rcSrc 4) 6 = rcM [noFm, ⟨[4], 12⟩, ⟨[3], 6⟩] 4 4 1 [] 4 := at_next h5 ((rc_call2 ..).trans (by kernel_rfl))
  have h7 : atM (rcSrc 4) 7 = rcM [noFm, ⟨[4], 12⟩, ⟨[3], 6⟩] 4 4 1 [] 5 := at_next h6 (rc_yes3 (h := by decide) ..)
  have h8 : atM (rcSrc 4) 8 = rcM [noFm, ⟨[4], 12⟩, ⟨[3], 6⟩] 12 4 1 [] 6 := at_next h7 ((rc_set3 ..).trans (by kernel_rfl))
  have h9 : atM (rcSrc 4) 9 = rcM [noFm, ⟨[4], 12⟩, ⟨[3], 6⟩, ⟨[2], 6⟩] 12 4 1 [] 4 := at_next h8 ((rc_call3 ..).trans (by kernel_rfl))
  have h10 : atM (rcSrc 4) 10 = rcM [noFm, ⟨[4], 12⟩, ⟨[3], 6⟩, ⟨[2], 6⟩] 12 4 1 [] 5 := at_next h9 (rc_yes4 (h := by decide) ..)
  have h11 : atM (rcSrc 4) 11 = rcM [noFm, ⟨[4], 12⟩, ⟨[3], 6⟩, ⟨[2], 6⟩] 24 4 1 [] 6 := at_next h10 ((rc_set4 ..).trans (by kernel_rfl))
  have h12 : atM (rcSrc 4) 12 = rcM [noFm, ⟨[4], 12⟩, ⟨[3], 6⟩, ⟨[2], 6⟩, ⟨[1], 6⟩] 24 4 1 [] 4 := at_next h11 ((rc_call4 ..).trans (by kernel_rfl))
  have h13 : atM (rcSrc 4) 13 = rcM [noFm, ⟨[4], 12⟩, ⟨[3], 6⟩, ⟨[2], 6⟩, ⟨[1], 6⟩] 24 4 1 [] 8 := at_next h12 (rc_no5 (h := by decide) ..)
  have h14 : atM (rcSrc 4) 14 = rcM [noFm, ⟨[4], 12⟩, ⟨[3], 6⟩, ⟨[2], 6⟩] 24 4 1 [] 8 := at_next h13 (rc_ret5 ..)
  have h15 : atM (rcSrc 4) 15 = rcM [noFm, ⟨[4], 12⟩, ⟨[3], 6⟩] 24 4 1 [] 8 := at_next h14 (rc_ret4 ..)
  have h16 : atM (rcSrc 4) 16 = rcM [noFm, ⟨[4], 12⟩] 24 4 1 [] 8 := at_next h15 (rc_ret3 ..)
  have h17 : atM (rcSrc 4) 17 = rcM [noFm] 24 4 1 [] 13 := at_next h16 (rc_back2 ..)
  have h18 : atM (rcSrc 4) 18 = rcM [noFm] 24 4 1 [24] 14 := at_next h17 (rc_st13 ..)
  have h19 : atM (rcSrc 4) 19 = { rcM [noFm] 24 4 1 [24] 14 with fin := 1 } := at_next h18 (rc_st14 ..)
  refine ⟨fun i hi => ?_, h19⟩
  match i, hi with
  | 0, _ => rw [h0]; rfl
  | 1, _ => rw [h1]; rfl
  | 2, _ => rw [h2]; rfl
  | 3, _ => rw [h3]; rfl
  | 4, _ => rw [h4]; rfl
  | 5, _ => rw [h5]; rfl
  | 6, _ => rw [h6]; rfl
  | 7, _ => rw [h7]; rfl
  | 8, _ => rw [h8]; rfl
  | 9, _ => rw [h9]; rfl
  | 10, _ => rw [h10]; rfl
  | 11, _ => rw [h11]; rfl
  | 12, _ => rw [h12]; rfl
  | 13, _ => rw [h13]; rfl
  | 14, _ => rw [h14]; rfl
  | 15, _ => rw [h15]; rfl
  | 16, _ => rw [h16]; rfl
  | 17, _ => rw [h17]; rfl
  | 18, _ => rw [h18]; rfl
  | j + 19, hj => exact absurd hj (by omega)
theorem rc_at5 : (∀ i, i < 23 → (atM (rcSrc 5) i).fin = 0) ∧ atM (rcSrc 5) 23 = { rcM [noFm] 120 5 1 [120] 14 with fin := 1 } := by
  have h0 : atM (rcSrc 5) 0 = rcM [noFm] 0 0 0 [] 10 := rc_first 5
  have h1 : atM (rcSrc 5) 1 = rcM [noFm] 1 0 0 [] 11 := at_next h0 (rc_st10 ..)
  have h2 : atM (rcSrc 5) 2 = rcM [noFm] 1 5 1 [] 12 := at_next h1 (rc_st11 ..)
  have h3 : atM (rcSrc 5) 3 = rcM [noFm, ⟨[5], 12⟩] 1 5 1 [] 4 := at_next h2 (rc_st12 ..)
  have h4 : atM (rcSrc 5) 4 = rcM [noFm, ⟨[5], 12⟩] 1 5 1 [] 5 := at_next h3 (rc_yes2 (h := by decide) ..)
  have h5 : atM (rcSrc 5) 5 = rcM [noFm, ⟨[5], 12⟩] 5 5 1 [] 6 := at_next h4 ((rc_set2 ..).trans (by kernel_rfl))
  have h6 : atM (rcSrc 5) 6 = rcM [noFm, ⟨[5], 12⟩, ⟨[4], 6⟩] 5 5 1 [] 4 := at_next h5 ((rc_call2 ..).trans (by kernel_rfl))
  have h7 : atM (rcSrc 5) 7 = rcM [noFm, ⟨[5], 12⟩, ⟨[4], 6⟩] 5 5 1 [] 5 := at_next h6 (rc_yes3 (h := by decide) ..)
  have h8 : atM (rcSrc 5) 8 = rcM [noFm, ⟨[5], 12⟩, ⟨[4], 6⟩] 20 5 1 [] 6 := at_next h7 ((rc_set3 ..).trans (by kernel_rfl))
  have h9 : atM (rcSrc 5) 9 = rcM [noFm, ⟨[5], 12⟩, ⟨[4], 6⟩, ⟨[3], 6⟩] 20 5 1 [] 4 := at_next h8 ((rc_call3 ..).trans (by kernel_rfl))
  have h10 : atM (rcSrc 5) 10 = rcM [noFm, ⟨[5], 12⟩, ⟨[4], 6⟩, ⟨[3], 6⟩] 20 5 1 [] 5 := at_next h9 (rc_yes4 (h := by decide) ..)
  have h11 : atM (rcSrc 5) 11 = rcM [noFm, ⟨[5], 12⟩, ⟨[4], 6⟩, ⟨[3], 6⟩] 60 5 1 [] 6 := at_next h10 ((rc_set4 ..).trans (by kernel_rfl))
  have h12 : atM (rcSrc 5) 12 = rcM [noFm, ⟨[5], 12⟩, ⟨[4], 6⟩, ⟨[3], 6⟩, ⟨[2], 6⟩] 60 5 1 [] 4 := at_next h11 ((rc_call4 ..).trans (by kernel_rfl))
  have h13 : atM (rcSrc 5) 13 = rcM [noFm, ⟨[5], 12⟩, ⟨[4], 6⟩, ⟨[3], 6⟩, ⟨[2], 6⟩] 60 5 1 [] 5 := at_next h12 (rc_yes5 (h := by decide) ..)
  have h14 : atM (rcSrc 5) 14 = rcM [noFm, ⟨[5], 12⟩, ⟨[4], 6⟩, ⟨[3], 6⟩, ⟨[2], 6⟩] 120 5 1 [] 6 := at_next h13 ((rc_set5 ..).trans (by kernel_rfl))
  have h15 : atM (rcSrc 5) 15 = rcM [noFm, ⟨[5], 12⟩, ⟨[4], 6⟩, ⟨[3], 6⟩, ⟨[2], 6⟩, ⟨[1], 6⟩] 120 5 1 [] 4 := at_next h14 ((rc_call5 ..).trans (by kernel_rfl))
  have h16 : atM (rcSrc 5) 16 = rcM [noFm, ⟨[5], 12⟩, ⟨[4], 6⟩, ⟨[3], 6⟩, ⟨[2], 6⟩, ⟨[1], 6⟩] 120 5 1 [] 8 := at_next h15 (rc_no6 (h := by decide) ..)
  have h17 : atM (rcSrc 5) 17 = rcM [noFm, ⟨[5], 12⟩, ⟨[4], 6⟩, ⟨[3], 6⟩, ⟨[2], 6⟩] 120 5 1 [] 8 := at_next h16 (rc_ret6 ..)
  have h18 : atM (rcSrc 5) 18 = rcM [noFm, ⟨[5], 12⟩, ⟨[4], 6⟩, ⟨[3], 6⟩] 120 5 1 [] 8 := at_next h17 (rc_ret5 ..)
  have h19 : atM (rcSrc 5) 19 = rcM [noFm, ⟨[5], 12⟩, ⟨[4], 6⟩] 120 5 1 [] 8 := at_next h18 (rc_ret4 ..)
  have h20 : atM (rcSrc 5) 20 = rcM [noFm, ⟨[5], 12⟩] 120 5 1 [] 8 := at_next h19 (rc_ret3 ..)
  have h21 : atM (rcSrc 5) 21 = rcM [noFm] 120 5 1 [] 13 := at_next h20 (rc_back2 ..)
  have h22 : atM (rcSrc 5) 22 = rcM [noFm] 120 5 1 [120] 14 := at_next h21 (rc_st13 ..)
  have h23 : atM (rcSrc 5) 23 = { rcM [noFm] 120 5 1 [120] 14 with fin := 1 } := at_next h22 (rc_st14 ..)
  refine ⟨fun i hi => ?_, h23⟩
  match i, hi with
  | 0, _ => rw [h0]; rfl
  | 1, _ => rw [h1]; rfl
  | 2, _ => rw [h2]; rfl
  | 3, _ => rw [h3]; rfl
  | 4, _ => rw [h4]; rfl
  | 5, _ => rw [h5]; rfl
  | 6, _ => rw [h6]; rfl
  | 7, _ => rw [h7]; rfl
  | 8, _ => rw [h8]; rfl
  | 9, _ => rw [h9]; rfl
  | 10, _ => rw [h10]; rfl
  | 11, _ => rw [h11]; rfl
  | 12, _ => rw [h12]; rfl
  | 13, _ => rw [h13]; rfl
  | 14, _ => rw [h14]; rfl
  | 15, _ => rw [h15]; rfl
  | 16, _ => rw [h16]; rfl
  | 17, _ => rw [h17]; rfl
  | 18, _ => rw [h18]; rfl
  | 19, _ => rw [h19]; rfl
  | 20, _ => rw [h20]; rfl
  | 21, _ => rw [h21]; rfl
  | 22, _ => rw [h22]; rfl
  | j + 23, hj => exact absurd hj (by omega)
end Rt
end Go.Proofs.YtbpajiljfppjcaaGreat

namespace Go.Proofs.YtbpajiljfppjcaaGreat
open Go.RowKit
attribute [local go_sem ↓] Go.wp_at_zero Go.wp_at_succ

/-- The blocks that a session may write. -/
def ownL (P : Nat) (X : McX) (jv : Value) : List Nat := P :: blkX X ++ jv.ownBlock.toList
theorem not_ownL {P : Nat} {X : McX} {jv : Value} {k : Nat} (h : k ∉ ownL P X jv) : k ∉ P :: blkX X ∧ jv.ownBlock ≠ some k := by
  unfold ownL at h
  simp only [List.cons_append, List.mem_cons, List.mem_append, Option.mem_toList, not_or] at h
  exact ⟨by simp only [List.mem_cons, not_or]; exact ⟨h.1, h.2.1⟩, h.2.2⟩
theorem in_ownL {P : Nat} {X : McX} {jv : Value} {k : Nat} (h : k ∈ ownL P X jv) : k = P ∨ k ∈ blkX X ∨ jv.ownBlock = some k := by
  unfold ownL at h
  simpa only [List.cons_append, List.mem_cons, List.mem_append, Option.mem_toList] using h
theorem ownL_in {P : Nat} {X : McX} {jv : Value} {k : Nat} (h : k = P ∨ k ∈ blkX X ∨ jv.ownBlock = some k) : k ∈ ownL P X jv := by
  unfold ownL
  simpa only [List.cons_append, List.mem_cons, List.mem_append, Option.mem_toList] using h
section
variable {w w' : World} {P B : Nat} {S : Rt.Src} {cap : Int} {s s' : Rt.Se} {X X' : McX} {jv jv' : Value}
theorem SAft.kept (h : SAft P B S cap X X' jv jv' s' w w') {k : Nat} (hk : k < w.heap.size) (hn : k ∉ ownL P X jv) : w'.heap[k]? = w.heap[k]? := h.frm.block k hk (not_ownL hn).1 (not_ownL hn).2
theorem SAft.owns (h : SAft P B S cap X X' jv jv' s' w w') {k : Nat} (hk : k ∈ ownL P X' jv') : k ∈ ownL P X jv ∨ w.heap.size ≤ k := by
  rcases in_ownL hk with e | e | e
  · exact Or.inl (ownL_in (Or.inl e))
  · rcases h.grow k e with e | e
    · exact Or.inl (ownL_in (Or.inr (Or.inl e)))
    · exact Or.inr e
  · rcases h.jg k e with e | e
    · exact Or.inl (ownL_in (Or.inr (Or.inr e)))
    · exact Or.inr e
theorem SesS.own_lt (h : SesS w P B S cap s X jv) {k : Nat} (hk : k ∈ ownL P X jv) : k < w.heap.size := by
  rcases in_ownL hk with e | e | e
  · rw [e]; exact block_lt h.mc.block
  · rw [← h.mc.blks] at e
    exact h.mc.own.lt k e
  · obtain ⟨c, hc⟩ := own_blk h.jr e
    exact block_lt hc
/-- Below a number that all of the session's blocks lie above, all stays. -/
theorem SAft.low (h : SAft P B S cap X X' jv jv' s' w w') {N : Nat} (hN : N ≤ w.heap.size) (hX : ∀ k ∈ ownL P X jv, N ≤ k) : Below N w w' :=
  ⟨h.frm.os, h.frm.tape, h.frm.output, h.frm.size, fun k hk => h.kept (by omega) (fun hm => by have := hX k hm; omega)⟩
theorem SAft.high (h : SAft P B S cap X X' jv jv' s' w w') {N : Nat} (hN : N ≤ w.heap.size) (hX : ∀ k ∈ ownL P X jv, N ≤ k) : ∀ k ∈ ownL P X' jv', N ≤ k := fun k hk => by
  rcases h.owns hk with e | e
  · exact hX k e
  · omega
/-- A row that is none of the session's stays. -/
theorem SAft.rowKept (h : SAft P B S cap X X' jv jv' s' w w') {N : Nat} {t : TypeId} {z n : Nat} {v : Value} {xs : List Value} (hr : w.ownsRow N t z v n xs) (ha : ∀ g, v.ownBlock = some g → g ∉ ownL P X jv) : w'.ownsRow N t z v n xs ∧ ∀ g, v.ownBlock = some g → g ∉ ownL P X' jv' := by
  have hlt : ∀ g, v.ownBlock = some g → g < w.heap.size := fun g hg => by
    obtain ⟨c, hc⟩ := own_blk hr hg
    exact block_lt hc
  refine ⟨own_same hr (fun g hg => h.kept (hlt g hg) (ha g hg)), fun g hg hm => ?_⟩
  rcases h.owns hm with e | e
  · exact ha g hg e
  · have := hlt g hg; omega
end
end Go.Proofs.YtbpajiljfppjcaaGreat

