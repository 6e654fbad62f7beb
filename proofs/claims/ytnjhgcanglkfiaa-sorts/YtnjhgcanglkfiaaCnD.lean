/- The run of reckons. -/
import Derived.Test.YtnjhgcanglkfiaaCnB
namespace Go.Proofs.Ytnjhgcanglkfiaa
open Go.RowKit
namespace Rt
theorem runM_end (S : Src) (k : Nat) (m : Mc) (h : m.fin ≠ 0) : runM S k m = (m, 0) := by
  cases k with
  | zero => rfl
  | succ k => unfold runM; rw [if_neg h]
theorem runM_step {S : Src} {m m' : Mc} (h : m.fin = 0) (hs : (stepM S m).1 = m') (k : Nat) : runM S (k + 1) m = ((runM S k m').1, (runM S k m').2 + 1) := by
  rw [runM, if_pos h, hs]
def rkSrc (a b : Int) : Src := ⟨rkP, rkL, [a, b]⟩
theorem rk_decl : declP rkP mainName = 3 := by kernel_rfl
theorem rk_go : goOn rkP rkL 102 (wrap64 (((3 : Nat) : Int) + 1)) = 4 := by kernel_rfl
theorem rk_vals : rkP.map (fun p => zerosI p.form) = [[], [0], [0], [], [], [], [], [], [], [], [], [], [], [], [], [], []] := by kernel_rfl
theorem rk_first (a b : Int) : firstM (rkSrc a b) = ⟨[noFm], [[], [0], [0], [], [], [], [], [], [], [], [], [], [], [], [], [], []], 0, [], 4, 0⟩ := by
  show (⟨[noFm], rkP.map (fun p => zerosI p.form), 0, [], goOn rkP rkL 102 (wrap64 (declP rkP mainName + 1)), 0⟩ : Mc) = _
  rw [rk_decl, rk_go, rk_vals]
theorem rk_st1 (a b : Int) : (stepM (rkSrc a b) ⟨[noFm], [[], [0], [0], [], [], [], [], [], [], [], [], [], [], [], [], [], []], 0, [], 4, 0⟩).1 = ⟨[noFm], [[], [a], [0], [], [], [], [], [], [], [], [], [], [], [], [], [], []], 1, [], 5, 0⟩ := by kernel_rfl
theorem rk_st2 (a b : Int) : (stepM (rkSrc a b) ⟨[noFm], [[], [a], [0], [], [], [], [], [], [], [], [], [], [], [], [], [], []], 1, [], 5, 0⟩).1 = ⟨[noFm], [[], [a], [b], [], [], [], [], [], [], [], [], [], [], [], [], [], []], 2, [], 6, 0⟩ := by kernel_rfl
theorem rk_st3 (a b : Int) : (stepM (rkSrc a b) ⟨[noFm], [[], [a], [b], [], [], [], [], [], [], [], [], [], [], [], [], [], []], 2, [], 6, 0⟩).1 = ⟨[noFm], [[], [a], [b], [], [], [], [], [], [], [], [], [], [], [], [], [], []], 2, [wrap64 (a + b)], 7, 0⟩ := by kernel_rfl
theorem rk_st4 (a b : Int) (x0 : Int) : (stepM (rkSrc a b) ⟨[noFm], [[], [a], [b], [], [], [], [], [], [], [], [], [], [], [], [], [], []], 2, [x0], 7, 0⟩).1 = ⟨[noFm], [[], [a], [b], [], [], [], [], [], [], [], [], [], [], [], [], [], []], 2, [x0, wrap64 (a - b)], 8, 0⟩ := by kernel_rfl
theorem rk_st5 (a b : Int) (x0 x1 : Int) : (stepM (rkSrc a b) ⟨[noFm], [[], [a], [b], [], [], [], [], [], [], [], [], [], [], [], [], [], []], 2, [x0, x1], 8, 0⟩).1 = ⟨[noFm], [[], [a], [b], [], [], [], [], [], [], [], [], [], [], [], [], [], []], 2, [x0, x1, wrap64 (a * b)], 9, 0⟩ := by kernel_rfl
theorem rk_st6 (a b : Int) (x0 x1 x2 : Int) : (stepM (rkSrc a b) ⟨[noFm], [[], [a], [b], [], [], [], [], [], [], [], [], [], [], [], [], [], []], 2, [x0, x1, x2], 9, 0⟩).1 = ⟨[noFm], [[], [a], [b], [], [], [], [], [], [], [], [], [], [], [], [], [], []], 2, [x0, x1, x2, truthI (decide (a < b))], 10, 0⟩ := by kernel_rfl
theorem rk_st7 (a b : Int) (x0 x1 x2 x3 : Int) : (stepM (rkSrc a b) ⟨[noFm], [[], [a], [b], [], [], [], [], [], [], [], [], [], [], [], [], [], []], 2, [x0, x1, x2, x3], 10, 0⟩).1 = ⟨[noFm], [[], [a], [b], [], [], [], [], [], [], [], [], [], [], [], [], [], []], 2, [x0, x1, x2, x3, truthI (decide (a = b))], 11, 0⟩ := by kernel_rfl
theorem rk_st8 (a b : Int) (x0 x1 x2 x3 x4 : Int) : (stepM (rkSrc a b) ⟨[noFm], [[], [a], [b], [], [], [], [], [], [], [], [], [], [], [], [], [], []], 2, [x0, x1, x2, x3, x4], 11, 0⟩).1 = ⟨[noFm], [[], [a], [b], [], [], [], [], [], [], [], [], [], [], [], [], [], []], 2, [x0, x1, x2, x3, x4, wrap64 (-a)], 12, 0⟩ := by kernel_rfl
theorem rk_st9 (a b : Int) (x0 x1 x2 x3 x4 x5 : Int) : (stepM (rkSrc a b) ⟨[noFm], [[], [a], [b], [], [], [], [], [], [], [], [], [], [], [], [], [], []], 2, [x0, x1, x2, x3, x4, x5], 12, 0⟩).1 = ⟨[noFm], [[], [a], [b], [], [], [], [], [], [], [], [], [], [], [], [], [], []], 2, [x0, x1, x2, x3, x4, x5, wrap64 (wrap64 (wrap64 (a - b) - wrap64 (a * b)) + wrap64 (wrap64 (a - wrap64 (b - a)) * 2))], 13, 0⟩ := by kernel_rfl
theorem rk_stz (a : Int) (x0 x1 x2 x3 x4 x5 x6 : Int) : (stepM (rkSrc a 0) ⟨[noFm], [[], [a], [0], [], [], [], [], [], [], [], [], [], [], [], [], [], []], 2, [x0, x1, x2, x3, x4, x5, x6], 13, 0⟩).1 = ⟨[noFm], [[], [a], [0], [], [], [], [], [], [], [], [], [], [], [], [], [], []], 2, [x0, x1, x2, x3, x4, x5, x6], 13, 2⟩ := by kernel_rfl
theorem rk_stp10 (a : Int) (n : Nat) (x0 x1 x2 x3 x4 x5 x6 : Int) : (stepM (rkSrc a (Int.ofNat (n + 1))) ⟨[noFm], [[], [a], [(Int.ofNat (n + 1))], [], [], [], [], [], [], [], [], [], [], [], [], [], []], 2, [x0, x1, x2, x3, x4, x5, x6], 13, 0⟩).1 = ⟨[noFm], [[], [a], [(Int.ofNat (n + 1))], [], [], [], [], [], [], [], [], [], [], [], [], [], []], 2, [x0, x1, x2, x3, x4, x5, x6, wrap64 (a.tdiv (Int.ofNat (n + 1)))], 14, 0⟩ := by kernel_rfl
theorem rk_stp11 (a : Int) (n : Nat) (x0 x1 x2 x3 x4 x5 x6 x7 : Int) : (stepM (rkSrc a (Int.ofNat (n + 1))) ⟨[noFm], [[], [a], [(Int.ofNat (n + 1))], [], [], [], [], [], [], [], [], [], [], [], [], [], []], 2, [x0, x1, x2, x3, x4, x5, x6, x7], 14, 0⟩).1 = ⟨[noFm], [[], [a], [(Int.ofNat (n + 1))], [], [], [], [], [], [], [], [], [], [], [], [], [], []], 2, [x0, x1, x2, x3, x4, x5, x6, x7, wrap64 (a.tmod (Int.ofNat (n + 1)) * 2)], 15, 0⟩ := by kernel_rfl
theorem rk_stp12 (a : Int) (n : Nat) (x0 x1 x2 x3 x4 x5 x6 x7 x8 : Int) : (stepM (rkSrc a (Int.ofNat (n + 1))) ⟨[noFm], [[], [a], [(Int.ofNat (n + 1))], [], [], [], [], [], [], [], [], [], [], [], [], [], []], 2, [x0, x1, x2, x3, x4, x5, x6, x7, x8], 15, 0⟩).1 = ⟨[noFm], [[], [a], [(Int.ofNat (n + 1))], [], [], [], [], [], [], [], [], [], [], [], [], [], []], 2, [x0, x1, x2, x3, x4, x5, x6, x7, x8, wrap64 (7 - wrap64 ((wrap64 (a.tdiv (Int.ofNat (n + 1)))).tdiv 3))], 16, 0⟩ := by kernel_rfl
theorem rk_stn10 (a : Int) (n : Nat) (x0 x1 x2 x3 x4 x5 x6 : Int) : (stepM (rkSrc a (Int.negSucc n)) ⟨[noFm], [[], [a], [(Int.negSucc n)], [], [], [], [], [], [], [], [], [], [], [], [], [], []], 2, [x0, x1, x2, x3, x4, x5, x6], 13, 0⟩).1 = ⟨[noFm], [[], [a], [(Int.negSucc n)], [], [], [], [], [], [], [], [], [], [], [], [], [], []], 2, [x0, x1, x2, x3, x4, x5, x6, wrap64 (a.tdiv (Int.negSucc n))], 14, 0⟩ := by kernel_rfl
theorem rk_stn11 (a : Int) (n : Nat) (x0 x1 x2 x3 x4 x5 x6 x7 : Int) : (stepM (rkSrc a (Int.negSucc n)) ⟨[noFm], [[], [a], [(Int.negSucc n)], [], [], [], [], [], [], [], [], [], [], [], [], [], []], 2, [x0, x1, x2, x3, x4, x5, x6, x7], 14, 0⟩).1 = ⟨[noFm], [[], [a], [(Int.negSucc n)], [], [], [], [], [], [], [], [], [], [], [], [], [], []], 2, [x0, x1, x2, x3, x4, x5, x6, x7, wrap64 (a.tmod (Int.negSucc n) * 2)], 15, 0⟩ := by kernel_rfl
theorem rk_stn12 (a : Int) (n : Nat) (x0 x1 x2 x3 x4 x5 x6 x7 x8 : Int) : (stepM (rkSrc a (Int.negSucc n)) ⟨[noFm], [[], [a], [(Int.negSucc n)], [], [], [], [], [], [], [], [], [], [], [], [], [], []], 2, [x0, x1, x2, x3, x4, x5, x6, x7, x8], 15, 0⟩).1 = ⟨[noFm], [[], [a], [(Int.negSucc n)], [], [], [], [], [], [], [], [], [], [], [], [], [], []], 2, [x0, x1, x2, x3, x4, x5, x6, x7, x8, wrap64 (7 - wrap64 ((wrap64 (a.tdiv (Int.negSucc n))).tdiv 3))], 16, 0⟩ := by kernel_rfl
theorem rk_st13 (a b : Int) (x0 x1 x2 x3 x4 x5 x6 x7 x8 x9 : Int) : (stepM (rkSrc a b) ⟨[noFm], [[], [a], [b], [], [], [], [], [], [], [], [], [], [], [], [], [], []], 2, [x0, x1, x2, x3, x4, x5, x6, x7, x8, x9], 16, 0⟩).1 = ⟨[noFm], [[], [a], [b], [], [], [], [], [], [], [], [], [], [], [], [], [], []], 2, [x0, x1, x2, x3, x4, x5, x6, x7, x8, x9], 16, 1⟩ := by kernel_rfl
def rkOut (a b : Int) : List Int := [wrap64 (a + b), wrap64 (a - b), wrap64 (a * b), truthI (decide (a < b)), truthI (decide (a = b)), wrap64 (-a), wrap64 (wrap64 (wrap64 (a - b) - wrap64 (a * b)) + wrap64 (wrap64 (a - wrap64 (b - a)) * 2))]
def rkOut2 (a b : Int) : List Int := [wrap64 (a + b), wrap64 (a - b), wrap64 (a * b), truthI (decide (a < b)), truthI (decide (a = b)), wrap64 (-a), wrap64 (wrap64 (wrap64 (a - b) - wrap64 (a * b)) + wrap64 (wrap64 (a - wrap64 (b - a)) * 2)), wrap64 (a.tdiv b), wrap64 (a.tmod b * 2), wrap64 (7 - wrap64 ((wrap64 (a.tdiv b)).tdiv 3))]
theorem rk_zero (a : Int) : runM (rkSrc a 0) 1000 (firstM (rkSrc a 0)) = (⟨[noFm], [[], [a], [0], [], [], [], [], [], [], [], [], [], [], [], [], [], []], 2, rkOut a 0, 13, 2⟩, 10) := by
  rw [rk_first, runM_step rfl (rk_st1 a 0), runM_step rfl (rk_st2 a 0), runM_step rfl (rk_st3 a 0), runM_step rfl (rk_st4 a 0 _), runM_step rfl (rk_st5 a 0 _ _), runM_step rfl (rk_st6 a 0 _ _ _), runM_step rfl (rk_st7 a 0 _ _ _ _), runM_step rfl (rk_st8 a 0 _ _ _ _ _), runM_step rfl (rk_st9 a 0 _ _ _ _ _ _), runM_step rfl (rk_stz a _ _ _ _ _ _ _), runM_end _ _ _ (by intro h; cases h)]
  rfl
theorem rk_p (a : Int) (n : Nat) : runM (rkSrc a (Int.ofNat (n + 1))) 1000 (firstM (rkSrc a (Int.ofNat (n + 1)))) = (⟨[noFm], [[], [a], [(Int.ofNat (n + 1))], [], [], [], [], [], [], [], [], [], [], [], [], [], []], 2, rkOut2 a (Int.ofNat (n + 1)), 16, 1⟩, 13) := by
  rw [rk_first, runM_step rfl (rk_st1 a (Int.ofNat (n + 1))), runM_step rfl (rk_st2 a (Int.ofNat (n + 1))), runM_step rfl (rk_st3 a (Int.ofNat (n + 1))), runM_step rfl (rk_st4 a (Int.ofNat (n + 1)) _), runM_step rfl (rk_st5 a (Int.ofNat (n + 1)) _ _), runM_step rfl (rk_st6 a (Int.ofNat (n + 1)) _ _ _), runM_step rfl (rk_st7 a (Int.ofNat (n + 1)) _ _ _ _), runM_step rfl (rk_st8 a (Int.ofNat (n + 1)) _ _ _ _ _), runM_step rfl (rk_st9 a (Int.ofNat (n + 1)) _ _ _ _ _ _), runM_step rfl (rk_stp10 a n _ _ _ _ _ _ _), runM_step rfl (rk_stp11 a n _ _ _ _ _ _ _ _), runM_step rfl (rk_stp12 a n _ _ _ _ _ _ _ _ _), runM_step rfl (rk_st13 a _ _ _ _ _ _ _ _ _ _ _), runM_end _ _ _ (by intro h; cases h)]
  rfl
theorem rk_n (a : Int) (n : Nat) : runM (rkSrc a (Int.negSucc n)) 1000 (firstM (rkSrc a (Int.negSucc n))) = (⟨[noFm], [[], [a], [(Int.negSucc n)], [], [], [], [], [], [], [], [], [], [], [], [], [], []], 2, rkOut2 a (Int.negSucc n), 16, 1⟩, 13) := by
  rw [rk_first, runM_step rfl (rk_st1 a (Int.negSucc n)), runM_step rfl (rk_st2 a (Int.negSucc n)), runM_step rfl (rk_st3 a (Int.negSucc n)), runM_step rfl (rk_st4 a (Int.negSucc n) _), runM_step rfl (rk_st5 a (Int.negSucc n) _ _), runM_step rfl (rk_st6 a (Int.negSucc n) _ _ _), runM_step rfl (rk_st7 a (Int.negSucc n) _ _ _ _), runM_step rfl (rk_st8 a (Int.negSucc n) _ _ _ _ _), runM_step rfl (rk_st9 a (Int.negSucc n) _ _ _ _ _ _), runM_step rfl (rk_stn10 a n _ _ _ _ _ _ _), runM_step rfl (rk_stn11 a n _ _ _ _ _ _ _ _), runM_step rfl (rk_stn12 a n _ _ _ _ _ _ _ _ _), runM_step rfl (rk_st13 a _ _ _ _ _ _ _ _ _ _ _), runM_end _ _ _ (by intro h; cases h)]
  rfl
theorem rk_nonzero (a b : Int) (hb : b ≠ 0) : runM (rkSrc a b) 1000 (firstM (rkSrc a b)) = (⟨[noFm], [[], [a], [b], [], [], [], [], [], [], [], [], [], [], [], [], [], []], 2, rkOut2 a b, 16, 1⟩, 13) := by
  match b, hb with
  | Int.ofNat 0, h => exact absurd rfl h
  | Int.ofNat (n + 1), _ => exact rk_p a n
  | Int.negSucc n, _ => exact rk_n a n
end Rt
end Go.Proofs.Ytnjhgcanglkfiaa

