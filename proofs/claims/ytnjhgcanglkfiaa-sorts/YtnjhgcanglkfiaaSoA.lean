/- The run of sorts: its steps. -/
import Derived.Test.YtnjhgcanglkfiaaCnB
import Derived.Test.YtnjhgcanglkfiaaCnD
namespace Go.Proofs.Ytnjhgcanglkfiaa
open Go.RowKit
namespace Rt
def soSrc (inp : List Int) : Src := ⟨soP, soL, inp⟩
def soV (n i j v : Int) (a : List Int) : List (List Int) := [[], [n], [i], [j], [v], a, [], [], [], [], [], [], [], [], [], [], [], [], [], [], [], [], [], [], []]
def soM (n i j v : Int) (a : List Int) (t : Int) (o : List Int) (ln : Int) : Mc := ⟨[noFm], soV n i j v a, t, o, ln, 0⟩
theorem so_decl : declP soP mainName = 6 := by kernel_rfl
theorem so_go : goOn soP soL 102 (wrap64 (((6 : Nat) : Int) + 1)) = 7 := by kernel_rfl
theorem so_vals : soP.map (fun p => zerosI p.form) = soV 0 0 0 0 [0, 0, 0, 0, 0, 0, 0, 0, 0, 0, 0, 0, 0, 0] := by kernel_rfl
theorem so_first (inp : List Int) : firstM (soSrc inp) = soM 0 0 0 0 [0, 0, 0, 0, 0, 0, 0, 0, 0, 0, 0, 0, 0, 0] 0 [] 7 := by
  show (⟨[noFm], soP.map (fun p => zerosI p.form), 0, [], goOn soP soL 102 (wrap64 (declP soP mainName + 1)), 0⟩ : Mc) = _
  rw [so_decl, so_go, so_vals]
  rfl
section
variable (inp : List Int) (n i j v : Int) (a : List Int) (t : Int) (o : List Int)
theorem so_st7 (x : Int) (r : List Int) : (stepM (soSrc (x :: r)) (soM n i j v a 0 o 7)).1 = soM x i j v a 1 o 8 := by kernel_rfl
theorem so_st11 : (stepM (soSrc inp) (soM n i j v a t o 11)).1 = soM n i i v a t o 12 := by kernel_rfl
theorem so_st14 : (stepM (soSrc inp) (soM n i j v a t o 14)).1 = soM n i (wrap64 (j - 1)) v a t o 12 := by kernel_rfl
theorem so_st17 : (stepM (soSrc inp) (soM n i j v a t o 17)).1 = soM n (wrap64 (i + 1)) j v a t o 8 := by kernel_rfl
theorem so_st19 : (stepM (soSrc inp) (soM n i j v a t o 19)).1 = soM n 1 j v a t o 20 := by kernel_rfl
theorem so_st22 : (stepM (soSrc inp) (soM n i j v a t o 22)).1 = soM n (wrap64 (i + 1)) j v a t o 20 := by kernel_rfl
theorem so_st24 : (stepM (soSrc inp) (soM n i j v a t o 24)).1 = { soM n i j v a t o 24 with fin := 1 } := by kernel_rfl
/-- A line that asks: what its value makes of it. -/
theorem step_ask {S : Src} {m : Mc} {f : PForm} {c : Bool} {l1 l0 : Int} (h0 : m.fin = 0) (hf : formAt S.pls m.line = f) (hk : f.kind = 7) (hv : valueF S m f = (truthI c, 0)) (h1 : goOn S.pls S.lk 102 (wrap64 (m.line + 1)) = l1) (h2 : goOn S.pls S.lk 102 (otherwise S.lk m.line) = l0) :
    (stepM S m).1 = { m with line := if c then l1 else l0 } := by
  have hp : perform S m f = ⟨0, if truthI c = 0 then otherwise S.lk m.line else wrap64 (m.line + 1), [stay m.line], m⟩ := by
    unfold perform
    simp [hk, hv]
  unfold stepM
  rw [if_pos h0, hf, hp]
  cases c
  · simp [truthI, h2]
  · simp [truthI, h1]
theorem so_st8 (c : Bool) (h : decide (i < n) = c) : (stepM (soSrc inp) (soM n i j v a t o 8)).1 = soM n i j v a t o (if c then 9 else 19) :=
  step_ask (S := soSrc inp) (m := soM n i j v a t o 8) (c := c) rfl rfl rfl (by rw [← h]; kernel_rfl) (by kernel_rfl) (by kernel_rfl)
theorem so_st20 (c : Bool) (h : decide (i < wrap64 (n + 1)) = c) : (stepM (soSrc inp) (soM n i j v a t o 20)).1 = soM n i j v a t o (if c then 21 else 24) :=
  step_ask (S := soSrc inp) (m := soM n i j v a t o 20) (c := c) rfl rfl rfl (by rw [← h]; kernel_rfl) (by kernel_rfl) (by kernel_rfl)
/-- The array's cells. -/
theorem so_declA : ((declP soP ⟨#[97]⟩ : Nat) : Int) = 5 := by kernel_rfl
theorem so_has (ln : Int) (k : Nat) (hk : k < a.length) : hasS (soM n i j v a t o ln) ⟨5, k⟩ = true := by
  have : cellsOf (soM n i j v a t o ln) 5 = a := by rfl
  unfold hasS
  simp only [this, decide_eq_true_eq]
  omega
theorem so_cell (ln : Int) (k : Nat) (hk : k < a.length) : cellS (soSrc inp) (soM n i j v a t o ln) ⟨#[97]⟩ k = some ⟨5, k⟩ := by
  unfold cellS
  show (if hasS (soM n i j v a t o ln) ⟨((declP soP ⟨#[97]⟩ : Nat) : Int), k⟩ = true then some (Spot.mk ((declP soP ⟨#[97]⟩ : Nat) : Int) k) else none) = _
  rw [so_declA, if_pos (so_has n i j v a t o ln k hk)]
theorem so_get (ln : Int) (k : Nat) (hk : k < a.length) : getS (soM n i j v a t o ln) ⟨5, k⟩ = a[k] := by
  have : cellsOf (soM n i j v a t o ln) 5 = a := by rfl
  unfold getS
  simp only [this]
  rw [if_neg (by omega)]
  simp [hk]
theorem so_put (ln : Int) (k : Nat) (hk : k < a.length) (x : Int) : putS (soM n i j v a t o ln) ⟨5, k⟩ x = soM n i j v (a.set k x) t o ln := by
  unfold putS
  rw [if_pos (so_has n i j v a t o ln k hk), if_pos (show (0 : Int) < 5 by decide)]
  rfl
/-- A line that sets a cell. -/
theorem step_cell {S : Src} {m m' : Mc} {f : PForm} {k x : Int} {s : Spot} {l : Int} (h0 : m.fin = 0) (hf : formAt S.pls m.line = f) (hk : f.kind = 9) (hi : evalE S m f.index = (k, 0)) (hv : valueF S m f = (x, 0)) (hc : cellS S m f.name k = some s) (hp : putS m s x = m') (h1 : goOn S.pls S.lk 102 (wrap64 (m.line + 1)) = l) :
    (stepM S m).1 = { m' with line := l } := by
  have hq : perform S m f = ⟨0, wrap64 (m.line + 1), [stay m.line, stored m s], m'⟩ := by
    unfold perform
    simp [hk, hv, hi, hc, hp]
  unfold stepM
  rw [if_pos h0, hf, hq]
  simp [h1]
theorem step_out {S : Src} {m m' : Mc} {f : PForm} {nx l : Int} {rs : List Rec} (h0 : m.fin = 0) (hf : formAt S.pls m.line = f) (hp : perform S m f = ⟨0, nx, rs, m'⟩) (hg : goOn S.pls S.lk 102 nx = l) : (stepM S m).1 = { m' with line := l } := by
  unfold stepM
  rw [if_pos h0, hf, hp]
  simp [hg]
theorem so_st10 (h : 0 < a.length) : (stepM (soSrc inp) (soM n i j v a t o 10)).1 = soM n i j v (a.set 0 v) t o 11 :=
  step_cell (S := soSrc inp) (m := soM n i j v a t o 10) (k := 0) (x := v) rfl rfl rfl (by kernel_rfl) (by kernel_rfl) (so_cell inp n i j v a t o 10 0 h) (so_put n i j v a t o 10 0 h v) (by kernel_rfl)
theorem so_i16 : evalE (soSrc inp) (soM n i j v a t o 16) (formAt soP 16).index = (wrap64 (j + 1), 0) := by kernel_rfl
theorem so_i13 : evalE (soSrc inp) (soM n i j v a t o 13) (formAt soP 13).index = (wrap64 (j + 1), 0) := by kernel_rfl
theorem so_st16 (k : Nat) (hj : wrap64 (j + 1) = k) (hk : k < a.length) : (stepM (soSrc inp) (soM n i j v a t o 16)).1 = soM n i j v (a.set k v) t o 17 :=
  step_cell (S := soSrc inp) (m := soM n i j v a t o 16) (f := formAt soP 16) (k := k) (x := v) rfl rfl rfl (by rw [so_i16, hj]) (by kernel_rfl) (so_cell inp n i j v a t o 16 k hk) (so_put n i j v a t o 16 k hk v) (by kernel_rfl)
/-- A value that a cell gives. -/
theorem eval_cell {S : Src} {m : Mc} {x y : ByteArray} {k : Int} {s : Spot} {r : List Pop} {st : List Int} (hx : getS m (varS S m x) = k) (hc : cellS S m y k = some s) : evalI S m (⟨2, 0, x⟩ :: ⟨3, 0, y⟩ :: r) st = evalI S m r (st ++ [getS m s]) := by
  rw [evalI]
  have h1 : workI S m st ⟨2, 0, x⟩ = (st ++ [k], 0) := by unfold workI; simp [hx]
  rw [h1, if_pos rfl, evalI]
  have h2 : workI S m (st ++ [k]) ⟨3, 0, y⟩ = (st ++ [getS m s], 0) := by unfold workI; simp [hc]
  rw [h2, if_pos rfl]
theorem so_v12 (x : Int) : evalI (soSrc inp) (soM n i j v a t o 12) [⟨10, 0, ⟨#[]⟩⟩] ([v] ++ [x]) = (truthI (decide (v < x)), 0) := by kernel_rfl
theorem so_w12 : valueF (soSrc inp) (soM n i j v a t o 12) (formAt soP 12) = evalI (soSrc inp) (soM n i j v a t o 12) (⟨2, 0, ⟨#[106]⟩⟩ :: ⟨3, 0, ⟨#[97]⟩⟩ :: [⟨10, 0, ⟨#[]⟩⟩]) [v] := by kernel_rfl
theorem so_j (ln : Int) (h : procOf (soSrc inp) (soM n i j v a t o ln) = 6) : getS (soM n i j v a t o ln) (varS (soSrc inp) (soM n i j v a t o ln) ⟨#[106]⟩) = j := by
  unfold varS
  rw [h]
  kernel_rfl
theorem so_i (ln : Int) (h : procOf (soSrc inp) (soM n i j v a t o ln) = 6) : getS (soM n i j v a t o ln) (varS (soSrc inp) (soM n i j v a t o ln) ⟨#[105]⟩) = i := by
  unfold varS
  rw [h]
  kernel_rfl
theorem so_st12 (k : Nat) (hj : j = k) (hk : k < a.length) (c : Bool) (h : decide (v < a[k]) = c) : (stepM (soSrc inp) (soM n i j v a t o 12)).1 = soM n i j v a t o (if c then 13 else 16) := by
  refine step_ask (S := soSrc inp) (m := soM n i j v a t o 12) (f := formAt soP 12) (c := c) rfl rfl rfl ?_ (by kernel_rfl) (by kernel_rfl)
  rw [so_w12, eval_cell (so_j inp n i j v a t o 12 (by kernel_rfl)) (by rw [hj]; exact so_cell inp n i j v a t o 12 k hk), so_get n i j v a t o 12 k hk, so_v12, h]
theorem so_st13 (k : Nat) (hj : j = k) (hj2 : wrap64 (j + 1) = ((k + 1 : Nat) : Int)) (hk : k + 1 < a.length) : (stepM (soSrc inp) (soM n i j v a t o 13)).1 = soM n i j v (a.set (k + 1) (a[k]'(by omega))) t o 14 := by
  refine step_cell (S := soSrc inp) (m := soM n i j v a t o 13) (f := formAt soP 13) (k := ((k + 1 : Nat) : Int)) (x := a[k]'(by omega)) rfl rfl rfl (by rw [so_i13, hj2]) ?_ (so_cell inp n i j v a t o 13 (k + 1) hk) (so_put n i j v a t o 13 (k + 1) hk _) (by kernel_rfl)
  show evalI (soSrc inp) (soM n i j v a t o 13) (⟨2, 0, ⟨#[106]⟩⟩ :: ⟨3, 0, ⟨#[97]⟩⟩ :: []) [] = _
  rw [eval_cell (so_j inp n i j v a t o 13 (by kernel_rfl)) (by rw [hj]; exact so_cell inp n i j v a t o 13 k (by omega)), so_get n i j v a t o 13 k (by omega)]
  rfl
/-- A line that reads. -/
theorem so_s9 : varS (soSrc inp) (soM n i j v a t o 9) (formAt soP 9).name = ⟨4, 0⟩ := by kernel_rfl
theorem so_p9 (x : Int) : putS (soM n i j v a t o 9) ⟨4, 0⟩ x = soM n i j x a t o 9 := by kernel_rfl
theorem so_st9 (k : Nat) (ht : t = k) (hk : k < inp.length) (hl : inp.length ≤ 100) : (stepM (soSrc inp) (soM n i j v a t o 9)).1 = soM n i j inp[k] a ((k + 1 : Nat) : Int) o 10 := by
  have hw : wrap64 (t + 1) = ((k + 1 : Nat) : Int) := by rw [IntWalk.wrap64_in _ (by omega)]; omega
  have hq : perform (soSrc inp) (soM n i j v a t o 9) (formAt soP 9) = ⟨0, wrap64 (9 + 1), [stay 9, stored (soM n i j v a t o 9) ⟨4, 0⟩, ⟨6, 0, ⟨0, 0⟩, 0⟩], soM n i j inp[k] a ((k + 1 : Nat) : Int) o 9⟩ := by
    have hkd : (formAt soP 9).kind = 11 := by kernel_rfl
    have hin : ¬ (t < 0 ∨ ((inp.length : Nat) : Int) ≤ t) := by omega
    have hget : (inp[t.toNat]?).getD 0 = inp[k] := by
      have : t.toNat = k := by omega
      rw [this]
      simp [hk]
    unfold perform
    simp only [hkd]
    rw [if_neg (by decide), if_neg (by decide), if_neg (by decide), if_pos trivial, so_s9]
    show (if t < 0 ∨ ((inp.length : Nat) : Int) ≤ t then _ else Out.mk 0 (wrap64 (9 + 1)) [stay 9, stored (soM n i j v a t o 9) ⟨4, 0⟩, ⟨6, 0, ⟨0, 0⟩, 0⟩] { putS (soM n i j v a t o 9) ⟨4, 0⟩ ((inp[t.toNat]?).getD 0) with taken := wrap64 (t + 1) }) = _
    rw [if_neg hin, hget, so_p9, hw]
    rfl
  exact step_out (S := soSrc inp) (m := soM n i j v a t o 9) rfl rfl hq (by kernel_rfl)
/-- A line that prints a cell. -/
theorem so_st21 (k : Nat) (hi : i = k) (hk : k < a.length) (ho : o.length < 50) : (stepM (soSrc inp) (soM n i j v a t o 21)).1 = soM n i j v a t (o ++ [a[k]]) 22 := by
  have hv : valueF (soSrc inp) (soM n i j v a t o 21) (formAt soP 21) = (a[k], 0) := by
    show evalI (soSrc inp) (soM n i j v a t o 21) (⟨2, 0, ⟨#[105]⟩⟩ :: ⟨3, 0, ⟨#[97]⟩⟩ :: []) [] = _
    rw [eval_cell (so_i inp n i j v a t o 21 (by kernel_rfl)) (by rw [hi]; exact so_cell inp n i j v a t o 21 k hk), so_get n i j v a t o 21 k hk]
    rfl
  have hq : perform (soSrc inp) (soM n i j v a t o 21) (formAt soP 21) = ⟨0, wrap64 (21 + 1), [stay 21, ⟨5, 0, ⟨0, 0⟩, 0⟩], soM n i j v a t (o ++ [a[k]]) 21⟩ := by
    have hkd : (formAt soP 21).kind = 10 := by kernel_rfl
    unfold perform
    simp only [hkd, hv]
    rw [if_neg (by decide), if_neg (by decide), if_pos trivial, if_pos trivial]
    show (if 50 ≤ o.length then _ else Out.mk 0 (wrap64 (21 + 1)) [stay 21, ⟨5, 0, ⟨0, 0⟩, 0⟩] (soM n i j v a t (o ++ [a[k]]) 21)) = _
    rw [if_neg (by omega)]
  exact step_out (S := soSrc inp) (m := soM n i j v a t o 21) rfl rfl hq (by kernel_rfl)
end
end Rt
end Go.Proofs.Ytnjhgcanglkfiaa

