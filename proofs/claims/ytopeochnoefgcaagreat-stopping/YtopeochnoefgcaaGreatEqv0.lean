/- The grammar of expressions, told plainly. -/
import Derived.Test.YtopeochnoefgcaaGreatBase
namespace Go.Proofs.YtopeochnoefgcaaGreat
namespace Rf

def minusW : ByteArray := ⟨#[45]⟩
def lparW : ByteArray := ⟨#[40]⟩
def rparW : ByteArray := ⟨#[41]⟩
def lbrW : ByteArray := ⟨#[91]⟩
def rbrW : ByteArray := ⟨#[93]⟩

/-- 0: EXPR, 1: SUM, 2: TERM, 3: FACTOR. -/
inductive Is : Nat → List ByteArray → Prop
  | num (x : ByteArray) : numberB x = true → Is 3 [x]
  | nam (x : ByteArray) : nameB x = true → Is 3 [x]
  | neg (p : List ByteArray) : Is 3 p → Is 3 (minusW :: p)
  | par (p : List ByteArray) : Is 0 p → Is 3 (lparW :: (p ++ [rparW]))
  | cel (x : ByteArray) (p : List ByteArray) : nameB x = true → Is 0 p → Is 3 (x :: lbrW :: (p ++ [rbrW]))
  | t1 (p : List ByteArray) : Is 3 p → Is 2 p
  | t2 (p : List ByteArray) (o : ByteArray) (q : List ByteArray) : Is 2 p → inB divW o = true → Is 3 q → Is 2 (p ++ o :: q)
  | s1 (p : List ByteArray) : Is 2 p → Is 1 p
  | s2 (p : List ByteArray) (o : ByteArray) (q : List ByteArray) : Is 1 p → inB addW o = true → Is 2 q → Is 1 (p ++ o :: q)
  | e1 (p : List ByteArray) : Is 1 p → Is 0 p
  | e2 (p : List ByteArray) (o : ByteArray) (q : List ByteArray) : Is 1 p → inB cmpW o = true → Is 1 q → Is 0 (p ++ o :: q)

theorem div_cases {o : ByteArray} (h : inB divW o = true) : o = ⟨#[42]⟩ ∨ o = ⟨#[47]⟩ ∨ o = ⟨#[37]⟩ := by
  simp [inB, divW] at h
  rcases h with h | h | h <;> simp [← h]
theorem add_cases {o : ByteArray} (h : inB addW o = true) : o = ⟨#[43]⟩ ∨ o = ⟨#[45]⟩ := by
  simp [inB, addW] at h
  rcases h with h | h <;> simp [← h]
theorem cmp_cases {o : ByteArray} (h : inB cmpW o = true) : o = ⟨#[60]⟩ ∨ o = ⟨#[61]⟩ := by
  simp [inB, cmpW] at h
  rcases h with h | h <;> simp [← h]

/-- What is true of a sign between operands. -/
structure Sgn (o : ByteArray) : Prop where
  dch : dch o = 0
  opd : opdB o = false
theorem sgn_one (b : UInt8) (h : b ∈ [42, 47, 37, 43, 45, 60, 61]) : Sgn ⟨#[b]⟩ := by
  have e : ∀ l : List UInt8, ((⟨#[b]⟩ : ByteArray).toList == l) = ([b] == l) := fun l => by rw [show (⟨#[b]⟩ : ByteArray).toList = [b] from ByteArray.toList_mk [b]]
  have hb : Rt.byteAt ⟨#[b]⟩ 0 = (b.toNat : Int) := by rw [Rt.byteAt_lt (by show 0 < 1; decide)]; rfl
  constructor
  · simp only [Rf.dch, e]
    simp at h
    rcases h with rfl | rfl | rfl | rfl | rfl | rfl | rfl <;> decide
  · simp only [opdB, nameB, numberB, hb, e]
    simp at h
    rcases h with rfl | rfl | rfl | rfl | rfl | rfl | rfl <;> simp [letterB, digitB]
theorem div_sgn {o : ByteArray} (h : inB divW o = true) : Sgn o := by
  rcases div_cases h with rfl | rfl | rfl <;> exact sgn_one _ (by decide)
theorem add_sgn {o : ByteArray} (h : inB addW o = true) : Sgn o := by
  rcases add_cases h with rfl | rfl <;> exact sgn_one _ (by decide)
theorem cmp_sgn {o : ByteArray} (h : inB cmpW o = true) : Sgn o := by
  rcases cmp_cases h with rfl | rfl <;> exact sgn_one _ (by decide)

theorem dch_of (b : UInt8) : dch ⟨#[b]⟩ = if b = 40 then 1 else if b = 91 then 1 else if b = 41 then -1 else if b = 93 then -1 else 0 := by
  simp [dch]

theorem at_app_l {a b : List ByteArray} {i : Nat} (h : i < a.length) : at' (a ++ b) i = at' a i := by
  simp [at', List.getElem?_append_left h]
theorem at_app_r (a b : List ByteArray) (j : Nat) : at' (a ++ b) (a.length + j) = at' b j := by
  simp [at', List.getElem?_append_right]
theorem at_one (x : ByteArray) : at' [x] 0 = x := rfl
theorem depth_app_l (a b : List ByteArray) : ∀ i, i ≤ a.length → depth (a ++ b) i = depth a i
  | 0, _ => rfl
  | i + 1, h => by rw [depth, depth, depth_app_l a b i (by omega), at_app_l (by omega)]
theorem depth_app_r (a b : List ByteArray) : ∀ j, depth (a ++ b) (a.length + j) = depth a a.length + depth b j
  | 0 => by rw [Nat.add_zero, depth_app_l a b _ (Nat.le_refl _)]; simp [depth]
  | j + 1 => by rw [← Nat.add_assoc, depth, depth, depth_app_r a b j, at_app_r]; omega
theorem depth_one (x : ByteArray) : depth [x] 1 = dch x := by simp [depth, at']

/-- Brackets fit, and an operand stands last. -/
structure Bal (p : List ByteArray) : Prop where
  ne : 0 < p.length
  zero : depth p p.length = 0
  nn : ∀ i, i ≤ p.length → 0 ≤ depth p i
  fin : opdB (at' p (p.length - 1)) = true

theorem depth_cons (x : ByteArray) (q : List ByteArray) (j : Nat) : depth (x :: q) (j + 1) = dch x + depth q j := by
  have := depth_app_r [x] q j
  rw [List.singleton_append, List.length_singleton, depth_one] at this
  rw [Nat.add_comm j 1, this]
theorem at_cons (x : ByteArray) (q : List ByteArray) (j : Nat) : at' (x :: q) (j + 1) = at' q j := by simp [at']
theorem at_zero (x : ByteArray) (q : List ByteArray) : at' (x :: q) 0 = x := rfl

theorem Bal.app {p q : List ByteArray} {o : ByteArray} (hp : Bal p) (hq : Bal q) (ho : Sgn o) : Bal (p ++ o :: q) := by
  have hl : (p ++ o :: q).length = p.length + (q.length + 1) := by simp
  refine ⟨by rw [hl]; omega, ?_, fun i hi => ?_, ?_⟩
  · rw [hl, depth_app_r, depth_cons, hp.zero, ho.dch, hq.zero]; rfl
  · by_cases h : i ≤ p.length
    · rw [depth_app_l p _ i h]; exact hp.nn i h
    · obtain ⟨j, rfl⟩ : ∃ j, i = p.length + (j + 1) := ⟨i - p.length - 1, by omega⟩
      rw [depth_app_r, depth_cons, hp.zero, ho.dch]
      have := hq.nn j (by omega)
      omega
  · have h1 := hq.ne
    rw [hl, show p.length + (q.length + 1) - 1 = p.length + ((q.length - 1) + 1) by omega, at_app_r, at_cons]
    exact hq.fin
theorem Bal.neg {p : List ByteArray} (hp : Bal p) : Bal (minusW :: p) := by
  have h1 := hp.ne
  have hm : dch minusW = 0 := by rw [minusW, dch_of]; decide
  refine ⟨by simp, ?_, fun i hi => ?_, ?_⟩
  · rw [List.length_cons, depth_cons, hp.zero, hm]; rfl
  · cases i with
    | zero => simp [depth]
    | succ j =>
      rw [depth_cons, hm]
      have := hp.nn j (by simpa using hi)
      omega
  · rw [List.length_cons, show p.length + 1 - 1 = (p.length - 1) + 1 by omega, at_cons]
    exact hp.fin
/-- The depth inside brackets. -/
theorem depth_wrap (l r : ByteArray) (p : List ByteArray) (j : Nat) (h : j ≤ p.length) : depth (l :: (p ++ [r])) (j + 1) = dch l + depth p j := by
  rw [depth_cons, depth_app_l p _ j h]
theorem depth_wrap_end (l r : ByteArray) (p : List ByteArray) : depth (l :: (p ++ [r])) (p.length + 2) = dch l + depth p p.length + dch r := by
  have := depth_app_r p [r] 1
  rw [depth_one] at this
  rw [show p.length + 2 = (p.length + 1) + 1 by omega, depth_cons, this]
  omega
theorem opd_close (b : UInt8) (h : b = 41 ∨ b = 93) : opdB ⟨#[b]⟩ = true := by
  have e : ∀ l : List UInt8, ((⟨#[b]⟩ : ByteArray).toList == l) = ([b] == l) := fun l => by rw [show (⟨#[b]⟩ : ByteArray).toList = [b] from ByteArray.toList_mk [b]]
  simp only [opdB, e]
  rcases h with rfl | rfl <;> simp
theorem Bal.wrap {p : List ByteArray} {l r : ByteArray} (hp : Bal p) (hl : dch l = 1) (hr : dch r = -1) (ho : opdB r = true) : Bal (l :: (p ++ [r])) := by
  refine ⟨by simp, ?_, fun i hi => ?_, ?_⟩
  · rw [show (l :: (p ++ [r])).length = p.length + 2 by simp, depth_wrap_end, hp.zero, hl, hr]; rfl
  · cases i with
    | zero => simp [depth]
    | succ j =>
      by_cases h : j ≤ p.length
      · rw [depth_wrap l r p j h, hl]
        have := hp.nn j h
        omega
      · have : j + 1 = p.length + 2 := by simp at hi; omega
        rw [this, depth_wrap_end, hp.zero, hl, hr]; decide
  · rw [show (l :: (p ++ [r])).length - 1 = p.length + 1 by simp, at_cons, show p.length = p.length + 0 from rfl, at_app_r]
    exact ho
theorem Bal.one {x : ByteArray} (h : opdB x = true) (h0 : dch x = 0) : Bal [x] := by
  refine ⟨by simp, by rw [List.length_singleton, depth_one, h0], fun i hi => ?_, h⟩
  match i with
  | 0 => simp [depth]
  | 1 => rw [depth_one, h0]; decide
  | i + 2 => simp at hi
/-- A token that begins with a letter or a digit is no bracket. -/
theorem dch_word {x : ByteArray} (h : nameB x = true ∨ numberB x = true) : dch x = 0 := by
  have hb : letterB (Rt.byteAt x 0) = true ∨ digitB (Rt.byteAt x 0) = true := by
    rcases h with h | h
    · simp [nameB] at h; exact Or.inl h.1.2
    · simp [numberB] at h; exact Or.inr h.2
  have e : ∀ b : UInt8, b ∈ [40, 41, 91, 93] → ¬ x = ⟨#[b]⟩ := by
    rintro b hm rfl
    rw [Rt.byteAt_lt (by show 0 < 1; decide)] at hb
    change letterB (b.toNat : Int) = true ∨ digitB (b.toNat : Int) = true at hb
    simp at hm
    rcases hm with rfl | rfl | rfl | rfl <;> simp [letterB, digitB] at hb
  have e1 := e 40 (by decide)
  have e2 := e 41 (by decide)
  have e3 := e 91 (by decide)
  have e4 := e 93 (by decide)
  simp [dch, Rt.str_lit, e1, e2, e3, e4]
theorem opd_word {x : ByteArray} (h : nameB x = true ∨ numberB x = true) : opdB x = true := by
  rcases h with h | h <;> simp [opdB, h]
theorem bal_word {x : ByteArray} (h : nameB x = true ∨ numberB x = true) : Bal [x] := Bal.one (opd_word h) (dch_word h)
theorem Bal.cel {p : List ByteArray} {x : ByteArray} (hp : Bal p) (hx : nameB x = true) : Bal (x :: lbrW :: (p ++ [rbrW])) := by
  have hw : Bal (lbrW :: (p ++ [rbrW])) := hp.wrap (by rw [lbrW, dch_of]; decide) (by rw [rbrW, dch_of]; decide) (opd_close _ (Or.inr rfl))
  have h0 := dch_word (Or.inl hx)
  have h1 := hw.ne
  refine ⟨by simp, ?_, fun i hi => ?_, ?_⟩
  · rw [List.length_cons, depth_cons, h0, hw.zero]; rfl
  · cases i with
    | zero => simp [depth]
    | succ j =>
      rw [depth_cons, h0]
      have := hw.nn j (by simpa using hi)
      omega
  · rw [List.length_cons, show (lbrW :: (p ++ [rbrW])).length + 1 - 1 = ((lbrW :: (p ++ [rbrW])).length - 1) + 1 by omega, at_cons]
    exact hw.fin

theorem is_bal {k : Nat} {p : List ByteArray} (h : Is k p) : Bal p := by
  induction h with
  | num x h => exact bal_word (Or.inr h)
  | nam x h => exact bal_word (Or.inl h)
  | neg p _ ih => exact ih.neg
  | par p _ ih => exact ih.wrap (by rw [lparW, dch_of]; decide) (by rw [rparW, dch_of]; decide) (opd_close _ (Or.inl rfl))
  | cel x p hx _ ih => exact ih.cel hx
  | t1 p _ ih => exact ih
  | t2 p o q _ ho _ ih1 ih2 => exact ih1.app ih2 (div_sgn ho)
  | s1 p _ ih => exact ih
  | s2 p o q _ ho _ ih1 ih2 => exact ih1.app ih2 (add_sgn ho)
  | e1 p _ ih => exact ih
  | e2 p o q _ ho _ ih1 ih2 => exact ih1.app ih2 (cmp_sgn ho)

end Rf
end Go.Proofs.YtopeochnoefgcaaGreat

namespace Go.Proofs.YtopeochnoefgcaaGreat
namespace Rf

/-- Does a sign of sg stand at place i between two operands, outside all brackets? -/
def cond (sg t : List ByteArray) (i : Nat) : Prop := inB sg (at' t i) = true ∧ depth t (i + 1) = 0 ∧ 0 < i ∧ opdB (at' t (i - 1)) = true
theorem lastTo_none {sg t : List ByteArray} : ∀ n, (∀ i, i < n → ¬ cond sg t i) → lastTo sg t n = -1
  | 0, _ => rfl
  | n + 1, h => by
    have hn := h n (by omega)
    unfold cond at hn
    rw [lastTo, if_neg hn]
    exact lastTo_none n (fun i hi => h i (by omega))
theorem lastTo_some {sg t : List ByteArray} {k : Nat} (hk : cond sg t k) : ∀ n, k < n → (∀ i, k < i → i < n → ¬ cond sg t i) → lastTo sg t n = k
  | 0, h, _ => by omega
  | n + 1, h, h' => by
    by_cases e : k = n
    · subst e; unfold cond at hk; rw [lastTo, if_pos hk]
    · have hn := h' n (by omega) (by omega)
      unfold cond at hn
      rw [lastTo, if_neg hn]
      exact lastTo_some hk n (by omega) (fun i h1 h2 => h' i h1 (by omega))
def Free (sg p : List ByteArray) : Prop := ∀ i, i < p.length → ¬ cond sg p i
theorem Free.last {sg p : List ByteArray} (h : Free sg p) : last sg p = -1 := lastTo_none _ h

theorem cond_left {sg p q : List ByteArray} {o : ByteArray} {i : Nat} (hi : i < p.length) : cond sg (p ++ o :: q) i ↔ cond sg p i := by
  unfold cond
  rw [at_app_l hi, depth_app_l p _ (i + 1) (by omega), at_app_l (by omega)]
theorem cond_right {sg p q : List ByteArray} {o : ByteArray} {j : Nat} (hp : depth p p.length = 0) (ho : Sgn o) : cond sg (p ++ o :: q) (p.length + (j + 1)) ↔ cond sg q j := by
  unfold cond
  rw [at_app_r, at_cons, show p.length + (j + 1) + 1 = p.length + ((j + 1) + 1) by omega, depth_app_r, depth_cons, hp, ho.dch, show p.length + (j + 1) - 1 = p.length + j by omega, at_app_r]
  cases j with
  | zero => rw [at_zero, ho.opd]; simp
  | succ j => rw [at_cons]; simp; omega
theorem free_app {sg p q : List ByteArray} {o : ByteArray} (hp : Bal p) (ho : Sgn o) (h : inB sg o = false) (h1 : Free sg p) (h2 : Free sg q) : Free sg (p ++ o :: q) := by
  intro i hi
  by_cases hl : i < p.length
  · rw [cond_left hl]; exact h1 i hl
  · by_cases he : i = p.length
    · subst he
      rintro ⟨h', _⟩
      rw [show p.length = p.length + 0 from rfl, at_app_r, at_zero, h] at h'
      cases h'
    · obtain ⟨j, rfl⟩ : ∃ j, i = p.length + (j + 1) := ⟨i - p.length - 1, by omega⟩
      rw [cond_right hp.zero ho]
      exact h2 j (by simp at hi; omega)
theorem last_app {sg p q : List ByteArray} {o : ByteArray} (hp : Bal p) (ho : Sgn o) (h : inB sg o = true) (h2 : Free sg q) : last sg (p ++ o :: q) = p.length := by
  refine lastTo_some ?_ _ (by simp) (fun i h3 h4 => ?_)
  · refine ⟨?_, ?_, hp.ne, ?_⟩
    · rw [show p.length = p.length + 0 from rfl, at_app_r, at_zero]; exact h
    · rw [depth_app_r p _ 1, hp.zero, show (1 : Nat) = 0 + 1 from rfl, depth_cons, ho.dch]; rfl
    · have := hp.ne
      rw [at_app_l (by omega)]; exact hp.fin
  · obtain ⟨j, rfl⟩ : ∃ j, i = p.length + (j + 1) := ⟨i - p.length - 1, by omega⟩
    rw [cond_right hp.zero ho]
    exact h2 j (by simp at h4; omega)
theorem free_neg {sg p : List ByteArray} (h : Free sg p) : Free sg (minusW :: p) := by
  intro i hi
  have hs : Sgn minusW := sgn_one 45 (by decide)
  rintro ⟨c1, c2, c3, c4⟩
  obtain ⟨j, rfl⟩ : ∃ j, i = j + 1 := ⟨i - 1, by omega⟩
  rw [at_cons] at c1
  rw [depth_cons, hs.dch] at c2
  rw [Nat.add_sub_cancel] at c4
  cases j with
  | zero => rw [at_zero, hs.opd] at c4; cases c4
  | succ j =>
    rw [at_cons] at c4
    exact h (j + 1) (by simpa using hi) ⟨c1, by omega, by omega, c4⟩
theorem free_wrap {sg p : List ByteArray} {l r : ByteArray} (hp : Bal p) (hl : dch l = 1) (hr : inB sg r = false) : Free sg (l :: (p ++ [r])) := by
  intro i hi
  rintro ⟨c1, c2, c3, c4⟩
  obtain ⟨j, rfl⟩ : ∃ j, i = j + 1 := ⟨i - 1, by omega⟩
  by_cases hj : j < p.length
  · rw [depth_wrap l r p (j + 1) (by omega), hl] at c2
    have := hp.nn (j + 1) (by omega)
    omega
  · have : j = p.length := by simp at hi; omega
    subst this
    rw [at_cons, show p.length = p.length + 0 from rfl, at_app_r, at_one, hr] at c1
    cases c1
theorem free_cel {sg p : List ByteArray} {x l r : ByteArray} (hp : Bal p) (hx : dch x = 0) (hl : dch l = 1) (hl' : inB sg l = false) (hr : inB sg r = false) : Free sg (x :: l :: (p ++ [r])) := by
  intro i hi
  rintro ⟨c1, c2, c3, c4⟩
  obtain ⟨j, rfl⟩ : ∃ j, i = j + 1 := ⟨i - 1, by omega⟩
  rw [at_cons] at c1
  rw [depth_cons, hx] at c2
  cases j with
  | zero => rw [at_zero, hl'] at c1; cases c1
  | succ j =>
    by_cases hj : j < p.length
    · rw [depth_wrap l r p (j + 1) (by omega), hl] at c2
      have := hp.nn (j + 1) (by omega)
      omega
    · have : j = p.length := by simp at hi; omega
      subst this
      rw [at_cons, show p.length = p.length + 0 from rfl, at_app_r, at_one, hr] at c1
      cases c1
theorem free_one {sg : List ByteArray} (x : ByteArray) : Free sg [x] := by
  intro i hi
  rintro ⟨_, _, c3, _⟩
  simp at hi; omega

theorem in_three (sg : List ByteArray) (h : sg = divW ∨ sg = addW ∨ sg = cmpW) : inB sg rparW = false ∧ inB sg rbrW = false ∧ inB sg lbrW = false := by
  rcases h with rfl | rfl | rfl <;> simp [inB, divW, addW, cmpW, rparW, rbrW, lbrW]
theorem free_factor {k : Nat} {p : List ByteArray} (h : Is k p) (sg : List ByteArray) (hs : sg = divW ∨ sg = addW ∨ sg = cmpW) : k = 3 → Free sg p := by
  obtain ⟨s1, s2, s3⟩ := in_three sg hs
  induction h with
  | num x h => intro _; exact free_one x
  | nam x h => intro _; exact free_one x
  | neg p _ ih => intro _; exact free_neg (ih rfl)
  | par p hp _ => intro _; exact free_wrap (is_bal hp) (by rw [lparW, dch_of]; decide) s1
  | cel x p hx hp _ => intro _; exact free_cel (is_bal hp) (dch_word (Or.inl hx)) (by rw [lbrW, dch_of]; decide) s3 s2
  | _ => intro h; omega
theorem no_add_div {o : ByteArray} (h : inB divW o = true) : inB addW o = false ∧ inB cmpW o = false := by
  rcases div_cases h with rfl | rfl | rfl <;> simp [inB, addW, cmpW]
theorem no_add_cmp {o : ByteArray} (h : inB addW o = true) : inB cmpW o = false := by
  rcases add_cases h with rfl | rfl <;> simp [inB, cmpW]
theorem free_term {k : Nat} {p : List ByteArray} (h : Is k p) (sg : List ByteArray) (hs : sg = addW ∨ sg = cmpW) : k = 2 → Free sg p := by
  induction h with
  | t1 p hp _ => intro _; exact free_factor hp sg (Or.inr hs) rfl
  | t2 p o q hp ho hq ih1 _ => intro _; exact free_app (is_bal hp) (div_sgn ho) (by rcases hs with rfl | rfl; exact (no_add_div ho).1; exact (no_add_div ho).2) (ih1 rfl) (free_factor hq sg (Or.inr hs) rfl)
  | _ => intro h; omega
theorem free_sum {k : Nat} {p : List ByteArray} (h : Is k p) : k = 1 → Free cmpW p := by
  induction h with
  | s1 p hp _ => intro _; exact free_term hp cmpW (Or.inr rfl) rfl
  | s2 p o q hp ho hq ih1 _ => intro _; exact free_app (is_bal hp) (add_sgn ho) (no_add_cmp ho) (ih1 rfl) (free_term hq cmpW (Or.inr rfl) rfl)
  | _ => intro h; omega

end Rf
end Go.Proofs.YtopeochnoefgcaaGreat

namespace Go.Proofs.YtopeochnoefgcaaGreat
namespace Rf

theorem gr_sum {f : Nat} {u : List ByteArray} (h : 5 * u.length + 4 ≤ f) : gr f 1 u = isSum u := gr_any _ _ _ _ (by omega) (by omega) (by omega)
theorem gr_term {f : Nat} {u : List ByteArray} (h : 5 * u.length + 3 ≤ f) : gr f 2 u = isTerm u := gr_any _ _ _ _ (by omega) (by omega) (by omega)
theorem gr_factor {f : Nat} {u : List ByteArray} (h : 5 * u.length + 2 ≤ f) : gr f 3 u = isFactor u := gr_any _ _ _ _ (by omega) (by omega) (by omega)
theorem gr_expr {f : Nat} {u : List ByteArray} (h : 5 * u.length + 5 ≤ f) : gr f 0 u = isExpr u := gr_any _ _ _ _ (by omega) (by omega) (by omega)
theorem gr_cell {f : Nat} {u : List ByteArray} (h : 5 * u.length + 1 ≤ f) : gr f 4 u = isCell u := gr_any _ _ _ _ (by omega) (by omega) (by omega)

theorem expr_no {t : List ByteArray} (h : last cmpW t = -1) : isExpr t = isSum t := by
  show exprS (gr (5 * t.length + 4) 1) t = _
  rw [exprS_no h]; exact gr_sum (Nat.le_refl _)
theorem expr_at {t : List ByteArray} {k : Nat} (h : last cmpW t = k) : isExpr t = (isSum (t.take k) && isSum (t.drop (k + 1))) := by
  show exprS (gr (5 * t.length + 4) 1) t = _
  rw [exprS_at rfl h, gr_sum (by simp; omega), gr_sum (by simp; omega)]
theorem sum_no {t : List ByteArray} (h : last addW t = -1) : isSum t = isTerm t := by
  show sumS (gr (5 * t.length + 3) 1) (gr (5 * t.length + 3) 2) t = _
  rw [sumS_no h]; exact gr_term (Nat.le_refl _)
theorem sum_at {t : List ByteArray} {k : Nat} (h : last addW t = k) (hk : k < t.length) : isSum t = (isSum (t.take k) && isTerm (t.drop (k + 1))) := by
  show sumS (gr (5 * t.length + 3) 1) (gr (5 * t.length + 3) 2) t = _
  rw [sumS_at h, gr_sum (by simp; omega), gr_term (by simp; omega)]
theorem term_no {t : List ByteArray} (h : last divW t = -1) : isTerm t = isFactor t := by
  show termS (gr (5 * t.length + 2) 2) (gr (5 * t.length + 2) 3) t = _
  rw [termS_no h]; exact gr_factor (Nat.le_refl _)
theorem term_at {t : List ByteArray} {k : Nat} (h : last divW t = k) (hk : k < t.length) : isTerm t = (isTerm (t.take k) && isFactor (t.drop (k + 1))) := by
  show termS (gr (5 * t.length + 2) 2) (gr (5 * t.length + 2) 3) t = _
  rw [termS_at h, gr_term (by simp; omega), gr_factor (by simp; omega)]
theorem factor_eq (t : List ByteArray) : isFactor t = factorS isFactor isExpr isCell t := by
  show factorS (gr (5 * t.length + 1) 3) (gr (5 * t.length + 1) 0) (gr (5 * t.length + 1) 4) t = _
  exact factorS_of (fun h => gr_factor (by simp; omega)) (fun h => gr_expr (by simp; omega)) (gr_cell (Nat.le_refl _))
theorem cell_eq (t : List ByteArray) : isCell t = cellS isExpr t := by
  show cellS (gr (5 * t.length) 0) t = _
  exact cellS_of (fun h => gr_expr (by simp; omega))

theorem lit_is (b : UInt8) : ((⟨#[b]⟩ : ByteArray).toList == [b]) = true := by simp
theorem factor_one {x : ByteArray} (h : nameB x = true ∨ numberB x = true) : isFactor [x] = true := by
  rw [factor_eq, factorS, if_neg (by simp), if_pos (by simp)]
  show (nameB x || numberB x) = true
  rcases h with h | h <;> simp [h]
theorem factor_neg {p : List ByteArray} (hp : 0 < p.length) : isFactor (minusW :: p) = isFactor p := by
  rw [factor_eq, factorS, if_neg (by simp), if_neg (by simp; intro h; simp [h] at hp), if_pos (show ((first (minusW :: p)).toList == [45]) = true from lit_is 45)]
  rfl
theorem take_wrap (l r : ByteArray) (p : List ByteArray) : ((l :: (p ++ [r])).take ((l :: (p ++ [r])).length - 1)).drop 1 = p := by
  simp
theorem at_app_len (a b : List ByteArray) : at' (a ++ b) a.length = at' b 0 := at_app_r a b 0
theorem final_wrap (l r : ByteArray) (p : List ByteArray) : final (l :: (p ++ [r])) = r := by
  rw [final, show (l :: (p ++ [r])).length - 1 = p.length + 1 by simp, at_cons, at_app_len]; rfl
theorem factor_par {p : List ByteArray} : isFactor (lparW :: (p ++ [rparW])) = isExpr p := by
  rw [factor_eq, factorS, if_neg (by simp), if_neg (by simp), if_neg (by show ¬ ((⟨#[40]⟩ : ByteArray).toList == [45]) = true; simp), if_pos ⟨show ((first (lparW :: (p ++ [rparW]))).toList == [40]) = true from lit_is 40, by rw [final_wrap]; exact lit_is 41⟩, take_wrap]
theorem word_ne {x : ByteArray} (h : nameB x = true ∨ numberB x = true) (b : UInt8) (hb : letterB (b.toNat : Int) = false) (hb' : digitB (b.toNat : Int) = false) : (x.toList == [b]) = false := by
  rw [Rt.str_lit, decide_eq_false_iff_not]
  rintro rfl
  have e : Rt.byteAt ⟨#[b]⟩ 0 = (b.toNat : Int) := by rw [Rt.byteAt_lt (by show 0 < 1; decide)]; rfl
  change nameB ⟨#[b]⟩ = true ∨ numberB ⟨#[b]⟩ = true at h
  rcases h with h | h
  · simp [nameB, e, hb] at h
  · simp [numberB, e, hb'] at h
theorem cell_cel {x : ByteArray} {p : List ByteArray} (hp : 0 < p.length) (hx : nameB x = true) : isCell (x :: lbrW :: (p ++ [rbrW])) = isExpr p := by
  have hl : (x :: lbrW :: (p ++ [rbrW])).length = p.length + 3 := by simp
  have hf : final (x :: lbrW :: (p ++ [rbrW])) = rbrW := by
    rw [final, hl, show p.length + 3 - 1 = p.length + 1 + 1 by omega, at_cons, at_cons, at_app_len]; rfl
  have ht : ((x :: lbrW :: (p ++ [rbrW])).take ((x :: lbrW :: (p ++ [rbrW])).length - 1)).drop 2 = p := by simp
  have hc : ¬ ((x :: lbrW :: (p ++ [rbrW])).length < 4 ∨ ((at' (x :: lbrW :: (p ++ [rbrW])) 1).toList == [91]) = false ∨ ((final (x :: lbrW :: (p ++ [rbrW]))).toList == [93]) = false) := by
    rintro (h | h | h)
    · omega
    · change ((⟨#[91]⟩ : ByteArray).toList == [91]) = false at h
      simp at h
    · rw [hf] at h
      change ((⟨#[93]⟩ : ByteArray).toList == [93]) = false at h
      simp at h
  rw [cell_eq, cellS, if_neg hc, ht]
  show (nameB x && isExpr p) = _
  rw [hx]; rfl
theorem factor_cel {x : ByteArray} {p : List ByteArray} (hp : 0 < p.length) (hx : nameB x = true) : isFactor (x :: lbrW :: (p ++ [rbrW])) = isExpr p := by
  have hl : (x :: lbrW :: (p ++ [rbrW])).length = p.length + 3 := by simp
  rw [factor_eq, factorS, if_neg (by omega), if_neg (by omega), if_neg (by show ¬ (x.toList == [45]) = true; rw [word_ne (Or.inl hx) 45 (by decide) (by decide)]; simp), if_neg, cell_cel hp hx]
  rintro ⟨h, _⟩
  change (x.toList == [40]) = true at h
  rw [word_ne (Or.inl hx) 40 (by decide) (by decide)] at h
  cases h

/-- What the grammar makes is taken. -/
theorem is_taken {k : Nat} {p : List ByteArray} (h : Is k p) : (k = 3 → isFactor p = true) ∧ (2 ≤ k → isTerm p = true) ∧ (1 ≤ k → isSum p = true) ∧ isExpr p = true := by
  have up3 : ∀ {q}, Is 3 q → isFactor q = true → isTerm q = true := fun h h' => by rw [term_no (free_factor h _ (Or.inl rfl) rfl).last]; exact h'
  have up2 : ∀ {q}, Is 2 q → isTerm q = true → isSum q = true := fun h h' => by rw [sum_no (free_term h _ (Or.inl rfl) rfl).last]; exact h'
  have up1 : ∀ {q}, Is 1 q → isSum q = true → isExpr q = true := fun h h' => by rw [expr_no (free_sum h rfl).last]; exact h'
  have all3 : ∀ {q}, Is 3 q → isFactor q = true → (3 = 3 → isFactor q = true) ∧ (2 ≤ 3 → isTerm q = true) ∧ (1 ≤ 3 → isSum q = true) ∧ isExpr q = true := fun h h' =>
    have a := up3 h h'
    have b := up2 (.t1 _ h) a
    ⟨fun _ => h', fun _ => a, fun _ => b, up1 (.s1 _ (.t1 _ h)) b⟩
  induction h with
  | num x h => exact all3 (.num x h) (factor_one (Or.inr h))
  | nam x h => exact all3 (.nam x h) (factor_one (Or.inl h))
  | neg p hp ih => exact all3 (.neg p hp) (by rw [factor_neg (is_bal hp).ne]; exact ih.1 rfl)
  | par p hp ih => exact all3 (.par p hp) (by rw [factor_par]; exact ih.2.2.2)
  | cel x p hx hp ih => exact all3 (.cel x p hx hp) (by rw [factor_cel (is_bal hp).ne hx]; exact ih.2.2.2)
  | t1 p hp ih => exact ⟨by omega, fun _ => ih.2.1 (by omega), fun _ => ih.2.2.1 (by omega), ih.2.2.2⟩
  | t2 p o q hp ho hq ih1 ih2 =>
    have h : Is 2 (p ++ o :: q) := .t2 p o q hp ho hq
    have a : isTerm (p ++ o :: q) = true := by
      rw [term_at (last_app (is_bal hp) (div_sgn ho) ho (free_factor hq _ (Or.inl rfl) rfl)) (by simp)]
      simp [ih1.2.1 (by omega), ih2.1 rfl]
    have b := up2 h a
    exact ⟨by omega, fun _ => a, fun _ => b, up1 (.s1 _ h) b⟩
  | s1 p hp ih => exact ⟨by omega, by omega, fun _ => ih.2.2.1 (by omega), ih.2.2.2⟩
  | s2 p o q hp ho hq ih1 ih2 =>
    have h : Is 1 (p ++ o :: q) := .s2 p o q hp ho hq
    have b : isSum (p ++ o :: q) = true := by
      rw [sum_at (last_app (is_bal hp) (add_sgn ho) ho (free_term hq _ (Or.inl rfl) rfl)) (by simp)]
      simp [ih1.2.2.1 (by omega), ih2.2.1 (by omega)]
    exact ⟨by omega, by omega, fun _ => b, up1 h b⟩
  | e1 p hp ih => exact ⟨by omega, by omega, by omega, ih.2.2.2⟩
  | e2 p o q hp ho hq ih1 ih2 =>
    refine ⟨by omega, by omega, by omega, ?_⟩
    rw [expr_at (last_app (is_bal hp) (cmp_sgn ho) ho (free_sum hq rfl))]
    simp [ih1.2.2.1 (by omega), ih2.2.2.1 (by omega)]

theorem last_in {sg t : List ByteArray} {k : Nat} (h : last sg t = k) : k < t.length ∧ inB sg (at' t k) = true := by
  have key : ∀ n, lastTo sg t n = k → k < n ∧ inB sg (at' t k) = true := by
    intro n
    induction n with
    | zero => intro h; simp [lastTo] at h
    | succ n ih =>
      intro h
      rw [lastTo] at h
      split at h
      · rename_i hc
        have : n = k := by omega
        subst this
        exact ⟨by omega, hc.1⟩
      · have := ih h
        exact ⟨by omega, this.2⟩
  exact key _ h
theorem split_k {t : List ByteArray} {k : Nat} (h : k < t.length) : t.take k ++ at' t k :: t.drop (k + 1) = t := by
  rw [at_lt h, ← List.drop_eq_getElem_cons h, List.take_append_drop]
theorem lit_eq {x : ByteArray} {b : UInt8} (h : (x.toList == [b]) = true) : x = ⟨#[b]⟩ := by
  rw [Rt.str_lit] at h
  simpa using h
theorem wrap_eq {t : List ByteArray} (h : 2 ≤ t.length) : first t :: ((t.take (t.length - 1)).drop 1 ++ [final t]) = t := by
  rw [first, final, at_lt (show 0 < t.length by omega), at_lt (show t.length - 1 < t.length by omega)]
  apply List.ext_getElem
  · simp; omega
  · intro i h1 h2
    cases i with
    | zero => simp
    | succ i =>
      simp only [List.getElem_cons_succ]
      by_cases hi : i < ((t.take (t.length - 1)).drop 1).length
      · rw [List.getElem_append_left hi]
        simp
      · rw [List.getElem_append_right (by omega)]
        simp at hi h2 ⊢
        congr 1; omega
/-- What is taken the grammar makes. -/
theorem taken_is : ∀ (f r : Nat) (t : List ByteArray), gr f r t = true → (r ≤ 3 → Is r t) ∧ (r = 4 → ∃ x p, t = x :: lbrW :: (p ++ [rbrW]) ∧ nameB x = true ∧ Is 0 p)
  | 0, _, _, h => by simp [gr] at h
  | f + 1, 0, t, h => by
    refine ⟨fun _ => ?_, by omega⟩
    have h : exprS (gr f 1) t = true := h
    rcases last_cases cmpW t with hk | ⟨k, hk, _, _⟩
    · rw [exprS_no hk] at h; exact .e1 _ ((taken_is f 1 t h).1 (by omega))
    · rw [exprS_at rfl hk, Bool.and_eq_true] at h
      have hc := last_in hk
      have := Is.e2 _ _ _ ((taken_is f 1 _ h.1).1 (by omega)) hc.2 ((taken_is f 1 _ h.2).1 (by omega))
      rw [split_k hc.1] at this; exact this
  | f + 1, 1, t, h => by
    refine ⟨fun _ => ?_, by omega⟩
    have h : sumS (gr f 1) (gr f 2) t = true := h
    rcases last_cases addW t with hk | ⟨k, hk, _, _⟩
    · rw [sumS_no hk] at h; exact .s1 _ ((taken_is f 2 t h).1 (by omega))
    · rw [sumS_at hk, Bool.and_eq_true] at h
      have hc := last_in hk
      have := Is.s2 _ _ _ ((taken_is f 1 _ h.1).1 (by omega)) hc.2 ((taken_is f 2 _ h.2).1 (by omega))
      rw [split_k hc.1] at this; exact this
  | f + 1, 2, t, h => by
    refine ⟨fun _ => ?_, by omega⟩
    have h : termS (gr f 2) (gr f 3) t = true := h
    rcases last_cases divW t with hk | ⟨k, hk, _, _⟩
    · rw [termS_no hk] at h; exact .t1 _ ((taken_is f 3 t h).1 (by omega))
    · rw [termS_at hk, Bool.and_eq_true] at h
      have hc := last_in hk
      have := Is.t2 _ _ _ ((taken_is f 2 _ h.1).1 (by omega)) hc.2 ((taken_is f 3 _ h.2).1 (by omega))
      rw [split_k hc.1] at this; exact this
  | f + 1, 3, t, h => by
    refine ⟨fun _ => ?_, by omega⟩
    have h : factorS (gr f 3) (gr f 0) (gr f 4) t = true := h
    rw [factorS] at h
    split at h
    · cases h
    split at h
    · rename_i h0 h1
      match t, h1 with
      | [x], _ =>
        rw [Bool.or_eq_true] at h
        rcases h with h | h
        · exact .nam x h
        · exact .num x h
    rename_i h0 h1
    have h2 : 2 ≤ t.length := by omega
    split at h
    · rename_i hm
      have e : t = minusW :: t.drop 1 := by
        have := lit_eq hm
        match t, h2 with
        | x :: r, _ => change x = _ at this; rw [this]; rfl
      rw [e]
      exact .neg _ ((taken_is f 3 _ h).1 (by omega))
    split at h
    · rename_i hm hp
      have e := wrap_eq h2
      rw [lit_eq hp.1, lit_eq hp.2] at e
      rw [← e]
      exact .par _ ((taken_is f 0 _ h).1 (by omega))
    · obtain ⟨x, p, e, hx, hp⟩ := (taken_is f 4 t h).2 rfl
      rw [e]
      exact .cel x p hx hp
  | f + 1, r + 4, t, h => by
    refine ⟨by omega, fun _ => ?_⟩
    have h : cellS (gr f 0) t = true := h
    rw [cellS] at h
    split at h
    · cases h
    rename_i hc
    have h4 : ¬ t.length < 4 := fun h => hc (Or.inl h)
    have hb : ((at' t 1).toList == [91]) = true := by cases hh : ((at' t 1).toList == [91]) with | true => rfl | false => exact absurd (Or.inr (Or.inl hh)) hc
    have hr : ((final t).toList == [93]) = true := by cases hh : ((final t).toList == [93]) with | true => rfl | false => exact absurd (Or.inr (Or.inr hh)) hc
    rw [Bool.and_eq_true] at h
    refine ⟨first t, (t.take (t.length - 1)).drop 2, ?_, h.1, (taken_is f 0 _ h.2).1 (by omega)⟩
    have e := wrap_eq (t := t) (by omega)
    rw [show rbrW = final t from (lit_eq hr).symm, show lbrW = at' t 1 from (lit_eq hb).symm]
    conv => lhs; rw [← e]
    congr 1
    rw [← List.cons_append]
    congr 1
    match t, h4 with
    | a :: b :: c :: d :: r, _ => simp [at']
    | [], h => simp at h
    | [_], h => simp at h
    | [_, _], h => simp at h
    | [_, _, _], h => simp at h

theorem expr_iff (t : List ByteArray) : isExpr t = true ↔ Is 0 t := ⟨fun h => (taken_is _ 0 t h).1 (by omega), fun h => (is_taken h).2.2.2⟩
theorem cell_iff (t : List ByteArray) : isCell t = true ↔ ∃ x p, t = x :: lbrW :: (p ++ [rbrW]) ∧ nameB x = true ∧ Is 0 p := by
  constructor
  · intro h; exact (taken_is _ 4 t h).2 rfl
  · rintro ⟨x, p, rfl, hx, hp⟩
    rw [cell_cel (is_bal hp).ne hx]; exact (is_taken hp).2.2.2

end Rf
end Go.Proofs.YtopeochnoefgcaaGreat

namespace Go.Proofs.YtopeochnoefgcaaGreat
namespace Rf
open Rt

/-- A token's kind is what its first byte says. -/
structure TkOK (t : Tk) : Prop where
  num : t.kind = 2 ↔ numberB t.text = true
  nam : (t.kind = 1 ∧ resv t.text = false) ↔ nameB t.text = true
def AllOK (ts : List Tk) : Prop := ∀ t ∈ ts, TkOK t
theorem AllOK.left {a b : List Tk} (h : AllOK (a ++ b)) : AllOK a := fun t ht => h t (by simp [ht])
theorem AllOK.right {a b : List Tk} (h : AllOK (a ++ b)) : AllOK b := fun t ht => h t (by simp [ht])
theorem AllOK.tail {t : Tk} {b : List Tk} (h : AllOK (t :: b)) : AllOK b := fun u hu => h u (by simp [hu])
theorem AllOK.head {t : Tk} {b : List Tk} (h : AllOK (t :: b)) : TkOK t := h t (by simp)
theorem tx_app (a b : List Tk) : tx (a ++ b) = tx a ++ tx b := by simp [tx]
theorem tx_cons (t : Tk) (b : List Tk) : tx (t :: b) = t.text :: tx b := rfl
theorem tx_len (a : List Tk) : (tx a).length = a.length := by simp [tx]

/-- May each name of a list of tokens stand there? -/
def toksOK (V A : ByteArray → Bool) : List ByteArray → Bool
  | [] => true
  | x :: r => (if nameB x = true then (if first r = lbrW then A x else V x) else true) && toksOK V A r
def opsOK (V A : ByteArray → Bool) (e : List Pop) : Bool := e.all (fun o => if o.code = 2 then V o.name else if o.code = 3 then A o.name else true)
theorem opsOK_app (V A : ByteArray → Bool) (a b : List Pop) : opsOK V A (a ++ b) = (opsOK V A a && opsOK V A b) := by simp [opsOK]
theorem first_app {p q : List ByteArray} (h : 0 < p.length) : first (p ++ q) = first p := at_app_l h
theorem toksOK_app (V A : ByteArray → Bool) {q : List ByteArray} (h : ¬ first q = lbrW) : ∀ p : List ByteArray, toksOK V A (p ++ q) = (toksOK V A p && toksOK V A q)
  | [] => by simp [toksOK]
  | x :: r => by
    rw [List.cons_append, toksOK, toksOK, toksOK_app V A h r, Bool.and_assoc]
    cases r with
    | nil => rw [List.nil_append, if_neg h, if_neg (show ¬ first [] = lbrW by simp [first, at', lbrW])]
    | cons y s => rw [first_app (by simp)]

theorem div_code (x : ByteArray) : (7 ≤ opCode x ∧ opCode x ≤ 9) ↔ inB divW x = true := by
  simp only [opCode, str_lit, inB, divW, decide_eq_true_eq]
  by_cases h1 : x = ⟨#[43]⟩
  · subst h1; simp
  by_cases h2 : x = ⟨#[45]⟩
  · subst h2; simp
  by_cases h3 : x = ⟨#[42]⟩
  · subst h3; simp
  by_cases h4 : x = ⟨#[47]⟩
  · subst h4; simp
  by_cases h5 : x = ⟨#[37]⟩
  · subst h5; simp
  by_cases h6 : x = ⟨#[60]⟩
  · subst h6; simp
  by_cases h7 : x = ⟨#[61]⟩
  · subst h7; simp
  simp [h1, h2, h3, h4, h5, h6, h7, eq_comm]
theorem add_code (x : ByteArray) : (5 ≤ opCode x ∧ opCode x ≤ 6) ↔ inB addW x = true := by
  simp only [opCode, str_lit, inB, addW, decide_eq_true_eq]
  by_cases h1 : x = ⟨#[43]⟩
  · subst h1; simp
  by_cases h2 : x = ⟨#[45]⟩
  · subst h2; simp
  by_cases h3 : x = ⟨#[42]⟩
  · subst h3; simp
  by_cases h4 : x = ⟨#[47]⟩
  · subst h4; simp
  by_cases h5 : x = ⟨#[37]⟩
  · subst h5; simp
  by_cases h6 : x = ⟨#[60]⟩
  · subst h6; simp
  by_cases h7 : x = ⟨#[61]⟩
  · subst h7; simp
  simp [h1, h2, h3, h4, h5, h6, h7, eq_comm]
theorem cmp_code (x : ByteArray) : (10 ≤ opCode x ∧ opCode x ≤ 11) ↔ inB cmpW x = true := by
  simp only [opCode, str_lit, inB, cmpW, decide_eq_true_eq]
  by_cases h1 : x = ⟨#[43]⟩
  · subst h1; simp
  by_cases h2 : x = ⟨#[45]⟩
  · subst h2; simp
  by_cases h3 : x = ⟨#[42]⟩
  · subst h3; simp
  by_cases h4 : x = ⟨#[47]⟩
  · subst h4; simp
  by_cases h5 : x = ⟨#[37]⟩
  · subst h5; simp
  by_cases h6 : x = ⟨#[60]⟩
  · subst h6; simp
  by_cases h7 : x = ⟨#[61]⟩
  · subst h7; simp
  simp [h1, h2, h3, h4, h5, h6, h7, eq_comm]
/-- The signs of one level. -/
structure Level (sg : List ByteArray) (lo hi : Int) (k K : Nat) : Prop where
  code : ∀ x, (lo ≤ opCode x ∧ opCode x ≤ hi) ↔ inB sg x = true
  base : ∀ p, Is k p → Is K p
  up : ∀ p o q, Is K p → inB sg o = true → Is k q → Is K (p ++ o :: q)
  sgn : ∀ o, inB sg o = true → Sgn o
  nob : ∀ o, inB sg o = true → ¬ o = lbrW
theorem div_level : Level divW 7 9 3 2 := ⟨div_code, .t1, fun p o q => .t2 p o q, fun _ => div_sgn, fun o h => by rcases div_cases h with rfl | rfl | rfl <;> simp [lbrW]⟩
theorem add_level : Level addW 5 6 2 1 := ⟨add_code, .s1, fun p o q => .s2 p o q, fun _ => add_sgn, fun o h => by rcases add_cases h with rfl | rfl <;> simp [lbrW]⟩
theorem cmp_nob {o : ByteArray} (h : inB cmpW o = true) : ¬ o = lbrW := by rcases cmp_cases h with rfl | rfl <;> simp [lbrW]
theorem Sgn.noname {o : ByteArray} (h : Sgn o) : nameB o = false := by
  have := h.opd
  simp [opdB] at this
  exact this.1.1.1
theorem toksOK_sign (V A : ByteArray → Bool) {o : ByteArray} (h : nameB o = false) (q : List ByteArray) : toksOK V A (o :: q) = toksOK V A q := by
  rw [toksOK, if_neg (by rw [h]; simp)]; rfl

/-- What a reader of a piece takes is of that level, and its names are those of its work. -/
def Sound (pf : List Tk → Got) (k : Nat) : Prop := ∀ ts e r, AllOK ts → pf ts = some (e, r) → ∃ p, ts = p ++ r ∧ Is k (tx p) ∧ ∀ V A, opsOK V A e = toksOK V A (tx p)

theorem loop_sound {pf : List Tk → Got} {sg : List ByteArray} {lo hi : Int} {k K : Nat} (L : Level sg lo hi k K) (h : Sound pf k) : ∀ (g : Nat) (a : List ByteArray) (ts : List Tk) (e : List Pop) (r : List Tk), AllOK ts → Is K a → pLoop pf lo hi g ts = some (e, r) →
    ∃ p, ts = p ++ r ∧ Is K (a ++ tx p) ∧ (¬ first (tx p) = lbrW) ∧ ∀ V A, opsOK V A e = toksOK V A (tx p)
  | 0, _, _, _, _, _, _, h' => by simp [pLoop] at h'
  | g + 1, a, [], e, r, _, ha, h' => by
    simp [pLoop] at h'
    obtain ⟨rfl, rfl⟩ := h'
    exact ⟨[], rfl, by simpa [tx] using ha, by simp [tx, first, at', lbrW], fun V A => rfl⟩
  | g + 1, a, t :: ts, e, r, hok, ha, h' => by
    rw [pLoop] at h'
    split at h'
    · rename_i hc
      have hs := (L.code _).mp hc
      cases h1 : pf ts with
      | none => rw [h1] at h'; cases h'
      | some x =>
        obtain ⟨e1, r1⟩ := x
        rw [h1] at h'
        simp only at h'
        obtain ⟨p1, e1', i1, o1⟩ := h ts e1 r1 hok.tail h1
        cases h2 : pLoop pf lo hi g r1 with
        | none => rw [h2] at h'; cases h'
        | some y =>
          obtain ⟨e2, r2⟩ := y
          rw [h2] at h'
          simp only [Option.some.injEq, Prod.mk.injEq] at h'
          obtain ⟨rfl, rfl⟩ := h'
          have hok1 : AllOK r1 := by rw [e1'] at hok; exact hok.tail.right
          have ha2 := L.up a t.text (tx p1) ha hs i1
          obtain ⟨p2, e2', i2, n2, o2⟩ := loop_sound L h g _ r1 e2 r2 hok1 ha2 h2
          refine ⟨t :: (p1 ++ p2), by rw [e1', e2']; simp, ?_, ?_, fun V A => ?_⟩
          · rw [tx_cons, tx_app]
            simpa using i2
          · rw [tx_cons]; exact L.nob _ hs
          · rw [tx_cons, toksOK_sign V A (L.sgn _ hs).noname, tx_app, toksOK_app V A n2, opsOK_app, o1 V A]
            congr 1
            show ((if opCode t.text = 2 then _ else if opCode t.text = 3 then _ else true) && opsOK V A e2) = _
            have hop : ¬ opCode t.text = 2 ∧ ¬ opCode t.text = 3 := by
              unfold opCode
              repeat' split
              all_goals omega
            rw [if_neg hop.1, if_neg hop.2, o2 V A]; rfl
    · simp only [Option.some.injEq, Prod.mk.injEq] at h'
      obtain ⟨rfl, rfl⟩ := h'
      exact ⟨[], rfl, by simpa [tx] using ha, by simp [tx, first, at', lbrW], fun V A => rfl⟩
theorem chain_sound {pf : List Tk → Got} {sg : List ByteArray} {lo hi : Int} {k K : Nat} (L : Level sg lo hi k K) (h : Sound pf k) : Sound (pChain pf lo hi) K := by
  intro ts e r hok h'
  unfold pChain at h'
  cases h1 : pf ts with
  | none => rw [h1] at h'; cases h'
  | some x =>
    obtain ⟨e1, r1⟩ := x
    rw [h1] at h'
    simp only at h'
    obtain ⟨p1, e1', i1, o1⟩ := h ts e1 r1 hok h1
    cases h2 : pLoop pf lo hi 25 r1 with
    | none => rw [h2] at h'; simp [joinE] at h'
    | some y =>
      obtain ⟨e2, r2⟩ := y
      rw [h2] at h'
      simp only [joinE, Option.some.injEq, Prod.mk.injEq] at h'
      obtain ⟨rfl, rfl⟩ := h'
      have hok1 : AllOK r1 := by rw [e1'] at hok; exact hok.right
      obtain ⟨p2, e2', i2, n2, o2⟩ := loop_sound L h 25 _ r1 e2 r2 hok1 (L.base _ i1) h2
      refine ⟨p1 ++ p2, by rw [e1', e2']; simp, by rw [tx_app]; exact i2, fun V A => ?_⟩
      rw [tx_app, toksOK_app V A n2, opsOK_app, o1 V A, o2 V A]
theorem comp_sound {pf : List Tk → Got} (h : Sound pf 3) : Sound (pComp pf) 0 := by
  have hs : Sound (pSum pf) 1 := chain_sound add_level (chain_sound div_level h)
  intro ts e r hok h'
  unfold pComp at h'
  cases h1 : pSum pf ts with
  | none => rw [h1] at h'; cases h'
  | some x =>
    obtain ⟨e1, r1⟩ := x
    rw [h1] at h'
    obtain ⟨p1, e1', i1, o1⟩ := hs ts e1 r1 hok h1
    cases r1 with
    | nil =>
      simp only [Option.some.injEq, Prod.mk.injEq] at h'
      obtain ⟨rfl, rfl⟩ := h'
      exact ⟨p1, e1', .e1 _ i1, o1⟩
    | cons t r1 =>
      simp only at h'
      split at h'
      · rename_i hc
        have hsg := (cmp_code _).mp hc
        cases h2 : pSum pf r1 with
        | none => rw [h2] at h'; cases h'
        | some y =>
          obtain ⟨e2, r2⟩ := y
          rw [h2] at h'
          simp only [Option.some.injEq, Prod.mk.injEq] at h'
          obtain ⟨rfl, rfl⟩ := h'
          have hok1 : AllOK r1 := by rw [e1'] at hok; exact hok.right.tail
          obtain ⟨p2, e2', i2, o2⟩ := hs r1 e2 r2 hok1 h2
          refine ⟨p1 ++ t :: p2, by rw [e1', e2']; simp, by rw [tx_app, tx_cons]; exact .e2 _ _ _ i1 hsg i2, fun V A => ?_⟩
          rw [tx_app, tx_cons, toksOK_app V A (by exact cmp_nob hsg), toksOK_sign V A (cmp_sgn hsg).noname, opsOK_app, opsOK_app, o1 V A, o2 V A]
          have hop : ¬ opCode t.text = 2 ∧ ¬ opCode t.text = 3 := by omega
          show (_ && ((if opCode t.text = 2 then _ else if opCode t.text = 3 then _ else true) && true)) = _
          rw [if_neg hop.1, if_neg hop.2]; simp
      · simp only [Option.some.injEq, Prod.mk.injEq] at h'
        obtain ⟨rfl, rfl⟩ := h'
        exact ⟨p1, e1', .e1 _ i1, o1⟩

theorem noname_lit (b : UInt8) (h : letterB (b.toNat : Int) = false) : nameB ⟨#[b]⟩ = false := by
  have e : byteAt ⟨#[b]⟩ 0 = (b.toNat : Int) := by rw [byteAt_lt (by show 0 < 1; decide)]; rfl
  simp [nameB, e, h]
theorem closed_sound {x : ByteArray} {last : List Pop} {y : Got} {e : List Pop} {r : List Tk} (h : closed x last y = some (e, r)) : ∃ e1 t, y = some (e1, t :: r) ∧ t.text = x ∧ e = e1 ++ last := by
  unfold closed at h
  split at h
  · cases h
  · cases h
  · rename_i e1 t r1
    split at h
    · rename_i ht
      simp only [Option.some.injEq, Prod.mk.injEq] at h
      obtain ⟨rfl, rfl⟩ := h
      exact ⟨e1, t, rfl, ht, rfl⟩
    · cases h
theorem factor_sound : ∀ f, Sound (pFactor f) 3
  | 0 => by intro ts e r _ h; simp [pFactor] at h
  | f + 1 => by
    intro ts e r hok h
    have ih := factor_sound f
    cases ts with
    | nil => simp [pFactor] at h
    | cons t ts =>
      rw [pFactor] at h
      split at h
      · rename_i hm
        cases h1 : pFactor f ts with
        | none => rw [h1] at h; cases h
        | some x =>
          obtain ⟨e1, r1⟩ := x
          rw [h1] at h
          simp only [Option.some.injEq, Prod.mk.injEq] at h
          obtain ⟨rfl, rfl⟩ := h
          obtain ⟨p1, e1', i1, o1⟩ := ih ts e1 r1 hok.tail h1
          refine ⟨t :: p1, by rw [e1']; rfl, by rw [tx_cons, hm]; exact .neg _ i1, fun V A => ?_⟩
          rw [tx_cons, hm, toksOK_sign V A (noname_lit 45 (by decide)), opsOK_app, o1 V A]
          simp [opsOK]
      · split at h
        · rename_i hm hp
          obtain ⟨e1, c, h1, hc, rfl⟩ := closed_sound h
          obtain ⟨p1, e1', i1, o1⟩ := comp_sound ih ts e1 (c :: r) hok.tail h1
          refine ⟨t :: (p1 ++ [c]), by rw [e1']; simp, ?_, fun V A => ?_⟩
          · rw [tx_cons, tx_app, hp]
            show Is 3 (lparW :: (tx p1 ++ [c.text]))
            rw [hc]; exact .par _ i1
          · rw [tx_cons, hp, toksOK_sign V A (noname_lit 40 (by decide)), tx_app]
            show _ = toksOK V A (tx p1 ++ [c.text])
            rw [hc, toksOK_app V A (by show ¬ (⟨#[41]⟩ : ByteArray) = ⟨#[91]⟩; simp), toksOK_sign V A (noname_lit 41 (by decide)), opsOK_app, o1 V A]
            rfl
        · split at h
          · rename_i hm hp hk
            simp only [Option.some.injEq, Prod.mk.injEq] at h
            obtain ⟨rfl, rfl⟩ := h
            have hn := hok.head.num.mp hk
            refine ⟨[t], rfl, .num _ hn, fun V A => ?_⟩
            have : nameB t.text = false := by
              cases hq : nameB t.text with
              | false => rfl
              | true => have := hok.head.nam.mpr hq; omega
            show _ = toksOK V A [t.text]
            rw [toksOK_sign V A this]; simp [opsOK, toksOK]
          · split at h
            · rename_i hm hp hk hn
              have hnm := hok.head.nam.mp hn
              cases ts with
              | nil =>
                simp only [pVar, Option.some.injEq, Prod.mk.injEq] at h
                obtain ⟨rfl, rfl⟩ := h
                refine ⟨[t], rfl, .nam _ hnm, fun V A => ?_⟩
                show _ = toksOK V A [t.text]
                rw [toksOK, if_pos hnm, if_neg (by simp [first, at', lbrW])]
                simp [opsOK, toksOK]
              | cons u ts =>
                rw [pVar] at h
                split at h
                · rename_i hu
                  obtain ⟨e1, c, h1, hc, rfl⟩ := closed_sound h
                  obtain ⟨p1, e1', i1, o1⟩ := comp_sound ih ts e1 (c :: r) hok.tail.tail h1
                  refine ⟨t :: u :: (p1 ++ [c]), by rw [e1']; simp, ?_, fun V A => ?_⟩
                  · rw [tx_cons, tx_cons, tx_app, hu]
                    show Is 3 (t.text :: lbrW :: (tx p1 ++ [c.text]))
                    rw [hc]; exact .cel _ _ hnm i1
                  · rw [tx_cons, tx_cons, hu, tx_app]
                    show _ = toksOK V A (t.text :: ⟨#[91]⟩ :: (tx p1 ++ [c.text]))
                    rw [toksOK, if_pos hnm, if_pos (show first (⟨#[91]⟩ :: (tx p1 ++ [c.text])) = lbrW from rfl), toksOK_sign V A (noname_lit 91 (by decide)), hc, toksOK_app V A (by show ¬ (⟨#[93]⟩ : ByteArray) = ⟨#[91]⟩; simp), toksOK_sign V A (noname_lit 93 (by decide)), opsOK_app, o1 V A]
                    simp [opsOK, toksOK, Bool.and_comm]
                · rename_i hu
                  simp only [Option.some.injEq, Prod.mk.injEq] at h
                  obtain ⟨rfl, rfl⟩ := h
                  refine ⟨[t], rfl, .nam _ hnm, fun V A => ?_⟩
                  show _ = toksOK V A [t.text]
                  rw [toksOK, if_pos hnm, if_neg (by simp [first, at', lbrW])]
                  simp [opsOK, toksOK]
            · cases h
theorem expr_sound : Sound pExpr 0 := comp_sound (factor_sound 24)

end Rf
end Go.Proofs.YtopeochnoefgcaaGreat

namespace Go.Proofs.YtopeochnoefgcaaGreat
namespace Rf
open Rt

/-- What stands behind an operand: signs of a level and pieces of the level below. -/
inductive Tail (sg : List ByteArray) (k : Nat) : List ByteArray → Prop
  | nil : Tail sg k []
  | cons (o : ByteArray) (q r : List ByteArray) : inB sg o = true → Is k q → Tail sg k r → Tail sg k (o :: (q ++ r))
theorem Tail.snoc {sg : List ByteArray} {k : Nat} {t : List ByteArray} (h : Tail sg k t) (o : ByteArray) (q : List ByteArray) (ho : inB sg o = true) (hq : Is k q) : Tail sg k (t ++ o :: q) := by
  induction h with
  | nil => have := Tail.cons o q [] ho hq .nil; simpa using this
  | cons o' q' r' ho' hq' _ ih => have := Tail.cons o' q' _ ho' hq' ih; simpa using this
theorem term_tail {k : Nat} {p : List ByteArray} (h : Is k p) : k = 2 → ∃ a t, p = a ++ t ∧ Is 3 a ∧ Tail divW 3 t := by
  induction h with
  | t1 p hp _ => intro _; exact ⟨p, [], by simp, hp, .nil⟩
  | t2 p o q hp ho hq ih _ =>
    intro _
    obtain ⟨a, t, rfl, ha, ht⟩ := ih rfl
    exact ⟨a, t ++ o :: q, by simp, ha, ht.snoc o q ho hq⟩
  | _ => intro h; omega
theorem sum_tail {k : Nat} {p : List ByteArray} (h : Is k p) : k = 1 → ∃ a t, p = a ++ t ∧ Is 2 a ∧ Tail addW 2 t := by
  induction h with
  | s1 p hp _ => intro _; exact ⟨p, [], by simp, hp, .nil⟩
  | s2 p o q hp ho hq ih _ =>
    intro _
    obtain ⟨a, t, rfl, ha, ht⟩ := ih rfl
    exact ⟨a, t ++ o :: q, by simp, ha, ht.snoc o q ho hq⟩
  | _ => intro h; omega
theorem expr_parts {k : Nat} {p : List ByteArray} (h : Is k p) : k = 0 → Is 1 p ∨ ∃ a o b, p = a ++ o :: b ∧ Is 1 a ∧ inB cmpW o = true ∧ Is 1 b := by
  intro hk
  cases h with
  | e1 p hp => exact Or.inl hp
  | e2 p o q hp ho hq => exact Or.inr ⟨p, o, q, rfl, hp, ho, hq⟩
  | _ => omega
theorem factor_parts {k : Nat} {p : List ByteArray} (h : Is k p) : k = 3 → (∃ x, p = [x] ∧ numberB x = true) ∨ (∃ x, p = [x] ∧ nameB x = true) ∨ (∃ q, p = minusW :: q ∧ Is 3 q) ∨ (∃ q, p = lparW :: (q ++ [rparW]) ∧ Is 0 q) ∨ (∃ x q, p = x :: lbrW :: (q ++ [rbrW]) ∧ nameB x = true ∧ Is 0 q) := by
  intro hk
  cases h with
  | num x h => exact Or.inl ⟨x, rfl, h⟩
  | nam x h => exact Or.inr (Or.inl ⟨x, rfl, h⟩)
  | neg p h => exact Or.inr (Or.inr (Or.inl ⟨p, rfl, h⟩))
  | par p h => exact Or.inr (Or.inr (Or.inr (Or.inl ⟨p, rfl, h⟩)))
  | cel x p hx h => exact Or.inr (Or.inr (Or.inr (Or.inr ⟨x, p, rfl, hx, h⟩)))
  | _ => omega

/-- May a piece whose signs have these codes end ahead of r? -/
def Ends (lo hi : Int) (r : List Tk) : Prop := (¬ first (tx r) = lbrW) ∧ ¬ (lo ≤ opCode (first (tx r)) ∧ opCode (first (tx r)) ≤ hi)
/-- A reader takes a piece of level k whole. -/
def Comp (pf : List Tk → Got) (k n : Nat) (lo hi : Int) : Prop := ∀ p r, AllOK (p ++ r) → Is k (tx p) → p.length ≤ n → Ends lo hi r → ∃ e, pf (p ++ r) = some (e, r)

theorem tx_split {p : List Tk} {a b : List ByteArray} (h : tx p = a ++ b) : ∃ p1 p2, p = p1 ++ p2 ∧ tx p1 = a ∧ tx p2 = b := by
  obtain ⟨p1, p2, h1, h2, h3⟩ := List.map_eq_append_iff.mp h
  exact ⟨p1, p2, h1, h2, h3⟩
theorem tx_uncons {p : List Tk} {x : ByteArray} {b : List ByteArray} (h : tx p = x :: b) : ∃ t p2, p = t :: p2 ∧ t.text = x ∧ tx p2 = b := by
  obtain ⟨t, p2, h1, h2, h3⟩ := List.map_eq_cons_iff.mp h
  exact ⟨t, p2, h1, h2, h3⟩
theorem tx_nil {p : List Tk} (h : tx p = []) : p = [] := by simpa [tx] using h
theorem opCode_nil : opCode (first []) = 0 := by
  simp [first, at', opCode]

theorem loop_comp {pf : List Tk → Got} {sg : List ByteArray} {lo hi : Int} {k K : Nat} {n : Nat} (L : Level sg lo hi k K) {l1 h1 : Int} (h : Comp pf k n l1 h1) (hin : ∀ o, inB sg o = true → ¬ (l1 ≤ opCode o ∧ opCode o ≤ h1)) :
    ∀ (g : Nat) (p r : List Tk), AllOK (p ++ r) → Tail sg k (tx p) → p.length ≤ n → p.length < g → Ends lo hi r → Ends l1 h1 r → ∃ e, pLoop pf lo hi g (p ++ r) = some (e, r) := by
  intro g
  induction g with
  | zero => intro p r _ _ _ hg; omega
  | succ g ih =>
    intro p r hok ht hn hg hr hr1
    generalize htx : tx p = l at ht
    cases ht with
    | nil =>
      have := tx_nil htx
      subst this
      cases r with
      | nil => exact ⟨_, rfl⟩
      | cons t r =>
        refine ⟨[], ?_⟩
        show pLoop pf lo hi (g + 1) (t :: r) = _
        rw [pLoop, if_neg (show ¬ (lo ≤ opCode t.text ∧ opCode t.text ≤ hi) from hr.2)]
    | cons o q rest ho hq hrest =>
      obtain ⟨t, p2, rfl, h1', h2'⟩ := tx_uncons htx
      obtain ⟨pq, pr, rfl, h3, h4⟩ := tx_split h2'
      simp only [List.length_cons, List.length_append] at hn hg
      have hend : Ends l1 h1 (pr ++ r) := by
        cases pr with
        | nil => simpa using hr1
        | cons u pr =>
          have hu : inB sg u.text = true := by
            rw [← h4] at hrest
            generalize hh : tx (u :: pr) = l2 at hrest
            cases hrest with
            | nil => simp [tx] at hh
            | cons o' q' r' ho' _ _ => rw [tx_cons] at hh; injection hh with hh; rw [hh]; exact ho'
          exact ⟨L.nob _ hu, hin _ hu⟩
      have hok2 : AllOK (pq ++ (pr ++ r)) := by
        have := hok
        simp only [List.cons_append, List.append_assoc] at this
        exact this.tail
      obtain ⟨e1, he1⟩ := h pq (pr ++ r) hok2 (by rw [h3]; exact hq) (by omega) hend
      obtain ⟨e2, he2⟩ := ih pr r hok2.right (by rw [h4]; exact hrest) (by omega) (by omega) hr hr1
      apply Exists.intro
      simp only [List.cons_append, List.append_assoc]
      rw [pLoop, if_pos ((L.code _).mpr (by rw [h1']; exact ho)), he1]
      simp only
      rw [he2]

theorem chain_comp {pf : List Tk → Got} {sg : List ByteArray} {lo hi : Int} {k K : Nat} {n : Nat} (L : Level sg lo hi k K) {l1 h1 : Int} (h : Comp pf k n l1 h1) (hin : ∀ o, inB sg o = true → ¬ (l1 ≤ opCode o ∧ opCode o ≤ h1))
    (hsp : ∀ p, Is K p → ∃ a t, p = a ++ t ∧ Is k a ∧ Tail sg k t) (hn : n ≤ 24) (p r : List Tk) (hok : AllOK (p ++ r)) (hp : Is K (tx p)) (hl : p.length ≤ n) (hr : Ends lo hi r) (hr1 : Ends l1 h1 r) : ∃ e, pChain pf lo hi (p ++ r) = some (e, r) := by
  obtain ⟨a, t, he, ha, ht⟩ := hsp _ hp
  obtain ⟨pa, pt, rfl, h3, h4⟩ := tx_split he
  simp only [List.length_append] at hl
  rw [List.append_assoc] at hok ⊢
  have hend : Ends l1 h1 (pt ++ r) := by
    cases pt with
    | nil => simpa using hr1
    | cons u pt =>
      have hu : inB sg u.text = true := by
        rw [← h4] at ht
        generalize hh : tx (u :: pt) = l2 at ht
        cases ht with
        | nil => simp [tx] at hh
        | cons o' q' r' ho' _ _ => rw [tx_cons] at hh; injection hh with hh; rw [hh]; exact ho'
      exact ⟨L.nob _ hu, hin _ hu⟩
  obtain ⟨e1, he1⟩ := h pa (pt ++ r) hok (by rw [h3]; exact ha) (by omega) hend
  obtain ⟨e2, he2⟩ := loop_comp L h hin 25 pt r hok.right (by rw [h4]; exact ht) (by omega) (by omega) hr hr1
  refine ⟨e1 ++ e2, ?_⟩
  unfold pChain
  rw [he1]
  simp only
  rw [he2]
  rfl

theorem Ends.sub {lo hi lo' hi' : Int} {r : List Tk} (h : Ends lo hi r) (h1 : lo ≤ lo') (h2 : hi' ≤ hi) : Ends lo' hi' r := ⟨h.1, fun ⟨a, b⟩ => h.2 ⟨by omega, by omega⟩⟩

theorem comp_comp {pf : List Tk → Got} {n : Nat} (hn : n ≤ 24) (h : Comp pf 3 n 100 0) : Comp (pComp pf) 0 n 5 11 := by
  have ht : Comp (pTerm pf) 2 n 7 9 := fun p r hok hp hl hr => chain_comp div_level h (fun o _ => by omega) (fun p hp => term_tail hp rfl) hn p r hok hp hl hr ⟨hr.1, by omega⟩
  have hadd : ∀ o, inB addW o = true → ¬ (7 ≤ opCode o ∧ opCode o ≤ 9) := fun o ho hc => by
    have h1 := (add_code o).mpr ho
    omega
  have hs : Comp (pSum pf) 1 n 5 9 := fun p r hok hp hl hr => chain_comp add_level ht hadd (fun p hp => sum_tail hp rfl) hn p r hok hp hl (hr.sub (by omega) (by omega)) (hr.sub (by omega) (by omega))
  intro p r hok hp hl hr
  rcases expr_parts hp rfl with hp | ⟨a, o, b, he, ha, ho, hb⟩
  · obtain ⟨e, he⟩ := hs p r hok hp hl (hr.sub (by omega) (by omega))
    refine ⟨e, ?_⟩
    unfold pComp
    rw [he]
    cases r with
    | nil => rfl
    | cons t r =>
      simp only
      rw [if_neg]
      intro hc
      exact hr.2 ⟨by show 5 ≤ opCode t.text; omega, by show opCode t.text ≤ 11; omega⟩
  · obtain ⟨pa, p2, rfl, h3, h4⟩ := tx_split he
    obtain ⟨t, pb, rfl, h5, h6⟩ := tx_uncons h4
    simp only [List.length_append, List.length_cons] at hl
    rw [List.append_assoc] at hok ⊢
    rw [List.cons_append] at hok ⊢
    have hc := (cmp_code o).mpr ho
    obtain ⟨e1, he1⟩ := hs pa (t :: (pb ++ r)) hok (by rw [h3]; exact ha) (by omega) ⟨by show ¬ t.text = lbrW; rw [h5]; exact cmp_nob ho, by
      show ¬ (5 ≤ opCode t.text ∧ opCode t.text ≤ 9)
      rw [h5]; omega⟩
    obtain ⟨e2, he2⟩ := hs pb r hok.right.tail (by rw [h6]; exact hb) (by omega) (hr.sub (by omega) (by omega))
    apply Exists.intro
    unfold pComp
    rw [he1]
    simp only
    rw [h5, if_pos hc, he2]

theorem lit_no {x : ByteArray} (h : nameB x = true ∨ numberB x = true) (b : UInt8) (hb : letterB (b.toNat : Int) = false) (hb' : digitB (b.toNat : Int) = false) : ¬ x = ⟨#[b]⟩ := by
  have := word_ne h b hb hb'
  rw [str_lit, decide_eq_false_iff_not] at this
  exact this
theorem closing (b : UInt8) (h : b = 41 ∨ b = 93) : (¬ (⟨#[b]⟩ : ByteArray) = lbrW) ∧ ¬ (5 ≤ opCode ⟨#[b]⟩ ∧ opCode ⟨#[b]⟩ ≤ 11) := by
  rcases h with rfl | rfl <;> simp [lbrW, opCode]
theorem factor_comp : ∀ n, n ≤ 24 → Comp (pFactor n) 3 n 100 0
  | 0, _ => by
    intro p r _ hp hl
    have := (is_bal hp).ne
    rw [tx_len] at this
    omega
  | n + 1, hn => by
    intro p r hok hp hl hr
    have ih := factor_comp n (by omega)
    have ihc := comp_comp (by omega) ih
    rcases factor_parts hp rfl with ⟨x, he, hx⟩ | ⟨x, he, hx⟩ | ⟨q, he, hq⟩ | ⟨q, he, hq⟩ | ⟨x, q, he, hx, hq⟩
    · obtain ⟨t, p2, rfl, h1, h2⟩ := tx_uncons he
      have := tx_nil h2
      subst this
      apply Exists.intro
      simp only [List.cons_append, List.nil_append]
      rw [pFactor, if_neg (by rw [h1]; exact lit_no (Or.inr hx) 45 (by decide) (by decide)), if_neg (by rw [h1]; exact lit_no (Or.inr hx) 40 (by decide) (by decide)), if_pos (hok.head.num.mpr (by rw [h1]; exact hx))]
    · obtain ⟨t, p2, rfl, h1, h2⟩ := tx_uncons he
      have := tx_nil h2
      subst this
      have hk := hok.head.nam.mpr (by rw [h1]; exact hx)
      simp only [List.cons_append, List.nil_append]
      rw [pFactor, if_neg (by rw [h1]; exact lit_no (Or.inl hx) 45 (by decide) (by decide)), if_neg (by rw [h1]; exact lit_no (Or.inl hx) 40 (by decide) (by decide)), if_neg (by omega), if_pos hk]
      cases r with
      | nil => exact ⟨_, rfl⟩
      | cons u r =>
        apply Exists.intro
        rw [pVar, if_neg (show ¬ u.text = ⟨#[91]⟩ from hr.1)]
    · obtain ⟨t, p2, rfl, h1, h2⟩ := tx_uncons he
      simp only [List.length_cons] at hl
      obtain ⟨e, he'⟩ := ih p2 r hok.tail (by rw [h2]; exact hq) (by omega) hr
      apply Exists.intro
      rw [List.cons_append, pFactor, if_pos (show t.text = ⟨#[45]⟩ from h1), he']
    · obtain ⟨t, p2, rfl, h1, h2⟩ := tx_uncons he
      obtain ⟨pq, pc, rfl, h3, h4⟩ := tx_split h2
      obtain ⟨c, p3, rfl, h5, h6⟩ := tx_uncons h4
      have := tx_nil h6
      subst this
      simp only [List.length_cons, List.length_append, List.length_nil] at hl
      simp only [List.cons_append, List.append_assoc, List.nil_append] at hok ⊢
      obtain ⟨e, he'⟩ := ihc pq (c :: r) hok.tail (by rw [h3]; exact hq) (by omega) (by
        have := closing 41 (Or.inl rfl)
        refine ⟨by show ¬ c.text = lbrW; rw [h5]; exact this.1, by show ¬ (5 ≤ opCode c.text ∧ opCode c.text ≤ 11); rw [h5]; exact this.2⟩)
      apply Exists.intro
      rw [pFactor, if_neg (by rw [h1]; show ¬ (⟨#[40]⟩ : ByteArray) = ⟨#[45]⟩; simp), if_pos (show t.text = ⟨#[40]⟩ from h1), he', closed, if_pos (show c.text = ⟨#[41]⟩ from h5)]
    · obtain ⟨t, p2, rfl, h1, h2⟩ := tx_uncons he
      obtain ⟨u, p2, rfl, h1', h2⟩ := tx_uncons h2
      obtain ⟨pq, pc, rfl, h3, h4⟩ := tx_split h2
      obtain ⟨c, p3, rfl, h5, h6⟩ := tx_uncons h4
      have := tx_nil h6
      subst this
      simp only [List.length_cons, List.length_append, List.length_nil] at hl
      simp only [List.cons_append, List.append_assoc, List.nil_append] at hok ⊢
      have hk := hok.head.nam.mpr (by rw [h1]; exact hx)
      obtain ⟨e, he'⟩ := ihc pq (c :: r) hok.tail.tail (by rw [h3]; exact hq) (by omega) (by
        have := closing 93 (Or.inr rfl)
        refine ⟨by show ¬ c.text = lbrW; rw [h5]; exact this.1, by show ¬ (5 ≤ opCode c.text ∧ opCode c.text ≤ 11); rw [h5]; exact this.2⟩)
      apply Exists.intro
      rw [pFactor, if_neg (by rw [h1]; exact lit_no (Or.inl hx) 45 (by decide) (by decide)), if_neg (by rw [h1]; exact lit_no (Or.inl hx) 40 (by decide) (by decide)), if_neg (by omega), if_pos hk, pVar, if_pos (show u.text = ⟨#[91]⟩ from h1'), he', closed, if_pos (show c.text = ⟨#[93]⟩ from h5)]
theorem expr_comp : Comp pExpr 0 24 5 11 := comp_comp (Nat.le_refl _) (factor_comp 24 (Nat.le_refl _))

end Rf
end Go.Proofs.YtopeochnoefgcaaGreat

namespace Go.Proofs.YtopeochnoefgcaaGreat
namespace Rf
open Rt

def commaW : ByteArray := ⟨#[44]⟩
def toW : ByteArray := ⟨#[116, 111]⟩

theorem noword {x : ByteArray} (h : nameB x = true ∨ numberB x = true) : ¬ x = commaW ∧ ¬ x = toW := by
  refine ⟨lit_no h 44 (by decide) (by decide), ?_⟩
  rintro rfl
  rcases h with h | h
  · simp [nameB, toW, inB, resvW] at h
  · have e : byteAt toW 0 = 116 := by rw [byteAt_lt (by show 0 < 2; decide)]; rfl
    simp [numberB, e, digitB] at h
theorem nosign (b : UInt8) (h : ¬ b = 44) : ¬ (⟨#[b]⟩ : ByteArray) = commaW ∧ ¬ (⟨#[b]⟩ : ByteArray) = toW := by
  refine ⟨?_, ?_⟩
  · intro e; simp [commaW] at e; exact h e
  · intro e; simp [toW] at e
theorem in_no {o : ByteArray} (h : inB divW o = true ∨ inB addW o = true ∨ inB cmpW o = true) : ¬ o = commaW ∧ ¬ o = toW := by
  rcases h with h | h | h
  · rcases div_cases h with rfl | rfl | rfl <;> exact nosign _ (by decide)
  · rcases add_cases h with rfl | rfl <;> exact nosign _ (by decide)
  · rcases cmp_cases h with rfl | rfl <;> exact nosign _ (by decide)
theorem is_tokens {k : Nat} {p : List ByteArray} (h : Is k p) : ∀ x ∈ p, ¬ x = commaW ∧ ¬ x = toW := by
  induction h with
  | num x h => intro y hy; simp at hy; subst hy; exact noword (Or.inr h)
  | nam x h => intro y hy; simp at hy; subst hy; exact noword (Or.inl h)
  | neg p _ ih =>
    intro y hy
    rcases List.mem_cons.mp hy with rfl | hy
    · exact nosign 45 (by decide)
    · exact ih y hy
  | par p _ ih =>
    intro y hy
    simp only [List.mem_cons, List.mem_append, List.not_mem_nil, or_false] at hy
    rcases hy with rfl | hy | rfl
    · exact nosign 40 (by decide)
    · exact ih y hy
    · exact nosign 41 (by decide)
  | cel x p hx _ ih =>
    intro y hy
    simp only [List.mem_cons, List.mem_append, List.not_mem_nil, or_false] at hy
    rcases hy with rfl | rfl | hy | rfl
    · exact noword (Or.inl hx)
    · exact nosign 91 (by decide)
    · exact ih y hy
    · exact nosign 93 (by decide)
  | t1 p _ ih => exact ih
  | t2 p o q _ ho _ ih1 ih2 =>
    intro y hy
    simp only [List.mem_cons, List.mem_append] at hy
    rcases hy with hy | rfl | hy
    · exact ih1 y hy
    · exact in_no (Or.inl ho)
    · exact ih2 y hy
  | s1 p _ ih => exact ih
  | s2 p o q _ ho _ ih1 ih2 =>
    intro y hy
    simp only [List.mem_cons, List.mem_append] at hy
    rcases hy with hy | rfl | hy
    · exact ih1 y hy
    · exact in_no (Or.inr (Or.inl ho))
    · exact ih2 y hy
  | e1 p _ ih => exact ih
  | e2 p o q _ ho _ ih1 ih2 =>
    intro y hy
    simp only [List.mem_cons, List.mem_append] at hy
    rcases hy with hy | rfl | hy
    · exact ih1 y hy
    · exact in_no (Or.inr (Or.inr ho))
    · exact ih2 y hy

/-- Lists with a comma between each two. -/
def joinC : List (List ByteArray) → List ByteArray
  | [] => []
  | [a] => a
  | a :: b :: r => a ++ commaW :: joinC (b :: r)
theorem joinC_snoc : ∀ (ps : List (List ByteArray)) (l : List ByteArray), joinC (ps ++ [l]) = ps.flatMap (fun p => p ++ [commaW]) ++ l
  | [], l => by simp [joinC]
  | [a], l => by simp [joinC]
  | a :: b :: r, l => by
    have ih := joinC_snoc (b :: r) l
    show joinC (a :: b :: (r ++ [l])) = _
    rw [joinC]
    rw [List.cons_append] at ih
    rw [ih]
    simp
theorem comma_is {x : ByteArray} : ((x.toList == [44]) = true) ↔ x = commaW := by
  rw [str_lit]; simp [commaW]
theorem partsTo_join (t : List ByteArray) : ∀ i, i ≤ t.length → t.take i = (partsTo t i).1.flatMap (fun p => p ++ [commaW]) ++ (t.take i).drop (partsTo t i).2
  | 0, _ => by simp [partsTo]
  | i + 1, h => by
    have ih := partsTo_join t i (by omega)
    have hb := partsTo_b t i
    have ht : t.take (i + 1) = t.take i ++ [at' t i] := by
      rw [at_lt (by omega), List.take_succ_eq_append_getElem (by omega)]
    rw [partsTo]
    split
    · rename_i hc
      have hx := comma_is.mp hc.1
      simp only
      have hd : (t.take (i + 1)).drop (i + 1) = [] := List.drop_eq_nil_of_le (by rw [List.length_take]; omega)
      rw [List.flatMap_append, hd]
      simp only [List.flatMap_cons, List.flatMap_nil, List.append_nil]
      rw [ht, hx]
      conv => lhs; rw [ih]
      simp
    · rw [ht, List.drop_append_of_le_length (by rw [List.length_take]; omega), ← List.append_assoc, ← ih]
theorem parts_join (t : List ByteArray) : joinC (parts t) = t := by
  rw [parts]
  split
  · rename_i h
    rw [List.eq_nil_of_length_eq_zero h]; rfl
  · rw [joinC_snoc]
    have := partsTo_join t t.length (Nat.le_refl _)
    rw [List.take_length] at this
    exact this.symm

theorem partsTo_none {a b : List ByteArray} (ha : ∀ x ∈ a, ¬ x = commaW) : ∀ i, i ≤ a.length → partsTo (a ++ b) i = ([], 0)
  | 0, _ => rfl
  | i + 1, h => by
    rw [partsTo, if_neg, partsTo_none ha i (by omega)]
    rintro ⟨h1, _⟩
    rw [at_app_l (by omega), at_lt (by omega)] at h1
    exact ha _ (List.getElem_mem _) (comma_is.mp h1)
theorem dch_comma : dch commaW = 0 := by rw [commaW, dch_of]; decide
theorem partsTo_more {a c : List ByteArray} (ha : ∀ x ∈ a, ¬ x = commaW) (hb : Bal a) : ∀ j, j ≤ c.length → partsTo (a ++ commaW :: c) (a.length + 1 + j) = (a :: (partsTo c j).1, a.length + 1 + (partsTo c j).2)
  | 0, _ => by
    rw [Nat.add_zero, partsTo.eq_def]
    simp only
    rw [if_pos, partsTo_none ha _ (Nat.le_refl _)]
    · simp [partsTo]
    · refine ⟨comma_is.mpr ?_, ?_⟩
      · rw [at_app_len]; rfl
      · rw [depth_app_l a _ _ (Nat.le_refl _)]; exact hb.zero
  | j + 1, h => by
    have ih := partsTo_more (c := c) ha hb j (by omega)
    have e1 : at' (a ++ commaW :: c) (a.length + 1 + j) = at' c j := by
      rw [show a.length + 1 + j = a.length + (j + 1) by omega, at_app_r, at_cons]
    have e2 : depth (a ++ commaW :: c) (a.length + 1 + j) = depth c j := by
      rw [show a.length + 1 + j = a.length + (j + 1) by omega, depth_app_r, depth_cons, hb.zero, dch_comma]; omega
    rw [show a.length + 1 + (j + 1) = (a.length + 1 + j) + 1 by omega, partsTo, e1, e2, ih]
    by_cases hc : ((at' c j).toList == [44]) = true ∧ depth c j = 0
    · rw [if_pos hc, partsTo, if_pos hc]
      simp only [List.cons_append, Prod.mk.injEq, List.cons.injEq, true_and]
      refine ⟨?_, by omega⟩
      congr 1
      congr 1
      rw [show a.length + 1 + j = a.length + (j + 1) by omega, List.take_append, List.take_of_length_le (by omega), show a.length + (j + 1) - a.length = j + 1 by omega, List.take_succ_cons, show a.length + 1 + (partsTo c j).2 = a.length + ((partsTo c j).2 + 1) by omega, List.drop_append]
      rw [List.drop_eq_nil_of_le (by omega), show a.length + ((partsTo c j).2 + 1) - a.length = (partsTo c j).2 + 1 by omega]
      rfl
    · rw [if_neg hc, partsTo, if_neg hc]
theorem parts_cons {a c : List ByteArray} (ha : ∀ x ∈ a, ¬ x = commaW) (hb : Bal a) (hc : 0 < c.length) : parts (a ++ commaW :: c) = a :: parts c := by
  have hl : (a ++ commaW :: c).length = a.length + 1 + c.length := by simp; omega
  rw [parts, parts, if_neg (by omega), if_neg (by omega), hl, partsTo_more ha hb _ (Nat.le_refl _)]
  simp only [List.cons_append, List.cons.injEq, true_and]
  congr 2
  rw [show a.length + 1 + (partsTo c c.length).2 = a.length + ((partsTo c c.length).2 + 1) by omega, List.drop_append, List.drop_eq_nil_of_le (by omega), show a.length + ((partsTo c c.length).2 + 1) - a.length = (partsTo c c.length).2 + 1 by omega]
  rfl
theorem parts_one {a : List ByteArray} (ha : ∀ x ∈ a, ¬ x = commaW) (hb : 0 < a.length) : parts a = [a] := by
  have := partsTo_none (b := []) ha _ (Nat.le_refl _)
  rw [List.append_nil] at this
  rw [parts, if_neg (by omega), this]; rfl
theorem joinC_pos : ∀ (args : List (List ByteArray)), (∀ a ∈ args, Is 0 a) → 0 < args.length → 0 < (joinC args).length
  | [], _, h => by simp at h
  | [a], h, _ => (is_bal (h a (by simp))).ne
  | a :: b :: r, _, _ => by rw [joinC]; simp; omega
theorem parts_of : ∀ (args : List (List ByteArray)), (∀ a ∈ args, Is 0 a) → parts (joinC args) = args
  | [], _ => rfl
  | [a], h => by
    have ha := h a (by simp)
    exact parts_one (fun x hx => (is_tokens ha x hx).1) (is_bal ha).ne
  | a :: b :: r, h => by
    have ha := h a (by simp)
    have hr : ∀ x ∈ b :: r, Is 0 x := fun x hx => h x (by simp at hx ⊢; exact Or.inr hx)
    rw [joinC, parts_cons (fun x hx => (is_tokens ha x hx).1) (is_bal ha) (joinC_pos _ hr (by simp)), parts_of (b :: r) hr]

theorem to_is {x : ByteArray} : ((x.toList == [116, 111]) = true) ↔ x = toW := by
  rw [str_lit]; simp [toW]
theorem behindFrom_at {b : List ByteArray} : ∀ (a : List ByteArray) (i : Nat), (∀ x ∈ a, ¬ x = toW) → behindFrom (a ++ toW :: b) i = i + a.length
  | [], i, _ => by rw [List.nil_append, behindFrom, if_pos (to_is.mpr rfl)]; simp
  | x :: a, i, h => by
    rw [List.cons_append, behindFrom, if_neg (fun e => h x (by simp) (to_is.mp e)), behindFrom_at a (i + 1) (fun y hy => h y (by simp [hy]))]
    simp; omega
theorem behind_at {a b : List ByteArray} (h : ∀ x ∈ a, ¬ x = toW) : behind (a ++ toW :: b) = a.length := by
  unfold behind; rw [behindFrom_at a 0 h]; omega
theorem behindFrom_is : ∀ (t : List ByteArray) (i : Nat), 0 < behindFrom t i → i ≤ behindFrom t i ∧ behindFrom t i < i + t.length ∧ at' t (behindFrom t i - i) = toW
  | [], i, h => by simp [behindFrom] at h
  | x :: r, i, h => by
    rw [behindFrom] at h ⊢
    split at h
    · rename_i hx
      rw [if_pos hx]
      refine ⟨Nat.le_refl _, by simp, ?_⟩
      rw [Nat.sub_self, at_zero]; exact to_is.mp hx
    · rename_i hx
      rw [if_neg hx]
      obtain ⟨h1, h2, h3⟩ := behindFrom_is r (i + 1) h
      refine ⟨by omega, by simp; omega, ?_⟩
      rw [show behindFrom r (i + 1) - i = (behindFrom r (i + 1) - (i + 1)) + 1 by omega, at_cons]
      exact h3
theorem behind_is {t : List ByteArray} (h : 0 < behind t) : behind t < t.length ∧ at' t (behind t) = toW := by
  obtain ⟨_, h2, h3⟩ := behindFrom_is t 0 h
  exact ⟨by unfold behind; omega, h3⟩

end Rf
end Go.Proofs.YtopeochnoefgcaaGreat

namespace Go.Proofs.YtopeochnoefgcaaGreat
namespace Rf
open Rt

def varB : ByteArray := ⟨#[118, 97, 114]⟩
def arrayB : ByteArray := ⟨#[97, 114, 114, 97, 121]⟩
def procB : ByteArray := ⟨#[112, 114, 111, 99]⟩
def endB : ByteArray := ⟨#[101, 110, 100]⟩
def ifB : ByteArray := ⟨#[105, 102]⟩
def elseB : ByteArray := ⟨#[101, 108, 115, 101]⟩
def whileB : ByteArray := ⟨#[119, 104, 105, 108, 101]⟩
def setB : ByteArray := ⟨#[115, 101, 116]⟩
def printB : ByteArray := ⟨#[112, 114, 105, 110, 116]⟩
def readB : ByteArray := ⟨#[114, 101, 97, 100]⟩
def callB : ByteArray := ⟨#[99, 97, 108, 108]⟩
def returnB : ByteArray := ⟨#[114, 101, 116, 117, 114, 110]⟩

/-- The work of an expression, and its tokens. -/
def Ex (e : List Pop) (p : List ByteArray) : Prop := Is 0 p ∧ ∀ V A, opsOK V A e = toksOK V A p
inductive Exs : List (List Pop) → List (List ByteArray) → Prop
  | nil : Exs [] []
  | cons (e : List Pop) (p : List ByteArray) (es : List (List Pop)) (ps : List (List ByteArray)) : Ex e p → Exs es ps → Exs (e :: es) (p :: ps)
theorem Exs.is {es : List (List Pop)} {ps : List (List ByteArray)} (h : Exs es ps) : ∀ p ∈ ps, Is 0 p := by
  induction h with
  | nil => simp
  | cons e p es ps h _ ih =>
    intro q hq
    rcases List.mem_cons.mp hq with rfl | hq
    · exact h.1
    · exact ih q hq
theorem Exs.len {es : List (List Pop)} {ps : List (List ByteArray)} (h : Exs es ps) : es.length = ps.length := by
  induction h with
  | nil => rfl
  | cons e p es ps h _ ih => simp [ih]

/-- A line's tokens, and its form. -/
inductive LineIs : List ByteArray → PForm → Prop
  | empty : LineIs [] ⟨0, ⟨#[]⟩, 0, [], [], []⟩
  | var (x : ByteArray) : nameB x = true → LineIs [varB, x] ⟨1, x, 0, [], [], []⟩
  | array (x n : ByteArray) : nameB x = true → numberB n = true → 1 ≤ worth n → worth n ≤ 32 → LineIs [arrayB, x, n] ⟨2, x, worth n, [], [], []⟩
  | proc (x : ByteArray) (ps : List ByteArray) : nameB x = true → (∀ p ∈ ps, nameB p = true) → ps.length ≤ 4 → LineIs (procB :: x :: ps) ⟨3, x, 0, ps, [], []⟩
  | end_ : LineIs [endB] ⟨4, ⟨#[]⟩, 0, [], [], []⟩
  | if_ (p : List ByteArray) (e : List Pop) : Ex e p → LineIs (ifB :: p) ⟨5, ⟨#[]⟩, 0, [], [], [e]⟩
  | else_ : LineIs [elseB] ⟨6, ⟨#[]⟩, 0, [], [], []⟩
  | while_ (p : List ByteArray) (e : List Pop) : Ex e p → LineIs (whileB :: p) ⟨7, ⟨#[]⟩, 0, [], [], [e]⟩
  | set1 (x : ByteArray) (p : List ByteArray) (e : List Pop) : nameB x = true → Ex e p → LineIs (setB :: x :: toW :: p) ⟨8, x, 0, [], [], [e]⟩
  | set2 (x : ByteArray) (q : List ByteArray) (i : List Pop) (p : List ByteArray) (e : List Pop) : nameB x = true → Ex i q → Ex e p → LineIs (setB :: x :: lbrW :: (q ++ rbrW :: toW :: p)) ⟨9, x, 0, [], i, [e]⟩
  | print (p : List ByteArray) (e : List Pop) : Ex e p → LineIs (printB :: p) ⟨10, ⟨#[]⟩, 0, [], [], [e]⟩
  | read (x : ByteArray) : nameB x = true → LineIs [readB, x] ⟨11, x, 0, [], [], []⟩
  | call (x : ByteArray) (args : List (List ByteArray)) (vs : List (List Pop)) : nameB x = true → Exs vs args → LineIs (callB :: x :: joinC args) ⟨12, x, 0, [], [], vs⟩
  | return_ : LineIs [returnB] ⟨13, ⟨#[]⟩, 0, [], [], []⟩

theorem valTo_worth (s : ByteArray) : ∀ k, valTo s k = worthTo s k
  | 0 => rfl
  | k + 1 => by rw [valTo, worthTo, valTo_worth s k, Int.mul_comm]
theorem val_worth (s : ByteArray) : val s = worth s := valTo_worth s s.size

theorem word_is {x : ByteArray} {l : List UInt8} (h : (x.toList == l) = true) : x = ⟨l.toArray⟩ := by
  rw [str_lit] at h; simpa using h
theorem name_some {ts r : List Tk} {nm : ByteArray} (hok : AllOK ts) (h : pName ts = some (nm, r)) : ∃ t, ts = t :: r ∧ t.text = nm ∧ nameB nm = true := by
  cases ts with
  | nil => simp [pName] at h
  | cons t ts =>
    rw [pName] at h
    split at h
    · rename_i hc
      simp only [Option.some.injEq, Prod.mk.injEq] at h
      obtain ⟨rfl, rfl⟩ := h
      exact ⟨t, rfl, rfl, hok.head.nam.mp hc⟩
    · cases h
theorem take_some {ts r : List Tk} {x : ByteArray} (h : pTake x ts = some r) : ∃ t, ts = t :: r ∧ t.text = x := by
  cases ts with
  | nil => simp [pTake] at h
  | cons t ts =>
    rw [pTake] at h
    split at h
    · rename_i hc
      simp only [Option.some.injEq] at h
      subst h
      exact ⟨t, rfl, hc⟩
    · cases h
theorem params_some : ∀ (ts : List Tk) (acc ps : List ByteArray), AllOK ts → pParams acc ts = some ps → acc.length ≤ 4 → ps = acc ++ tx ts ∧ (∀ p ∈ tx ts, nameB p = true) ∧ ps.length ≤ 4
  | [], acc, ps, _, h, hl => by
    simp [pParams] at h
    subst h
    exact ⟨by simp [tx], by simp [tx], hl⟩
  | t :: ts, acc, ps, hok, h, hl => by
    rw [pParams] at h
    split at h
    · rename_i hc
      obtain ⟨h1, h2, h3⟩ := params_some ts _ ps hok.tail h (by simp; omega)
      refine ⟨by rw [h1, tx_cons]; simp, ?_, h3⟩
      intro p hp
      rw [tx_cons] at hp
      rcases List.mem_cons.mp hp with rfl | hp
      · exact hok.head.nam.mp hc.1
      · exact h2 p hp
    · cases h
theorem valued_some {k : Int} {ts r : List Tk} {fm : PForm} (hok : AllOK ts) (h : pValued k ts = some (fm, r)) : ∃ p e, ts = p ++ r ∧ Ex e (tx p) ∧ fm = ⟨k, ⟨#[]⟩, 0, [], [], [e]⟩ := by
  unfold pValued at h
  split at h
  · cases h
  · rename_i e r' he
    simp only [Option.some.injEq, Prod.mk.injEq] at h
    obtain ⟨rfl, rfl⟩ := h
    obtain ⟨p, h1, h2, h3⟩ := expr_sound ts e r' hok he
    exact ⟨p, e, h1, ⟨h2, h3⟩, rfl⟩
theorem to_some {k : Int} {nm : ByteArray} {ix : List Pop} {ts r : List Tk} {fm : PForm} (hok : AllOK ts) (h : pTo k nm ix ts = some (fm, r)) : ∃ t p e, ts = t :: (p ++ r) ∧ t.text = toW ∧ Ex e (tx p) ∧ fm = ⟨k, nm, 0, [], ix, [e]⟩ := by
  unfold pTo at h
  split at h
  · cases h
  · rename_i r' hr
    obtain ⟨t, rfl, ht⟩ := take_some hr
    split at h
    · cases h
    · rename_i e r2 he
      simp only [Option.some.injEq, Prod.mk.injEq] at h
      obtain ⟨rfl, rfl⟩ := h
      obtain ⟨p, h1, h2, h3⟩ := expr_sound r' e r2 hok.tail he
      exact ⟨t, p, e, by rw [h1], ht, ⟨h2, h3⟩, rfl⟩
theorem args_some : ∀ (f : Nat) (acc : List (List Pop)) (ts : List Tk) (vs : List (List Pop)) (r : List Tk), AllOK ts → pArgs f acc ts = some (vs, r) → ∃ p es args, ts = p ++ r ∧ vs = acc ++ es ∧ Exs es args ∧ tx p = joinC args ∧ 0 < args.length
  | 0, _, _, _, _, _, h => by simp [pArgs] at h
  | f + 1, acc, ts, vs, r, hok, h => by
    rw [pArgs] at h
    split at h
    · cases h
    · rename_i e r1 he
      obtain ⟨p, rfl, h2, h3⟩ := expr_sound ts e r1 hok he
      split at h
      · simp only [Option.some.injEq, Prod.mk.injEq] at h
        obtain ⟨rfl, rfl⟩ := h
        exact ⟨p, [e], [tx p], rfl, rfl, .cons e _ [] [] ⟨h2, h3⟩ .nil, rfl, by simp⟩
      · rename_i r2 hr2
        obtain ⟨c, rfl, hc⟩ := take_some hr2
        obtain ⟨p2, es, args, h4, h5, h6, h7, h8⟩ := args_some f _ r2 vs r hok.right.tail h
        refine ⟨p ++ c :: p2, e :: es, tx p :: args, by rw [h4]; simp, by rw [h5]; simp, .cons e _ es args ⟨h2, h3⟩ h6, ?_, by simp⟩
        rw [tx_app, tx_cons, hc, h7]
        cases args with
        | nil => simp at h8
        | cons a args => rw [joinC]; rfl

/-- What the program's reader makes of a line. -/
theorem line_sound {ts : List Tk} {fm : PForm} (hok : AllOK ts) (h : pLineAll ts = some fm) : LineIs (tx ts) fm := by
  cases ts with
  | nil =>
    simp only [pLineAll, Option.some.injEq] at h
    subst h
    exact .empty
  | cons t r =>
    rw [pLineAll] at h
    split at h
    · cases h
    rename_i fm' r' hl
    split at h
    case isFalse => cases h
    rename_i hr'
    simp only [Option.some.injEq] at h
    subst h
    subst hr'
    have hok' := hok.tail
    rw [tx_cons]
    unfold pLine at hl
    by_cases hw : (t.text.toList == [118, 97, 114]) = true
    · rw [if_pos hw] at hl
      rw [word_is hw]
      unfold pNamed at hl
      split at hl
      · cases hl
      · rename_i nm r2 hn
        obtain ⟨u, rfl, hu, hb⟩ := name_some hok' hn
        simp only [Option.some.injEq, Prod.mk.injEq] at hl
        obtain ⟨rfl, rfl⟩ := hl
        rw [tx_cons, hu]; exact .var _ hb
    rw [if_neg hw] at hl
    clear hw
    by_cases hw : (t.text.toList == [97, 114, 114, 97, 121]) = true
    · rw [if_pos hw] at hl
      rw [word_is hw]
      unfold pArray at hl
      split at hl
      · cases hl
      · rename_i nm r2 hn
        obtain ⟨u, rfl, hu, hb⟩ := name_some hok' hn
        cases r2 with
        | nil => simp [pNumber] at hl
        | cons n r2 =>
          rw [pNumber] at hl
          split at hl
          · cases hl
          · rename_i v r3 hv
            split at hv
            · rename_i hk
              simp only [Option.some.injEq, Prod.mk.injEq] at hv
              obtain ⟨rfl, rfl⟩ := hv
              split at hl
              · cases hl
              · rename_i hb2
                simp only [Option.some.injEq, Prod.mk.injEq] at hl
                obtain ⟨rfl, rfl⟩ := hl
                rw [val_worth] at hb2 ⊢
                rw [tx_cons, tx_cons, hu]
                exact .array _ _ hb (hok'.tail.head.num.mp hk) (by omega) (by omega)
            · cases hv
    rw [if_neg hw] at hl
    clear hw
    by_cases hw : (t.text.toList == [112, 114, 111, 99]) = true
    · rw [if_pos hw] at hl
      rw [word_is hw]
      unfold pProc at hl
      split at hl
      · cases hl
      · rename_i nm r2 hn
        obtain ⟨u, rfl, hu, hb⟩ := name_some hok' hn
        split at hl
        · cases hl
        · rename_i ps hps
          obtain ⟨h1, h2, h3⟩ := params_some r2 [] ps hok'.tail hps (by simp)
          simp only [Option.some.injEq, Prod.mk.injEq] at hl
          obtain ⟨rfl, _⟩ := hl
          rw [List.nil_append] at h1
          subst h1
          rw [tx_cons, hu]; exact .proc _ _ hb h2 h3
    rw [if_neg hw] at hl
    clear hw
    by_cases hw : (t.text.toList == [101, 110, 100]) = true
    · rw [if_pos hw] at hl
      rw [word_is hw]
      simp only [Option.some.injEq, Prod.mk.injEq] at hl
      obtain ⟨rfl, rfl⟩ := hl
      exact .end_
    rw [if_neg hw] at hl
    clear hw
    by_cases hw : (t.text.toList == [105, 102]) = true
    · rw [if_pos hw] at hl
      rw [word_is hw]
      obtain ⟨p, e, rfl, he, rfl⟩ := valued_some hok' hl
      rw [List.append_nil]; exact .if_ _ _ he
    rw [if_neg hw] at hl
    clear hw
    by_cases hw : (t.text.toList == [101, 108, 115, 101]) = true
    · rw [if_pos hw] at hl
      rw [word_is hw]
      simp only [Option.some.injEq, Prod.mk.injEq] at hl
      obtain ⟨rfl, rfl⟩ := hl
      exact .else_
    rw [if_neg hw] at hl
    clear hw
    by_cases hw : (t.text.toList == [119, 104, 105, 108, 101]) = true
    · rw [if_pos hw] at hl
      rw [word_is hw]
      obtain ⟨p, e, rfl, he, rfl⟩ := valued_some hok' hl
      rw [List.append_nil]; exact .while_ _ _ he
    rw [if_neg hw] at hl
    clear hw
    by_cases hw : (t.text.toList == [115, 101, 116]) = true
    · rw [if_pos hw] at hl
      rw [word_is hw]
      unfold pSet at hl
      split at hl
      · cases hl
      · rename_i nm r2 hn
        obtain ⟨u, rfl, hu, hb⟩ := name_some hok' hn
        split at hl
        · obtain ⟨c, p, e, rfl, hc, he, rfl⟩ := to_some hok'.tail hl
          rw [List.append_nil, tx_cons, tx_cons, hu, hc]; exact .set1 _ _ _ hb he
        · rename_i r3 h3
          obtain ⟨c, rfl, hc⟩ := take_some h3
          split at hl
          · cases hl
          · rename_i ix r4 hix
            obtain ⟨q, rfl, hq1, hq2⟩ := expr_sound r3 ix r4 hok'.tail.tail hix
            split at hl
            · cases hl
            · rename_i r5 h5
              obtain ⟨d, rfl, hd⟩ := take_some h5
              obtain ⟨c2, p, e, rfl, hc2, he, rfl⟩ := to_some hok'.tail.tail.right.tail hl
              rw [List.append_nil, tx_cons, tx_cons, tx_app, tx_cons, tx_cons, hu, hc, hd, hc2]
              exact .set2 _ _ _ _ _ hb ⟨hq1, hq2⟩ he
    rw [if_neg hw] at hl
    clear hw
    by_cases hw : (t.text.toList == [112, 114, 105, 110, 116]) = true
    · rw [if_pos hw] at hl
      rw [word_is hw]
      obtain ⟨p, e, rfl, he, rfl⟩ := valued_some hok' hl
      rw [List.append_nil]; exact .print _ _ he
    rw [if_neg hw] at hl
    clear hw
    by_cases hw : (t.text.toList == [114, 101, 97, 100]) = true
    · rw [if_pos hw] at hl
      rw [word_is hw]
      unfold pNamed at hl
      split at hl
      · cases hl
      · rename_i nm r2 hn
        obtain ⟨u, rfl, hu, hb⟩ := name_some hok' hn
        simp only [Option.some.injEq, Prod.mk.injEq] at hl
        obtain ⟨rfl, rfl⟩ := hl
        rw [tx_cons, hu]; exact .read _ hb
    rw [if_neg hw] at hl
    clear hw
    by_cases hw : (t.text.toList == [99, 97, 108, 108]) = true
    · rw [if_pos hw] at hl
      rw [word_is hw]
      unfold pCall at hl
      split at hl
      · cases hl
      · rename_i nm r2 hn
        obtain ⟨u, rfl, hu, hb⟩ := name_some hok' hn
        rw [tx_cons, hu]
        split at hl
        · cases hl
        · rename_i vs r3 hvs
          simp only [Option.some.injEq, Prod.mk.injEq] at hl
          obtain ⟨rfl, rfl⟩ := hl
          unfold pArgsAll at hvs
          split at hvs
          · rename_i h0
            subst h0
            simp only [Option.some.injEq, Prod.mk.injEq, and_true] at hvs
            subst hvs
            exact .call _ [] [] hb .nil
          · obtain ⟨p, es, args, rfl, rfl, h6, h7, _⟩ := args_some 25 [] r2 vs [] hok'.tail hvs
            rw [List.append_nil, h7]
            exact .call _ _ _ hb h6
    rw [if_neg hw] at hl
    clear hw
    by_cases hw : (t.text.toList == [114, 101, 116, 117, 114, 110]) = true
    · rw [if_pos hw] at hl
      rw [word_is hw]
      simp only [Option.some.injEq, Prod.mk.injEq] at hl
      obtain ⟨rfl, rfl⟩ := hl
      exact .return_
    rw [if_neg hw] at hl
    cases hl

end Rf
end Go.Proofs.YtopeochnoefgcaaGreat

