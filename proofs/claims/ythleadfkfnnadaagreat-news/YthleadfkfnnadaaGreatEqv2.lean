/- The document's answer on expressions is the grammar. -/
import Derived.Test.YthleadfkfnnadaaGreatEqv1
namespace Go.Proofs.YthleadfkfnnadaaGreat
namespace Rf
theorem gr_sum {f : Nat} {u : List ByteArray} (h : 5 * u.length + 4 ≤ f) : gr f 1 u = isSum u := gr_any _ _ _ _ (by omega) (by omega) (by omega)
theorem gr_term {f : Nat} {u : List ByteArray} (h : 5 * u.length + 3 ≤ f) : gr f 2 u = isTerm u := gr_any _ _ _ _ (by omega) (by omega) (by omega)
theorem gr_factor {f : Nat} {u : List ByteArray} (h : 5 * u.length + 2 ≤ f) : gr f 3 u = isFactor u := gr_any _ _ _ _ (by omega) (by omega) (by omega)
theorem gr_expr {f : Nat} {u : List ByteArray} (h : 5 * u.length + 5 ≤ f) : gr f 0 u = isExpr u := gr_any _ _ _ _ (by omega) (by omega) (by omega)
theorem gr_cell {f : Nat} {u : List ByteArray} (h : 5 * u.length + 1 ≤ f) : gr f 4 u = isCell u := gr_any _ _ _ _ (by omega) (by omega) (by omega)
theorem expr_no {t : List ByteArray} (h : last cmpW t = -1) : isExpr t = isSum t := by
  show exprS (gr (5 * t.length + 4) 1) t = _
  rw [exprS_no h]; exact gr_sum (Nat.le_refl _)
theorem expr_at {t : List ByteArray} {k : Nat} (h : last cmpW t = k) : isExpr t = (isSum (t.take k) && isSum (t.drop (k + 1))) := by
  show exprS (gr (5 * t.length + 4) 1) t = _
  rw [exprS_at rfl h, gr_sum (by simp; omega), gr_sum (by simp; omega)]
theorem sum_no {t : List ByteArray} (h : last addW t = -1) : isSum t = isTerm t := by
  show sumS (gr (5 * t.length + 3) 1) (gr (5 * t.length + 3) 2) t = _
  rw [sumS_no h]; exact gr_term (Nat.le_refl _)
theorem sum_at {t : List ByteArray} {k : Nat} (h : last addW t = k) (hk : k < t.length) : isSum t = (isSum (t.take k) && isTerm (t.drop (k + 1))) := by
  show sumS (gr (5 * t.length + 3) 1) (gr (5 * t.length + 3) 2) t = _
  rw [sumS_at h, gr_sum (by simp; omega), gr_term (by simp; omega)]
theorem term_no {t : List ByteArray} (h : last divW t = -1) : isTerm t = isFactor t := by
  show termS (gr (5 * t.length + 2) 2) (gr (5 * t.length + 2) 3) t = _
  rw [termS_no h]; exact gr_factor (Nat.le_refl _)
theorem term_at {t : List ByteArray} {k : Nat} (h : last divW t = k) (hk : k < t.length) : isTerm t = (isTerm (t.take k) && isFactor (t.drop (k + 1))) := by
  show termS (gr (5 * t.length + 2) 2) (gr (5 * t.length + 2) 3) t = _
  rw [termS_at h, gr_term (by simp; omega), gr_factor (by simp; omega)]
theorem factor_eq (t : List ByteArray) : isFactor t = factorS isFactor isExpr isCell t := by
  show factorS (gr (5 * t.length + 1) 3) (gr (5 * t.length + 1) 0) (gr (5 * t.length + 1) 4) t = _
  exact factorS_of (fun h => gr_factor (by simp; omega)) (fun h => gr_expr (by simp; omega)) (gr_cell (Nat.le_refl _))
theorem cell_eq (t : List ByteArray) : isCell t = cellS isExpr t := by
  show cellS (gr (5 * t.length) 0) t = _
  exact cellS_of (fun h => gr_expr (by simp; omega))
theorem lit_is (b : UInt8) : ((⟨#[b]⟩ : ByteArray).toList == [b]) = true := by simp
theorem factor_one {x : ByteArray} (h : nameB x = true ∨ numberB x = true) : isFactor [x] = true := by
  rw [factor_eq, factorS, if_neg (by simp), if_pos (by simp)]
  show (nameB x || numberB x) = true
  rcases h with h | h <;> simp [h]
theorem factor_neg {p : List ByteArray} (hp : 0 < p.length) : isFactor (minusW :: p) = isFactor p := by
  rw [factor_eq, factorS, if_neg (by simp), if_neg (by simp; intro h; simp [h] at hp), if_pos (show ((first (minusW :: p)).toList == [45]) = true from lit_is 45)]
  rfl
theorem take_wrap (l r : ByteArray) (p : List ByteArray) : ((l :: (p ++ [r])).take ((l :: (p ++ [r])).length - 1)).drop 1 = p := by
  simp
theorem at_app_len (a b : List ByteArray) : at' (a ++ b) a.length = at' b 0 := at_app_r a b 0
theorem final_wrap (l r : ByteArray) (p : List ByteArray) : final (l :: (p ++ [r])) = r := by
  rw [final, show (l :: (p ++ [r])).length - 1 = p.length + 1 by simp, at_cons, at_app_len]; rfl
theorem factor_par {p : List ByteArray} : isFactor (lparW :: (p ++ [rparW])) = isExpr p := by
  rw [factor_eq, factorS, if_neg (by simp), if_neg (by simp), if_neg (by show ¬ ((⟨#[40]⟩ : ByteArray).toList == [45]) = true; simp), if_pos ⟨show ((first (lparW :: (p ++ [rparW]))).toList == [40]) = true from lit_is 40, by rw [final_wrap]; exact lit_is 41⟩, take_wrap]
theorem word_ne {x : ByteArray} (h : nameB x = true ∨ numberB x = true) (b : UInt8) (hb : letterB (b.toNat : Int) = false) (hb' : digitB (b.toNat : Int) = false) : (x.toList == [b]) = false := by
  rw [Rt.str_lit, decide_eq_false_iff_not]
  rintro rfl
  have e : Rt.byteAt ⟨#[b]⟩ 0 = (b.toNat : Int) := by rw [Rt.byteAt_lt (by show 0 < 1; decide)]; rfl
  change nameB ⟨#[b]⟩ = true ∨ numberB ⟨#[b]⟩ = true at h
  rcases h with h | h
  · simp [nameB, e, hb] at h
  · simp [numberB, e, hb'] at h
theorem cell_cel {x : ByteArray} {p : List ByteArray} (hp : 0 < p.length) (hx : nameB x = true) : isCell (x :: lbrW :: (p ++ [rbrW])) = isExpr p := by
  have hl : (x :: lbrW :: (p ++ [rbrW])).length = p.length + 3 := by simp
  have hf : final (x :: lbrW :: (p ++ [rbrW])) = rbrW := by
    rw [final, hl, show p.length + 3 - 1 = p.length + 1 + 1 by omega, at_cons, at_cons, at_app_len]; rfl
  have ht : ((x :: lbrW :: (p ++ [rbrW])).take ((x :: lbrW :: (p ++ [rbrW])).length - 1)).drop 2 = p := by simp
  have hc : ¬ ((x :: lbrW :: (p ++ [rbrW])).length < 4 ∨ ((at' (x :: lbrW :: (p ++ [rbrW])) 1).toList == [91]) = false ∨ ((final (x :: lbrW :: (p ++ [rbrW]))).toList == [93]) = false) := by
    rintro (h | h | h)
    · omega
    · change ((⟨#[91]⟩ : ByteArray).toList == [91]) = false at h
      simp at h
    · rw [hf] at h
      change ((⟨#[93]⟩ : ByteArray).toList == [93]) = false at h
      simp at h
  rw [cell_eq, cellS, if_neg hc, ht]
  show (nameB x && isExpr p) = _
  rw [hx]; rfl
theorem factor_cel {x : ByteArray} {p : List ByteArray} (hp : 0 < p.length) (hx : nameB x = true) : isFactor (x :: lbrW :: (p ++ [rbrW])) = isExpr p := by
  have hl : (x :: lbrW :: (p ++ [rbrW])).length = p.length + 3 := by simp
  rw [factor_eq, factorS, if_neg (by omega), if_neg (by omega), if_neg (by show ¬ (x.toList == [45]) = true; rw [word_ne (Or.inl hx) 45 (by decide) (by decide)]; simp), if_neg, cell_cel hp hx]
  rintro ⟨h, _⟩
  change (x.toList == [40]) = true at h
  rw [word_ne (Or.inl hx) 40 (by decide) (by decide)] at h
  cases h
theorem is_taken {k : Nat} {p : List ByteArray} (h : Is k p) : (k = 3 → isFactor p = true) ∧ (2 ≤ k → isTerm p = true) ∧ (1 ≤ k → isSum p = true) ∧ isExpr p = true := by
  have up3 : ∀ {q}, Is 3 q → isFactor q = true → isTerm q = true := fun h h' => by rw [term_no (free_factor h _ (Or.inl rfl) rfl).last]; exact h'
  have up2 : ∀ {q}, Is 2 q → isTerm q = true → isSum q = true := fun h h' => by rw [sum_no (free_term h _ (Or.inl rfl) rfl).last]; exact h'
  have up1 : ∀ {q}, Is 1 q → isSum q = true → isExpr q = true := fun h h' => by rw [expr_no (free_sum h rfl).last]; exact h'
  have all3 : ∀ {q}, Is 3 q → isFactor q = true → (3 = 3 → isFactor q = true) ∧ (2 ≤ 3 → isTerm q = true) ∧ (1 ≤ 3 → isSum q = true) ∧ isExpr q = true := fun h h' =>
    have a := up3 h h'
    have b := up2 (.t1 _ h) a
    ⟨fun _ => h', fun _ => a, fun _ => b, up1 (.s1 _ (.t1 _ h)) b⟩
  induction h with
  | num x h => exact all3 (.num x h) (factor_one (Or.inr h))
  | nam x h => exact all3 (.nam x h) (factor_one (Or.inl h))
  | neg p hp ih => exact all3 (.neg p hp) (by rw [factor_neg (is_bal hp).ne]; exact ih.1 rfl)
  | par p hp ih => exact all3 (.par p hp) (by rw [factor_par]; exact ih.2.2.2)
  | cel x p hx hp ih => exact all3 (.cel x p hx hp) (by rw [factor_cel (is_bal hp).ne hx]; exact ih.2.2.2)
  | t1 p hp ih => exact ⟨by omega, fun _ => ih.2.1 (by omega), fun _ => ih.2.2.1 (by omega), ih.2.2.2⟩
  | t2 p o q hp ho hq ih1 ih2 =>
    have h : Is 2 (p ++ o :: q) := .t2 p o q hp ho hq
    have a : isTerm (p ++ o :: q) = true := by
      rw [term_at (last_app (is_bal hp) (div_sgn ho) ho (free_factor hq _ (Or.inl rfl) rfl)) (by simp)]
      simp [ih1.2.1 (by omega), ih2.1 rfl]
    have b := up2 h a
    exact ⟨by omega, fun _ => a, fun _ => b, up1 (.s1 _ h) b⟩
  | s1 p hp ih => exact ⟨by omega, by omega, fun _ => ih.2.2.1 (by omega), ih.2.2.2⟩
  | s2 p o q hp ho hq ih1 ih2 =>
    have h : Is 1 (p ++ o :: q) := .s2 p o q hp ho hq
    have b : isSum (p ++ o :: q) = true := by
      rw [sum_at (last_app (is_bal hp) (add_sgn ho) ho (free_term hq _ (Or.inl rfl) rfl)) (by simp)]
      simp [ih1.2.2.1 (by omega), ih2.2.1 (by omega)]
    exact ⟨by omega, by omega, fun _ => b, up1 h b⟩
  | e1 p hp ih => exact ⟨by omega, by omega, by omega, ih.2.2.2⟩
  | e2 p o q hp ho hq ih1 ih2 =>
    refine ⟨by omega, by omega, by omega, ?_⟩
    rw [expr_at (last_app (is_bal hp) (cmp_sgn ho) ho (free_sum hq rfl))]
    simp [ih1.2.2.1 (by omega), ih2.2.2.1 (by omega)]
theorem last_in {sg t : List ByteArray} {k : Nat} (h : last sg t = k) : k < t.length ∧ inB sg (at' t k) = true := by
  have key : ∀ n, lastTo sg t n = k → k < n ∧ inB sg (at' t k) = true := by
    intro n
    induction n with
    | zero => intro h; simp [lastTo] at h
    | succ n ih =>
      intro h
      rw [lastTo] at h
      split at h
      · rename_i hc
        have : n = k := by omega
        subst this
        exact ⟨by omega, hc.1⟩
      · have := ih h
        exact ⟨by omega, this.2⟩
  exact key _ h
theorem split_k {t : List ByteArray} {k : Nat} (h : k < t.length) : t.take k ++ at' t k :: t.drop (k + 1) = t := by
  rw [at_lt h, ← List.drop_eq_getElem_cons h, List.take_append_drop]
theorem lit_eq {x : ByteArray} {b : UInt8} (h : (x.toList == [b]) = true) : x = ⟨#[b]⟩ := by
  rw [Rt.str_lit] at h
  simpa using h
theorem wrap_eq {t : List ByteArray} (h : 2 ≤ t.length) : first t :: ((t.take (t.length - 1)).drop 1 ++ [final t]) = t := by
  rw [first, final, at_lt (show 0 < t.length by omega), at_lt (show t.length - 1 < t.length by omega)]
  apply List.ext_getElem
  · simp; omega
  · intro i h1 h2
    cases i with
    | zero => simp
    | succ i =>
      simp only [List.getElem_cons_succ]
      by_cases hi : i < ((t.take (t.length - 1)).drop 1).length
      · rw [List.getElem_append_left hi]
        simp
      · rw [List.getElem_append_right (by omega)]
        simp at hi h2 ⊢
        congr 1; omega
theorem taken_is : ∀ (f r : Nat) (t : List ByteArray), gr f r t = true → (r ≤ 3 → Is r t) ∧ (r = 4 → ∃ x p, t = x :: lbrW :: (p ++ [rbrW]) ∧ nameB x = true ∧ Is 0 p)
  | 0, _, _, h => by simp [gr] at h
  | f + 1, 0, t, h => by
    refine ⟨fun _ => ?_, by omega⟩
    have h : exprS (gr f 1) t = true := h
    rcases last_cases cmpW t with hk | ⟨k, hk, _, _⟩
    · rw [exprS_no hk] at h; exact .e1 _ ((taken_is f 1 t h).1 (by omega))
    · rw [exprS_at rfl hk, Bool.and_eq_true] at h
      have hc := last_in hk
      have := Is.e2 _ _ _ ((taken_is f 1 _ h.1).1 (by omega)) hc.2 ((taken_is f 1 _ h.2).1 (by omega))
      rw [split_k hc.1] at this; exact this
  | f + 1, 1, t, h => by
    refine ⟨fun _ => ?_, by omega⟩
    have h : sumS (gr f 1) (gr f 2) t = true := h
    rcases last_cases addW t with hk | ⟨k, hk, _, _⟩
    · rw [sumS_no hk] at h; exact .s1 _ ((taken_is f 2 t h).1 (by omega))
    · rw [sumS_at hk, Bool.and_eq_true] at h
      have hc := last_in hk
      have := Is.s2 _ _ _ ((taken_is f 1 _ h.1).1 (by omega)) hc.2 ((taken_is f 2 _ h.2).1 (by omega))
      rw [split_k hc.1] at this; exact this
  | f + 1, 2, t, h => by
    refine ⟨fun _ => ?_, by omega⟩
    have h : termS (gr f 2) (gr f 3) t = true := h
    rcases last_cases divW t with hk | ⟨k, hk, _, _⟩
    · rw [termS_no hk] at h; exact .t1 _ ((taken_is f 3 t h).1 (by omega))
    · rw [termS_at hk, Bool.and_eq_true] at h
      have hc := last_in hk
      have := Is.t2 _ _ _ ((taken_is f 2 _ h.1).1 (by omega)) hc.2 ((taken_is f 3 _ h.2).1 (by omega))
      rw [split_k hc.1] at this; exact this
  | f + 1, 3, t, h => by
    refine ⟨fun _ => ?_, by omega⟩
    have h : factorS (gr f 3) (gr f 0) (gr f 4) t = true := h
    rw [factorS] at h
    split at h
    · cases h
    split at h
    · rename_i h0 h1
      match t, h1 with
      | [x], _ =>
        rw [Bool.or_eq_true] at h
        rcases h with h | h
        · exact .nam x h
        · exact .num x h
    rename_i h0 h1
    have h2 : 2 ≤ t.length := by omega
    split at h
    · rename_i hm
      have e : t = minusW :: t.drop 1 := by
        have := lit_eq hm
        match t, h2 with
        | x :: r, _ => change x = _ at this; rw [this]; rfl
      rw [e]
      exact .neg _ ((taken_is f 3 _ h).1 (by omega))
    split at h
    · rename_i hm hp
      have e := wrap_eq h2
      rw [lit_eq hp.1, lit_eq hp.2] at e
      rw [← e]
      exact .par _ ((taken_is f 0 _ h).1 (by omega))
    · obtain ⟨x, p, e, hx, hp⟩ := (taken_is f 4 t h).2 rfl
      rw [e]
      exact .cel x p hx hp
  | f + 1, r + 4, t, h => by
    refine ⟨by omega, fun _ => ?_⟩
    have h : cellS (gr f 0) t = true := h
    rw [cellS] at h
    split at h
    · cases h
    rename_i hc
    have h4 : ¬ t.length < 4 := fun h => hc (Or.inl h)
    have hb : ((at' t 1).toList == [91]) = true := by cases hh : ((at' t 1).toList == [91]) with | true => rfl | false => exact absurd (Or.inr (Or.inl hh)) hc
    have hr : ((final t).toList == [93]) = true := by cases hh : ((final t).toList == [93]) with | true => rfl | false => exact absurd (Or.inr (Or.inr hh)) hc
    rw [Bool.and_eq_true] at h
    refine ⟨first t, (t.take (t.length - 1)).drop 2, ?_, h.1, (taken_is f 0 _ h.2).1 (by omega)⟩
    have e := wrap_eq (t := t) (by omega)
    rw [show rbrW = final t from (lit_eq hr).symm, show lbrW = at' t 1 from (lit_eq hb).symm]
    conv => lhs; rw [← e]
    congr 1
    rw [← List.cons_append]
    congr 1
    match t, h4 with
    | a :: b :: c :: d :: r, _ => simp [at']
    | [], h => simp at h
    | [_], h => simp at h
    | [_, _], h => simp at h
    | [_, _, _], h => simp at h
theorem expr_iff (t : List ByteArray) : isExpr t = true ↔ Is 0 t := ⟨fun h => (taken_is _ 0 t h).1 (by omega), fun h => (is_taken h).2.2.2⟩
theorem cell_iff (t : List ByteArray) : isCell t = true ↔ ∃ x p, t = x :: lbrW :: (p ++ [rbrW]) ∧ nameB x = true ∧ Is 0 p := by
  constructor
  · intro h; exact (taken_is _ 4 t h).2 rfl
  · rintro ⟨x, p, rfl, hx, hp⟩
    rw [cell_cel (is_bal hp).ne hx]; exact (is_taken hp).2.2.2
end Rf
end Go.Proofs.YthleadfkfnnadaaGreat
