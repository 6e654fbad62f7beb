/- The lines that there are: the program's reader and the document's answer take the same. -/
import Derived.Test.YthleadfkfnnadaaGreatEqv4
namespace Go.Proofs.YthleadfkfnnadaaGreat
namespace Rf
open Rt
def commaW : ByteArray := ⟨#[44]⟩
def toW : ByteArray := ⟨#[116, 111]⟩
theorem noword {x : ByteArray} (h : nameB x = true ∨ numberB x = true) : ¬ x = commaW ∧ ¬ x = toW := by
  refine ⟨lit_no h 44 (by decide) (by decide), ?_⟩
  rintro rfl
  rcases h with h | h
  · simp [nameB, toW, inB, resvW] at h
  · have e : byteAt toW 0 = 116 := by rw [byteAt_lt (by show 0 < 2; decide)]; rfl
    simp [numberB, e, digitB] at h
theorem nosign (b : UInt8) (h : ¬ b = 44) : ¬ (⟨#[b]⟩ : ByteArray) = commaW ∧ ¬ (⟨#[b]⟩ : ByteArray) = toW := by
  refine ⟨?_, ?_⟩
  · intro e; simp [commaW] at e; exact h e
  · intro e; simp [toW] at e
theorem in_no {o : ByteArray} (h : inB divW o = true ∨ inB addW o = true ∨ inB cmpW o = true) : ¬ o = commaW ∧ ¬ o = toW := by
  rcases h with h | h | h
  · rcases div_cases h with rfl | rfl | rfl <;> exact nosign _ (by decide)
  · rcases add_cases h with rfl | rfl <;> exact nosign _ (by decide)
  · rcases cmp_cases h with rfl | rfl <;> exact nosign _ (by decide)
theorem is_tokens {k : Nat} {p : List ByteArray} (h : Is k p) : ∀ x ∈ p, ¬ x = commaW ∧ ¬ x = toW := by
  induction h with
  | num x h => intro y hy; simp at hy; subst hy; exact noword (Or.inr h)
  | nam x h => intro y hy; simp at hy; subst hy; exact noword (Or.inl h)
  | neg p _ ih =>
    intro y hy
    rcases List.mem_cons.mp hy with rfl | hy
    · exact nosign 45 (by decide)
    · exact ih y hy
  | par p _ ih =>
    intro y hy
    simp only [List.mem_cons, List.mem_append, List.not_mem_nil, or_false] at hy
    rcases hy with rfl | hy | rfl
    · exact nosign 40 (by decide)
    · exact ih y hy
    · exact nosign 41 (by decide)
  | cel x p hx _ ih =>
    intro y hy
    simp only [List.mem_cons, List.mem_append, List.not_mem_nil, or_false] at hy
    rcases hy with rfl | rfl | hy | rfl
    · exact noword (Or.inl hx)
    · exact nosign 91 (by decide)
    · exact ih y hy
    · exact nosign 93 (by decide)
  | t1 p _ ih => exact ih
  | t2 p o q _ ho _ ih1 ih2 =>
    intro y hy
    simp only [List.mem_cons, List.mem_append] at hy
    rcases hy with hy | rfl | hy
    · exact ih1 y hy
    · exact in_no (Or.inl ho)
    · exact ih2 y hy
  | s1 p _ ih => exact ih
  | s2 p o q _ ho _ ih1 ih2 =>
    intro y hy
    simp only [List.mem_cons, List.mem_append] at hy
    rcases hy with hy | rfl | hy
    · exact ih1 y hy
    · exact in_no (Or.inr (Or.inl ho))
    · exact ih2 y hy
  | e1 p _ ih => exact ih
  | e2 p o q _ ho _ ih1 ih2 =>
    intro y hy
    simp only [List.mem_cons, List.mem_append] at hy
    rcases hy with hy | rfl | hy
    · exact ih1 y hy
    · exact in_no (Or.inr (Or.inr ho))
    · exact ih2 y hy
def joinC : List (List ByteArray) → List ByteArray
  | [] => []
  | [a] => a
  | a :: b :: r => a ++ commaW :: joinC (b :: r)
theorem joinC_snoc : ∀ (ps : List (List ByteArray)) (l : List ByteArray), joinC (ps ++ [l]) = ps.flatMap (fun p => p ++ [commaW]) ++ l
  | [], l => by simp [joinC]
  | [a], l => by simp [joinC]
  | a :: b :: r, l => by
    have ih := joinC_snoc (b :: r) l
    show joinC (a :: b :: (r ++ [l])) = _
    rw [joinC]
    rw [List.cons_append] at ih
    rw [ih]
    simp
theorem comma_is {x : ByteArray} : ((x.toList == [44]) = true) ↔ x = commaW := by
  rw [str_lit]; simp [commaW]
theorem partsTo_join (t : List ByteArray) : ∀ i, i ≤ t.length → t.take i = (partsTo t i).1.flatMap (fun p => p ++ [commaW]) ++ (t.take i).drop (partsTo t i).2
  | 0, _ => by simp [partsTo]
  | i + 1, h => by
    have ih := partsTo_join t i (by omega)
    have hb := partsTo_b t i
    have ht : t.take (i + 1) = t.take i ++ [at' t i] := by
      rw [at_lt (by omega), List.take_succ_eq_append_getElem (by omega)]
    rw [partsTo]
    split
    · rename_i hc
      have hx := comma_is.mp hc.1
      simp only
      have hd : (t.take (i + 1)).drop (i + 1) = [] := List.drop_eq_nil_of_le (by rw [List.length_take]; omega)
      rw [List.flatMap_append, hd]
      simp only [List.flatMap_cons, List.flatMap_nil, List.append_nil]
      rw [ht, hx]
      conv => lhs; rw [ih]
      simp
    · rw [ht, List.drop_append_of_le_length (by rw [List.length_take]; omega), ← List.append_assoc, ← ih]
theorem parts_join (t : List ByteArray) : joinC (parts t) = t := by
  rw [parts]
  split
  · rename_i h
    rw [List.eq_nil_of_length_eq_zero h]; rfl
  · rw [joinC_snoc]
    have := partsTo_join t t.length (Nat.le_refl _)
    rw [List.take_length] at this
    exact this.symm
theorem partsTo_none {a b : List ByteArray} (ha : ∀ x ∈ a, ¬ x = commaW) : ∀ i, i ≤ a.length → partsTo (a ++ b) i = ([], 0)
  | 0, _ => rfl
  | i + 1, h => by
    rw [partsTo, if_neg, partsTo_none ha i (by omega)]
    rintro ⟨h1, _⟩
    rw [at_app_l (by omega), at_lt (by omega)] at h1
    exact ha _ (List.getElem_mem _) (comma_is.mp h1)
theorem dch_comma : dch commaW = 0 := by rw [commaW, dch_of]; decide
theorem partsTo_more {a c : List ByteArray} (ha : ∀ x ∈ a, ¬ x = commaW) (hb : Bal a) : ∀ j, j ≤ c.length → partsTo (a ++ commaW :: c) (a.length + 1 + j) = (a :: (partsTo c j).1, a.length + 1 + (partsTo c j).2)
  | 0, _ => by
    rw [Nat.add_zero, partsTo.eq_def]
    simp only
    rw [if_pos, partsTo_none ha _ (Nat.le_refl _)]
    · simp [partsTo]
    · refine ⟨comma_is.mpr ?_, ?_⟩
      · rw [at_app_len]; rfl
      · rw [depth_app_l a _ _ (Nat.le_refl _)]; exact hb.zero
  | j + 1, h => by
    have ih := partsTo_more (c := c) ha hb j (by omega)
    have e1 : at' (a ++ commaW :: c) (a.length + 1 + j) = at' c j := by
      rw [show a.length + 1 + j = a.length + (j + 1) by omega, at_app_r, at_cons]
    have e2 : depth (a ++ commaW :: c) (a.length + 1 + j) = depth c j := by
      rw [show a.length + 1 + j = a.length + (j + 1) by omega, depth_app_r, depth_cons, hb.zero, dch_comma]; omega
    rw [show a.length + 1 + (j + 1) = (a.length + 1 + j) + 1 by omega, partsTo, e1, e2, ih]
    by_cases hc : ((at' c j).toList == [44]) = true ∧ depth c j = 0
    · rw [if_pos hc, partsTo, if_pos hc]
      simp only [List.cons_append, Prod.mk.injEq, List.cons.injEq, true_and]
      refine ⟨?_, by omega⟩
      congr 1
      congr 1
      rw [show a.length + 1 + j = a.length + (j + 1) by omega, List.take_append, List.take_of_length_le (by omega), show a.length + (j + 1) - a.length = j + 1 by omega, List.take_succ_cons, show a.length + 1 + (partsTo c j).2 = a.length + ((partsTo c j).2 + 1) by omega, List.drop_append]
      rw [List.drop_eq_nil_of_le (by omega), show a.length + ((partsTo c j).2 + 1) - a.length = (partsTo c j).2 + 1 by omega]
      rfl
    · rw [if_neg hc, partsTo, if_neg hc]
theorem parts_cons {a c : List ByteArray} (ha : ∀ x ∈ a, ¬ x = commaW) (hb : Bal a) (hc : 0 < c.length) : parts (a ++ commaW :: c) = a :: parts c := by
  have hl : (a ++ commaW :: c).length = a.length + 1 + c.length := by simp; omega
  rw [parts, parts, if_neg (by omega), if_neg (by omega), hl, partsTo_more ha hb _ (Nat.le_refl _)]
  simp only [List.cons_append, List.cons.injEq, true_and]
  congr 2
  rw [show a.length + 1 + (partsTo c c.length).2 = a.length + ((partsTo c c.length).2 + 1) by omega, List.drop_append, List.drop_eq_nil_of_le (by omega), show a.length + ((partsTo c c.length).2 + 1) - a.length = (partsTo c c.length).2 + 1 by omega]
  rfl
theorem parts_one {a : List ByteArray} (ha : ∀ x ∈ a, ¬ x = commaW) (hb : 0 < a.length) : parts a = [a] := by
  have := partsTo_none (b := []) ha _ (Nat.le_refl _)
  rw [List.append_nil] at this
  rw [parts, if_neg (by omega), this]; rfl
theorem joinC_pos : ∀ (args : List (List ByteArray)), (∀ a ∈ args, Is 0 a) → 0 < args.length → 0 < (joinC args).length
  | [], _, h => by simp at h
  | [a], h, _ => (is_bal (h a (by simp))).ne
  | a :: b :: r, _, _ => by rw [joinC]; simp; omega
theorem parts_of : ∀ (args : List (List ByteArray)), (∀ a ∈ args, Is 0 a) → parts (joinC args) = args
  | [], _ => rfl
  | [a], h => by
    have ha := h a (by simp)
    exact parts_one (fun x hx => (is_tokens ha x hx).1) (is_bal ha).ne
  | a :: b :: r, h => by
    have ha := h a (by simp)
    have hr : ∀ x ∈ b :: r, Is 0 x := fun x hx => h x (by simp at hx ⊢; exact Or.inr hx)
    rw [joinC, parts_cons (fun x hx => (is_tokens ha x hx).1) (is_bal ha) (joinC_pos _ hr (by simp)), parts_of (b :: r) hr]
theorem to_is {x : ByteArray} : ((x.toList == [116, 111]) = true) ↔ x = toW := by
  rw [str_lit]; simp [toW]
theorem behindFrom_at {b : List ByteArray} : ∀ (a : List ByteArray) (i : Nat), (∀ x ∈ a, ¬ x = toW) → behindFrom (a ++ toW :: b) i = i + a.length
  | [], i, _ => by rw [List.nil_append, behindFrom, if_pos (to_is.mpr rfl)]; simp
  | x :: a, i, h => by
    rw [List.cons_append, behindFrom, if_neg (fun e => h x (by simp) (to_is.mp e)), behindFrom_at a (i + 1) (fun y hy => h y (by simp [hy]))]
    simp; omega
theorem behind_at {a b : List ByteArray} (h : ∀ x ∈ a, ¬ x = toW) : behind (a ++ toW :: b) = a.length := by
  unfold behind; rw [behindFrom_at a 0 h]; omega
theorem behindFrom_is : ∀ (t : List ByteArray) (i : Nat), 0 < behindFrom t i → i ≤ behindFrom t i ∧ behindFrom t i < i + t.length ∧ at' t (behindFrom t i - i) = toW
  | [], i, h => by simp [behindFrom] at h
  | x :: r, i, h => by
    rw [behindFrom] at h ⊢
    split at h
    · rename_i hx
      rw [if_pos hx]
      refine ⟨Nat.le_refl _, by simp, ?_⟩
      rw [Nat.sub_self, at_zero]; exact to_is.mp hx
    · rename_i hx
      rw [if_neg hx]
      obtain ⟨h1, h2, h3⟩ := behindFrom_is r (i + 1) h
      refine ⟨by omega, by simp; omega, ?_⟩
      rw [show behindFrom r (i + 1) - i = (behindFrom r (i + 1) - (i + 1)) + 1 by omega, at_cons]
      exact h3
theorem behind_is {t : List ByteArray} (h : 0 < behind t) : behind t < t.length ∧ at' t (behind t) = toW := by
  obtain ⟨_, h2, h3⟩ := behindFrom_is t 0 h
  exact ⟨by unfold behind; omega, h3⟩
open Rt
def varB : ByteArray := ⟨#[118, 97, 114]⟩
def arrayB : ByteArray := ⟨#[97, 114, 114, 97, 121]⟩
def procB : ByteArray := ⟨#[112, 114, 111, 99]⟩
def endB : ByteArray := ⟨#[101, 110, 100]⟩
def ifB : ByteArray := ⟨#[105, 102]⟩
def elseB : ByteArray := ⟨#[101, 108, 115, 101]⟩
def whileB : ByteArray := ⟨#[119, 104, 105, 108, 101]⟩
def setB : ByteArray := ⟨#[115, 101, 116]⟩
def printB : ByteArray := ⟨#[112, 114, 105, 110, 116]⟩
def readB : ByteArray := ⟨#[114, 101, 97, 100]⟩
def callB : ByteArray := ⟨#[99, 97, 108, 108]⟩
def returnB : ByteArray := ⟨#[114, 101, 116, 117, 114, 110]⟩
def Ex (e : List Pop) (p : List ByteArray) : Prop := Is 0 p ∧ (∀ V A, opsOK V A e = toksOK V A p) ∧ Cm 0 p e
inductive Exs : List (List Pop) → List (List ByteArray) → Prop
  | nil : Exs [] []
  | cons (e : List Pop) (p : List ByteArray) (es : List (List Pop)) (ps : List (List ByteArray)) : Ex e p → Exs es ps → Exs (e :: es) (p :: ps)
theorem Exs.is {es : List (List Pop)} {ps : List (List ByteArray)} (h : Exs es ps) : ∀ p ∈ ps, Is 0 p := by
  induction h with
  | nil => simp
  | cons e p es ps h _ ih =>
    intro q hq
    rcases List.mem_cons.mp hq with rfl | hq
    · exact h.1
    · exact ih q hq
theorem Exs.len {es : List (List Pop)} {ps : List (List ByteArray)} (h : Exs es ps) : es.length = ps.length := by
  induction h with
  | nil => rfl
  | cons e p es ps h _ ih => simp [ih]
inductive LineIs : List ByteArray → PForm → Prop
  | empty : LineIs [] ⟨0, ⟨#[]⟩, 0, [], [], []⟩
  | var (x : ByteArray) : nameB x = true → LineIs [varB, x] ⟨1, x, 0, [], [], []⟩
  | array (x n : ByteArray) : nameB x = true → numberB n = true → 1 ≤ worth n → worth n ≤ 32 → LineIs [arrayB, x, n] ⟨2, x, worth n, [], [], []⟩
  | proc (x : ByteArray) (ps : List ByteArray) : nameB x = true → (∀ p ∈ ps, nameB p = true) → ps.length ≤ 4 → LineIs (procB :: x :: ps) ⟨3, x, 0, ps, [], []⟩
  | end_ : LineIs [endB] ⟨4, ⟨#[]⟩, 0, [], [], []⟩
  | if_ (p : List ByteArray) (e : List Pop) : Ex e p → LineIs (ifB :: p) ⟨5, ⟨#[]⟩, 0, [], [], [e]⟩
  | else_ : LineIs [elseB] ⟨6, ⟨#[]⟩, 0, [], [], []⟩
  | while_ (p : List ByteArray) (e : List Pop) : Ex e p → LineIs (whileB :: p) ⟨7, ⟨#[]⟩, 0, [], [], [e]⟩
  | set1 (x : ByteArray) (p : List ByteArray) (e : List Pop) : nameB x = true → Ex e p → LineIs (setB :: x :: toW :: p) ⟨8, x, 0, [], [], [e]⟩
  | set2 (x : ByteArray) (q : List ByteArray) (i : List Pop) (p : List ByteArray) (e : List Pop) : nameB x = true → Ex i q → Ex e p → LineIs (setB :: x :: lbrW :: (q ++ rbrW :: toW :: p)) ⟨9, x, 0, [], i, [e]⟩
  | print (p : List ByteArray) (e : List Pop) : Ex e p → LineIs (printB :: p) ⟨10, ⟨#[]⟩, 0, [], [], [e]⟩
  | read (x : ByteArray) : nameB x = true → LineIs [readB, x] ⟨11, x, 0, [], [], []⟩
  | call (x : ByteArray) (args : List (List ByteArray)) (vs : List (List Pop)) : nameB x = true → Exs vs args → LineIs (callB :: x :: joinC args) ⟨12, x, 0, [], [], vs⟩
  | return_ : LineIs [returnB] ⟨13, ⟨#[]⟩, 0, [], [], []⟩
theorem valTo_worth (s : ByteArray) : ∀ k, valTo s k = worthTo s k
  | 0 => rfl
  | k + 1 => by rw [valTo, worthTo, valTo_worth s k, Int.mul_comm]
theorem val_worth (s : ByteArray) : val s = worth s := valTo_worth s s.size
theorem word_is {x : ByteArray} {l : List UInt8} (h : (x.toList == l) = true) : x = ⟨l.toArray⟩ := by
  rw [str_lit] at h; simpa using h
theorem name_some {ts r : List Tk} {nm : ByteArray} (hok : AllOK ts) (h : pName ts = some (nm, r)) : ∃ t, ts = t :: r ∧ t.text = nm ∧ nameB nm = true := by
  cases ts with
  | nil => simp [pName] at h
  | cons t ts =>
    rw [pName] at h
    split at h
    · rename_i hc
      simp only [Option.some.injEq, Prod.mk.injEq] at h
      obtain ⟨rfl, rfl⟩ := h
      exact ⟨t, rfl, rfl, hok.head.nam.mp hc⟩
    · cases h
theorem take_some {ts r : List Tk} {x : ByteArray} (h : pTake x ts = some r) : ∃ t, ts = t :: r ∧ t.text = x := by
  cases ts with
  | nil => simp [pTake] at h
  | cons t ts =>
    rw [pTake] at h
    split at h
    · rename_i hc
      simp only [Option.some.injEq] at h
      subst h
      exact ⟨t, rfl, hc⟩
    · cases h
theorem params_some : ∀ (ts : List Tk) (acc ps : List ByteArray), AllOK ts → pParams acc ts = some ps → acc.length ≤ 4 → ps = acc ++ tx ts ∧ (∀ p ∈ tx ts, nameB p = true) ∧ ps.length ≤ 4
  | [], acc, ps, _, h, hl => by
    simp [pParams] at h
    subst h
    exact ⟨by simp [tx], by simp [tx], hl⟩
  | t :: ts, acc, ps, hok, h, hl => by
    rw [pParams] at h
    split at h
    · rename_i hc
      obtain ⟨h1, h2, h3⟩ := params_some ts _ ps hok.tail h (by simp; omega)
      refine ⟨by rw [h1, tx_cons]; simp, ?_, h3⟩
      intro p hp
      rw [tx_cons] at hp
      rcases List.mem_cons.mp hp with rfl | hp
      · exact hok.head.nam.mp hc.1
      · exact h2 p hp
    · cases h
theorem valued_some {k : Int} {ts r : List Tk} {fm : PForm} (hok : AllOK ts) (h : pValued k ts = some (fm, r)) : ∃ p e, ts = p ++ r ∧ Ex e (tx p) ∧ fm = ⟨k, ⟨#[]⟩, 0, [], [], [e]⟩ := by
  unfold pValued at h
  split at h
  · cases h
  · rename_i e r' he
    simp only [Option.some.injEq, Prod.mk.injEq] at h
    obtain ⟨rfl, rfl⟩ := h
    obtain ⟨p, h1, h2, h3⟩ := expr_sound ts e r' hok he
    exact ⟨p, e, h1, ⟨h2, h3⟩, rfl⟩
theorem to_some {k : Int} {nm : ByteArray} {ix : List Pop} {ts r : List Tk} {fm : PForm} (hok : AllOK ts) (h : pTo k nm ix ts = some (fm, r)) : ∃ t p e, ts = t :: (p ++ r) ∧ t.text = toW ∧ Ex e (tx p) ∧ fm = ⟨k, nm, 0, [], ix, [e]⟩ := by
  unfold pTo at h
  split at h
  · cases h
  · rename_i r' hr
    obtain ⟨t, rfl, ht⟩ := take_some hr
    split at h
    · cases h
    · rename_i e r2 he
      simp only [Option.some.injEq, Prod.mk.injEq] at h
      obtain ⟨rfl, rfl⟩ := h
      obtain ⟨p, h1, h2, h3⟩ := expr_sound r' e r2 hok.tail he
      exact ⟨t, p, e, by rw [h1], ht, ⟨h2, h3⟩, rfl⟩
theorem args_some : ∀ (f : Nat) (acc : List (List Pop)) (ts : List Tk) (vs : List (List Pop)) (r : List Tk), AllOK ts → pArgs f acc ts = some (vs, r) → ∃ p es args, ts = p ++ r ∧ vs = acc ++ es ∧ Exs es args ∧ tx p = joinC args ∧ 0 < args.length
  | 0, _, _, _, _, _, h => by simp [pArgs] at h
  | f + 1, acc, ts, vs, r, hok, h => by
    rw [pArgs] at h
    split at h
    · cases h
    · rename_i e r1 he
      obtain ⟨p, rfl, h2, h3⟩ := expr_sound ts e r1 hok he
      split at h
      · simp only [Option.some.injEq, Prod.mk.injEq] at h
        obtain ⟨rfl, rfl⟩ := h
        exact ⟨p, [e], [tx p], rfl, rfl, .cons e _ [] [] ⟨h2, h3⟩ .nil, rfl, by simp⟩
      · rename_i r2 hr2
        obtain ⟨c, rfl, hc⟩ := take_some hr2
        obtain ⟨p2, es, args, h4, h5, h6, h7, h8⟩ := args_some f _ r2 vs r hok.right.tail h
        refine ⟨p ++ c :: p2, e :: es, tx p :: args, by rw [h4]; simp, by rw [h5]; simp, .cons e _ es args ⟨h2, h3⟩ h6, ?_, by simp⟩
        rw [tx_app, tx_cons, hc, h7]
        cases args with
        | nil => simp at h8
        | cons a args => rw [joinC]; rfl
theorem line_sound {ts : List Tk} {fm : PForm} (hok : AllOK ts) (h : pLineAll ts = some fm) : LineIs (tx ts) fm := by
  cases ts with
  | nil =>
    simp only [pLineAll, Option.some.injEq] at h
    subst h
    exact .empty
  | cons t r =>
    rw [pLineAll] at h
    split at h
    · cases h
    rename_i fm' r' hl
    split at h
    case isFalse => cases h
    rename_i hr'
    simp only [Option.some.injEq] at h
    subst h
    subst hr'
    have hok' := hok.tail
    rw [tx_cons]
    unfold pLine at hl
    by_cases hw : (t.text.toList == [118, 97, 114]) = true
    · rw [if_pos hw] at hl
      rw [word_is hw]
      unfold pNamed at hl
      split at hl
      · cases hl
      · rename_i nm r2 hn
        obtain ⟨u, rfl, hu, hb⟩ := name_some hok' hn
        simp only [Option.some.injEq, Prod.mk.injEq] at hl
        obtain ⟨rfl, rfl⟩ := hl
        rw [tx_cons, hu]; exact .var _ hb
    rw [if_neg hw] at hl
    clear hw
    by_cases hw : (t.text.toList == [97, 114, 114, 97, 121]) = true
    · rw [if_pos hw] at hl
      rw [word_is hw]
      unfold pArray at hl
      split at hl
      · cases hl
      · rename_i nm r2 hn
        obtain ⟨u, rfl, hu, hb⟩ := name_some hok' hn
        cases r2 with
        | nil => simp [pNumber] at hl
        | cons n r2 =>
          rw [pNumber] at hl
          split at hl
          · cases hl
          · rename_i v r3 hv
            split at hv
            · rename_i hk
              simp only [Option.some.injEq, Prod.mk.injEq] at hv
              obtain ⟨rfl, rfl⟩ := hv
              split at hl
              · cases hl
              · rename_i hb2
                simp only [Option.some.injEq, Prod.mk.injEq] at hl
                obtain ⟨rfl, rfl⟩ := hl
                rw [val_worth] at hb2 ⊢
                rw [tx_cons, tx_cons, hu]
                exact .array _ _ hb (hok'.tail.head.num.mp hk) (by omega) (by omega)
            · cases hv
    rw [if_neg hw] at hl
    clear hw
    by_cases hw : (t.text.toList == [112, 114, 111, 99]) = true
    · rw [if_pos hw] at hl
      rw [word_is hw]
      unfold pProc at hl
      split at hl
      · cases hl
      · rename_i nm r2 hn
        obtain ⟨u, rfl, hu, hb⟩ := name_some hok' hn
        split at hl
        · cases hl
        · rename_i ps hps
          obtain ⟨h1, h2, h3⟩ := params_some r2 [] ps hok'.tail hps (by simp)
          simp only [Option.some.injEq, Prod.mk.injEq] at hl
          obtain ⟨rfl, _⟩ := hl
          rw [List.nil_append] at h1
          subst h1
          rw [tx_cons, hu]; exact .proc _ _ hb h2 h3
    rw [if_neg hw] at hl
    clear hw
    by_cases hw : (t.text.toList == [101, 110, 100]) = true
    · rw [if_pos hw] at hl
      rw [word_is hw]
      simp only [Option.some.injEq, Prod.mk.injEq] at hl
      obtain ⟨rfl, rfl⟩ := hl
      exact .end_
    rw [if_neg hw] at hl
    clear hw
    by_cases hw : (t.text.toList == [105, 102]) = true
    · rw [if_pos hw] at hl
      rw [word_is hw]
      obtain ⟨p, e, rfl, he, rfl⟩ := valued_some hok' hl
      rw [List.append_nil]; exact .if_ _ _ he
    rw [if_neg hw] at hl
    clear hw
    by_cases hw : (t.text.toList == [101, 108, 115, 101]) = true
    · rw [if_pos hw] at hl
      rw [word_is hw]
      simp only [Option.some.injEq, Prod.mk.injEq] at hl
      obtain ⟨rfl, rfl⟩ := hl
      exact .else_
    rw [if_neg hw] at hl
    clear hw
    by_cases hw : (t.text.toList == [119, 104, 105, 108, 101]) = true
    · rw [if_pos hw] at hl
      rw [word_is hw]
      obtain ⟨p, e, rfl, he, rfl⟩ := valued_some hok' hl
      rw [List.append_nil]; exact .while_ _ _ he
    rw [if_neg hw] at hl
    clear hw
    by_cases hw : (t.text.toList == [115, 101, 116]) = true
    · rw [if_pos hw] at hl
      rw [word_is hw]
      unfold pSet at hl
      split at hl
      · cases hl
      · rename_i nm r2 hn
        obtain ⟨u, rfl, hu, hb⟩ := name_some hok' hn
        split at hl
        · obtain ⟨c, p, e, rfl, hc, he, rfl⟩ := to_some hok'.tail hl
          rw [List.append_nil, tx_cons, tx_cons, hu, hc]; exact .set1 _ _ _ hb he
        · rename_i r3 h3
          obtain ⟨c, rfl, hc⟩ := take_some h3
          split at hl
          · cases hl
          · rename_i ix r4 hix
            obtain ⟨q, rfl, hq1, hq2⟩ := expr_sound r3 ix r4 hok'.tail.tail hix
            split at hl
            · cases hl
            · rename_i r5 h5
              obtain ⟨d, rfl, hd⟩ := take_some h5
              obtain ⟨c2, p, e, rfl, hc2, he, rfl⟩ := to_some hok'.tail.tail.right.tail hl
              rw [List.append_nil, tx_cons, tx_cons, tx_app, tx_cons, tx_cons, hu, hc, hd, hc2]
              exact .set2 _ _ _ _ _ hb ⟨hq1, hq2⟩ he
    rw [if_neg hw] at hl
    clear hw
    by_cases hw : (t.text.toList == [112, 114, 105, 110, 116]) = true
    · rw [if_pos hw] at hl
      rw [word_is hw]
      obtain ⟨p, e, rfl, he, rfl⟩ := valued_some hok' hl
      rw [List.append_nil]; exact .print _ _ he
    rw [if_neg hw] at hl
    clear hw
    by_cases hw : (t.text.toList == [114, 101, 97, 100]) = true
    · rw [if_pos hw] at hl
      rw [word_is hw]
      unfold pNamed at hl
      split at hl
      · cases hl
      · rename_i nm r2 hn
        obtain ⟨u, rfl, hu, hb⟩ := name_some hok' hn
        simp only [Option.some.injEq, Prod.mk.injEq] at hl
        obtain ⟨rfl, rfl⟩ := hl
        rw [tx_cons, hu]; exact .read _ hb
    rw [if_neg hw] at hl
    clear hw
    by_cases hw : (t.text.toList == [99, 97, 108, 108]) = true
    · rw [if_pos hw] at hl
      rw [word_is hw]
      unfold pCall at hl
      split at hl
      · cases hl
      · rename_i nm r2 hn
        obtain ⟨u, rfl, hu, hb⟩ := name_some hok' hn
        rw [tx_cons, hu]
        split at hl
        · cases hl
        · rename_i vs r3 hvs
          simp only [Option.some.injEq, Prod.mk.injEq] at hl
          obtain ⟨rfl, rfl⟩ := hl
          unfold pArgsAll at hvs
          split at hvs
          · rename_i h0
            subst h0
            simp only [Option.some.injEq, Prod.mk.injEq, and_true] at hvs
            subst hvs
            exact .call _ [] [] hb .nil
          · obtain ⟨p, es, args, rfl, rfl, h6, h7, _⟩ := args_some 25 [] r2 vs [] hok'.tail hvs
            rw [List.append_nil, h7]
            exact .call _ _ _ hb h6
    rw [if_neg hw] at hl
    clear hw
    by_cases hw : (t.text.toList == [114, 101, 116, 117, 114, 110]) = true
    · rw [if_pos hw] at hl
      rw [word_is hw]
      simp only [Option.some.injEq, Prod.mk.injEq] at hl
      obtain ⟨rfl, rfl⟩ := hl
      exact .return_
    rw [if_neg hw] at hl
    cases hl
end Rf
end Go.Proofs.YthleadfkfnnadaaGreat
