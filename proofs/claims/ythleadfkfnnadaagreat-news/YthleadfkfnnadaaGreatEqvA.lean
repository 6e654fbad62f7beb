/- Both readings of a source's lines agree. -/
import Derived.Test.YthleadfkfnnadaaGreatEqv6
import Derived.Test.YthleadfkfnnadaaGreatRowA
import Derived.Test.YthleadfkfnnadaaGreatProg0
import Derived.Test.YthleadfkfnnadaaGreatLawC
namespace Go.Proofs.YthleadfkfnnadaaGreat
namespace Rf
open Rt
theorem toList_lit (l : List UInt8) : (⟨l.toArray⟩ : ByteArray).toList = l := ByteArray.toList_mk l
theorem isKind_end (t : List ByteArray) : isKind t [101, 110, 100] = decide (t.length = 1) := by simp [isKind]
theorem isKind_else (t : List ByteArray) : isKind t [101, 108, 115, 101] = decide (t.length = 1) := by simp [isKind]
theorem isKind_return (t : List ByteArray) : isKind t [114, 101, 116, 117, 114, 110] = decide (t.length = 1) := by simp [isKind]
theorem isKind_var (t : List ByteArray) : isKind t [118, 97, 114] = (decide (t.length = 2) && allNames (t.drop 1)) := by simp [isKind]
theorem isKind_read (t : List ByteArray) : isKind t [114, 101, 97, 100] = (decide (t.length = 2) && allNames (t.drop 1)) := by simp [isKind]
theorem isKind_proc (t : List ByteArray) : isKind t [112, 114, 111, 99] = (decide (2 ≤ t.length ∧ t.length ≤ 6) && allNames (t.drop 1)) := by simp [isKind]
theorem isKind_if (t : List ByteArray) : isKind t [105, 102] = isExpr (t.drop 1) := by simp [isKind]
theorem isKind_while (t : List ByteArray) : isKind t [119, 104, 105, 108, 101] = isExpr (t.drop 1) := by simp [isKind]
theorem isKind_print (t : List ByteArray) : isKind t [112, 114, 105, 110, 116] = isExpr (t.drop 1) := by simp [isKind]
theorem isKind_set (t : List ByteArray) : isKind t [115, 101, 116] = isSet t := by simp [isKind]
theorem isKind_call (t : List ByteArray) : isKind t [99, 97, 108, 108] = isCall t := by simp [isKind]
theorem isKind_array (t : List ByteArray) : isKind t [97, 114, 114, 97, 121] = isArray t := by simp [isKind]
theorem line_of {x : ByteArray} {l : List UInt8} {r : List ByteArray} (h : x = ⟨l.toArray⟩) : isLine (x :: r) = isKind (x :: r) l := by
  rw [isLine_pos (by simp), show first (x :: r) = x from rfl, h, toList_lit]
theorem ex_taken {e : List Pop} {p : List ByteArray} (h : Ex e p) : isExpr p = true := (is_taken h.1).2.2.2
theorem set_one {x : ByteArray} {p : List ByteArray} (hx : nameB x = true) : isSet (setB :: x :: toW :: p) = isExpr p := by
  have hb : behind (setB :: x :: toW :: p) = 2 := behind_at (a := [setB, x]) (b := p) (fun y hy => by
    simp at hy
    rcases hy with rfl | rfl
    · simp [setB, toW]
    · exact (noword (Or.inl hx)).2)
  rw [isSet, hb, if_neg (by omega), if_pos rfl]
  show (nameB x && isExpr p) = _
  rw [hx]; rfl
theorem set_two {x : ByteArray} {q p : List ByteArray} (hx : nameB x = true) (hq : Is 0 q) : isSet (setB :: x :: lbrW :: (q ++ rbrW :: toW :: p)) = isExpr p := by
  have he : setB :: x :: lbrW :: (q ++ rbrW :: toW :: p) = (setB :: x :: lbrW :: (q ++ [rbrW])) ++ toW :: p := by simp
  have hb : behind (setB :: x :: lbrW :: (q ++ rbrW :: toW :: p)) = q.length + 4 := by
    rw [he, behind_at (fun y hy => ?_)]
    · simp
    · simp only [List.mem_cons, List.mem_append, List.not_mem_nil, or_false] at hy
      rcases hy with rfl | rfl | rfl | hy | rfl
      · simp [setB, toW]
      · exact (noword (Or.inl hx)).2
      · simp [lbrW, toW]
      · exact (is_tokens hq _ hy).2
      · simp [rbrW, toW]
  rw [isSet, hb, if_neg (by omega), if_neg (by omega)]
  have h1 : ((setB :: x :: lbrW :: (q ++ rbrW :: toW :: p)).take (q.length + 4)).drop 1 = x :: lbrW :: (q ++ [rbrW]) := by
    rw [he, List.take_append_of_le_length (by simp), List.take_of_length_le (by simp)]; rfl
  have h2 : (setB :: x :: lbrW :: (q ++ rbrW :: toW :: p)).drop (q.length + 4 + 1) = p := by
    rw [he, List.drop_append, List.drop_eq_nil_of_le (by simp), show q.length + 4 + 1 - (setB :: x :: lbrW :: (q ++ [rbrW])).length = 1 by simp]; rfl
  rw [h1, h2, cell_cel (is_bal hq).ne hx, (is_taken hq).2.2.2]; rfl
theorem is_line {t : List ByteArray} {fm : PForm} (h : LineIs t fm) : isLine t = true := by
  cases h with
  | empty => rfl
  | var x hx => rw [line_of (x := varB) (l := [118, 97, 114]) rfl, isKind_var]; simp [allNames, hx]
  | array x n hx hn h1 h2 =>
    rw [line_of (x := arrayB) (l := [97, 114, 114, 97, 121]) rfl, isKind_array, isArray, if_pos (by simp)]
    show (nameB x && numberB n && decide (1 ≤ worth n) && decide (worth n ≤ 32)) = true
    simp [hx, hn, h1, h2]
  | proc x ps hx hps hl =>
    rw [line_of (x := procB) (l := [112, 114, 111, 99]) rfl, isKind_proc]
    simp [allNames, hx]
    exact ⟨by omega, hps⟩
  | end_ => rw [line_of (x := endB) (l := [101, 110, 100]) rfl, isKind_end]; rfl
  | if_ p e he => rw [line_of (x := ifB) (l := [105, 102]) rfl, isKind_if]; exact ex_taken he
  | else_ => rw [line_of (x := elseB) (l := [101, 108, 115, 101]) rfl, isKind_else]; rfl
  | while_ p e he => rw [line_of (x := whileB) (l := [119, 104, 105, 108, 101]) rfl, isKind_while]; exact ex_taken he
  | set1 x p e hx he => rw [line_of (x := setB) (l := [115, 101, 116]) rfl, isKind_set, set_one hx]; exact ex_taken he
  | set2 x q i p e hx hi he => rw [line_of (x := setB) (l := [115, 101, 116]) rfl, isKind_set, set_two hx hi.1]; exact ex_taken he
  | print p e he => rw [line_of (x := printB) (l := [112, 114, 105, 110, 116]) rfl, isKind_print]; exact ex_taken he
  | read x hx => rw [line_of (x := readB) (l := [114, 101, 97, 100]) rfl, isKind_read]; simp [allNames, hx]
  | call x args vs hx hv =>
    rw [line_of (x := callB) (l := [99, 97, 108, 108]) rfl, isKind_call, isCall, if_neg (by simp)]
    show ((parts (joinC args)).all isExpr && nameB x) = true
    rw [parts_of args hv.is, hx]
    simp
    intro a ha
    exact (is_taken (hv.is a ha)).2.2.2
  | return_ => rw [line_of (x := returnB) (l := [114, 101, 116, 117, 114, 110]) rfl, isKind_return]; rfl
theorem all_names {ts : List Tk} (h : allNames (tx ts) = true) : ∀ t ∈ ts, nameB t.text = true := by
  simp [allNames, tx] at h
  exact h
theorem name_of {t : Tk} {r : List Tk} (hok : AllOK (t :: r)) (h : nameB t.text = true) : pName (t :: r) = some (t.text, r) := by
  rw [pName, if_pos (hok.head.nam.mpr h)]
theorem params_of : ∀ (ts : List Tk) (acc : List ByteArray), AllOK ts → (∀ t ∈ ts, nameB t.text = true) → acc.length + ts.length ≤ 4 → ∃ ps, pParams acc ts = some ps
  | [], acc, _, _, _ => ⟨acc, rfl⟩
  | t :: ts, acc, hok, h, hl => by
    rw [pParams, if_pos ⟨hok.head.nam.mpr (h t (by simp)), by simp at hl; omega⟩]
    exact params_of ts _ hok.tail (fun u hu => h u (by simp [hu])) (by simp at hl ⊢; omega)
theorem ends_nil : Ends 5 11 [] := ⟨by simp [tx, first, at', lbrW], by rw [show tx [] = [] from rfl, opCode_nil]; omega⟩
theorem ends_lit {t : Tk} {r : List Tk} (h : (¬ t.text = lbrW) ∧ opCode t.text = 0) : Ends 5 11 (t :: r) := ⟨h.1, by show ¬ (5 ≤ opCode t.text ∧ opCode t.text ≤ 11); rw [h.2]; omega⟩
theorem valued_of {k : Int} {ts : List Tk} (hok : AllOK ts) (hl : ts.length ≤ 24) (h : isExpr (tx ts) = true) : ∃ fm, pValued k ts = some (fm, []) := by
  obtain ⟨e, he⟩ := expr_comp ts [] (by simpa using hok) ((expr_iff _).mp h) hl ends_nil
  rw [List.append_nil] at he
  refine ⟨⟨k, ⟨#[]⟩, 0, [], [], [e]⟩, ?_⟩
  unfold pValued
  rw [he]
theorem to_of {k : Int} {nm : ByteArray} {ix : List Pop} {t : Tk} {ts : List Tk} (hok : AllOK ts) (hl : ts.length ≤ 24) (ht : t.text = toW) (h : isExpr (tx ts) = true) : ∃ fm, pTo k nm ix (t :: ts) = some (fm, []) := by
  obtain ⟨e, he⟩ := expr_comp ts [] (by simpa using hok) ((expr_iff _).mp h) hl ends_nil
  rw [List.append_nil] at he
  refine ⟨⟨k, nm, 0, [], ix, [e]⟩, ?_⟩
  unfold pTo
  rw [pTake, if_pos (show t.text = ⟨#[116, 111]⟩ from ht)]
  simp only
  rw [he]
theorem close_code (b : UInt8) (h : b = 41 ∨ b = 93 ∨ b = 44) : (¬ (⟨#[b]⟩ : ByteArray) = lbrW) ∧ opCode ⟨#[b]⟩ = 0 := by
  rcases h with rfl | rfl | rfl <;> simp [lbrW, opCode]
theorem args_of : ∀ (args : List (List ByteArray)) (f : Nat) (acc : List (List Pop)) (ts : List Tk), AllOK ts → ts.length ≤ 24 → (∀ a ∈ args, Is 0 a) → tx ts = joinC args → 0 < args.length → args.length ≤ f → ∃ vs, pArgs f acc ts = some (vs, [])
  | [], _, _, _, _, _, _, _, h, _ => by simp at h
  | [a], 0, _, _, _, _, _, _, _, h => by simp at h
  | [a], f + 1, acc, ts, hok, hl, ha, he, _, _ => by
    obtain ⟨e, hp⟩ := expr_comp ts [] (by simpa using hok) (by rw [he]; exact ha a (by simp)) hl ends_nil
    rw [List.append_nil] at hp
    refine ⟨acc ++ [e], ?_⟩
    rw [pArgs, hp]
    rfl
  | a :: b :: r, 0, _, _, _, _, _, _, _, h => by simp at h
  | a :: b :: r, f + 1, acc, ts, hok, hl, ha, he, _, hf => by
    rw [joinC] at he
    obtain ⟨p1, p2, rfl, h1, h2⟩ := tx_split he
    obtain ⟨c, p3, rfl, h3, h4⟩ := tx_uncons h2
    simp only [List.length_append, List.length_cons] at hl
    obtain ⟨e, hp⟩ := expr_comp p1 (c :: p3) hok (by rw [h1]; exact ha a (by simp)) (by omega) (ends_lit (by rw [h3]; exact close_code 44 (by simp)))
    obtain ⟨vs, hv⟩ := args_of (b :: r) f (acc ++ [e]) p3 hok.right.tail (by omega) (fun x hx => ha x (by simp at hx ⊢; exact Or.inr hx)) h4 (by simp) (by simp at hf ⊢; omega)
    refine ⟨vs, ?_⟩
    rw [pArgs, hp]
    simp only
    rw [pTake, if_pos (show c.text = ⟨#[44]⟩ from h3)]
    exact hv
theorem joinC_len : ∀ (args : List (List ByteArray)), (∀ a ∈ args, Is 0 a) → args.length ≤ (joinC args).length
  | [], _ => by simp
  | [a], h => by have := (is_bal (h a (by simp))).ne; simp [joinC]; omega
  | a :: b :: r, h => by
    have := joinC_len (b :: r) (fun x hx => h x (by simp at hx ⊢; exact Or.inr hx))
    have h2 := (is_bal (h a (by simp))).ne
    rw [joinC]
    simp at this ⊢
    omega
theorem pLine_end (r : List Tk) : pLine ⟨#[101, 110, 100]⟩ r = some (⟨4, ⟨#[]⟩, 0, [], [], []⟩, r) := by simp [pLine]
theorem pLine_else (r : List Tk) : pLine ⟨#[101, 108, 115, 101]⟩ r = some (⟨6, ⟨#[]⟩, 0, [], [], []⟩, r) := by simp [pLine]
theorem pLine_return (r : List Tk) : pLine ⟨#[114, 101, 116, 117, 114, 110]⟩ r = some (⟨13, ⟨#[]⟩, 0, [], [], []⟩, r) := by simp [pLine]
theorem pLine_var (r : List Tk) : pLine ⟨#[118, 97, 114]⟩ r = pNamed 1 r := by simp [pLine]
theorem pLine_read (r : List Tk) : pLine ⟨#[114, 101, 97, 100]⟩ r = pNamed 11 r := by simp [pLine]
theorem pLine_proc (r : List Tk) : pLine ⟨#[112, 114, 111, 99]⟩ r = pProc r := by simp [pLine]
theorem pLine_if (r : List Tk) : pLine ⟨#[105, 102]⟩ r = pValued 5 r := by simp [pLine]
theorem pLine_while (r : List Tk) : pLine ⟨#[119, 104, 105, 108, 101]⟩ r = pValued 7 r := by simp [pLine]
theorem pLine_print (r : List Tk) : pLine ⟨#[112, 114, 105, 110, 116]⟩ r = pValued 10 r := by simp [pLine]
theorem pLine_set (r : List Tk) : pLine ⟨#[115, 101, 116]⟩ r = pSet r := by simp [pLine]
theorem pLine_call (r : List Tk) : pLine ⟨#[99, 97, 108, 108]⟩ r = pCall r := by simp [pLine]
theorem pLine_array (r : List Tk) : pLine ⟨#[97, 114, 114, 97, 121]⟩ r = pArray r := by simp [pLine]
theorem pLineAll_of {t : Tk} {r : List Tk} {fm : PForm} (h : pLine t.text r = some (fm, [])) : pLineAll (t :: r) = some fm := by
  rw [pLineAll, h]; simp
theorem isKind_none {t : List ByteArray} {h : List UInt8} (e0 : ¬ h = [101, 110, 100]) (e1 : ¬ h = [101, 108, 115, 101]) (e2 : ¬ h = [114, 101, 116, 117, 114, 110]) (e3 : ¬ h = [118, 97, 114]) (e4 : ¬ h = [114, 101, 97, 100]) (e5 : ¬ h = [112, 114, 111, 99]) (e6 : ¬ h = [105, 102]) (e7 : ¬ h = [119, 104, 105, 108, 101]) (e8 : ¬ h = [112, 114, 105, 110, 116]) (e9 : ¬ h = [115, 101, 116]) (e10 : ¬ h = [99, 97, 108, 108]) (e11 : ¬ h = [97, 114, 114, 97, 121]) : isKind t h = false := by
  simp [isKind, e0, e1, e2, e3, e4, e5, e6, e7, e8, e9, e10, e11]
theorem named_of {k : Int} {r : List Tk} (hok : AllOK r) (hl : r.length = 1) (h : allNames (tx r) = true) : ∃ fm, pNamed k r = some (fm, []) := by
  match r, hl with
  | [u], _ =>
    refine ⟨⟨k, u.text, 0, [], [], []⟩, ?_⟩
    unfold pNamed
    rw [name_of hok (all_names h u (by simp))]
theorem proc_of {r : List Tk} (hok : AllOK r) (hl : 1 ≤ r.length ∧ r.length ≤ 5) (h : allNames (tx r) = true) : ∃ fm, pProc r = some (fm, []) := by
  match r, hl with
  | u :: r, hl =>
    obtain ⟨ps, hps⟩ := params_of r [] hok.tail (fun t ht => all_names h t (by simp [ht])) (by simp at hl ⊢; omega)
    refine ⟨⟨3, u.text, 0, ps, [], []⟩, ?_⟩
    unfold pProc
    rw [name_of hok (all_names h u (by simp))]
    simp only
    rw [hps]
theorem array_of {t : Tk} {r : List Tk} (hok : AllOK r) (h : isArray (tx (t :: r)) = true) : ∃ fm, pArray r = some (fm, []) := by
  rw [isArray] at h
  split at h
  · rename_i hl
    rw [tx_len] at hl
    match r, hl with
    | [u, n], _ =>
      have h : (nameB u.text && numberB n.text && decide (1 ≤ worth n.text) && decide (worth n.text ≤ 32)) = true := h
      simp at h
      obtain ⟨⟨⟨h1, h2⟩, h3⟩, h4⟩ := h
      refine ⟨⟨2, u.text, val n.text, [], [], []⟩, ?_⟩
      unfold pArray
      rw [name_of hok h1]
      simp only
      rw [pNumber, if_pos (hok.tail.head.num.mpr h2)]
      simp only
      rw [if_neg (by rw [val_worth]; omega)]
  · cases h
theorem set_of {t : Tk} {r : List Tk} (hok : AllOK r) (hl : r.length ≤ 24) (h : isSet (tx (t :: r)) = true) : ∃ fm, pSet r = some (fm, []) := by
  rw [isSet] at h
  split at h
  · cases h
  rename_i hk2
  obtain ⟨hkl, hkt⟩ := behind_is (t := tx (t :: r)) (by omega)
  split at h
  · rename_i hk
    rw [hk, tx_len] at hkl
    match r, hkl with
    | u :: v :: r, _ =>
      rw [hk] at hkt
      change v.text = toW at hkt
      have h : (nameB u.text && isExpr (tx r)) = true := h
      rw [Bool.and_eq_true] at h
      unfold pSet
      rw [name_of hok h.1]
      simp only
      rw [pTake, if_neg (show ¬ v.text = ⟨#[91]⟩ by rw [hkt]; simp [toW])]
      exact to_of hok.tail.tail (by simp at hl; omega) hkt h.2
    | [u], hkl => simp at hkl
    | [], hkl => simp at hkl
  · rename_i hk
    rw [Bool.and_eq_true] at h
    obtain ⟨h1, h2⟩ := h
    obtain ⟨x, q, he, hx, hq⟩ := (cell_iff _).mp h1
    generalize hkk : behind (tx (t :: r)) = k at *
    rw [tx_cons] at he h2 hkt hkl
    have hk0 : 0 < k := by omega
    obtain ⟨k', rfl⟩ : ∃ k', k = k' + 1 := ⟨k - 1, by omega⟩
    rw [List.take_succ_cons, List.drop_one, List.tail_cons] at he
    rw [List.drop_succ_cons] at h2
    rw [at_cons] at hkt
    simp only [List.length_cons] at hkl
    have hr : tx r = (x :: lbrW :: (q ++ [rbrW])) ++ toW :: (tx r).drop (k' + 1) := by
      rw [← he, ← hkt]
      have hk3 : k' < (tx r).length := by omega
      rw [at_lt hk3, ← List.drop_eq_getElem_cons hk3, List.take_append_drop]
    generalize (tx r).drop (k' + 1) = p at *
    simp only [List.cons_append, List.append_assoc, List.nil_append] at hr
    obtain ⟨u, r1, rfl, e1, hr⟩ := tx_uncons hr
    obtain ⟨v, r2, rfl, e2, hr⟩ := tx_uncons hr
    obtain ⟨pq, r3, rfl, e3, hr⟩ := tx_split hr
    obtain ⟨c, r4, rfl, e4, hr⟩ := tx_uncons hr
    obtain ⟨d, r5, rfl, e5, e6⟩ := tx_uncons hr
    simp only [List.length_cons, List.length_append] at hl
    obtain ⟨i, hi⟩ := expr_comp pq (c :: d :: r5) hok.tail.tail (by rw [e3]; exact hq) (by omega) (ends_lit (by rw [e4]; exact close_code 93 (by simp)))
    unfold pSet
    rw [name_of hok (by rw [e1]; exact hx)]
    simp only
    rw [pTake, if_pos (show v.text = ⟨#[91]⟩ from e2)]
    simp only
    rw [hi]
    simp only
    rw [pTake, if_pos (show c.text = ⟨#[93]⟩ from e4)]
    exact to_of hok.tail.tail.right.tail.tail (by omega) e5 (by rw [e6]; exact h2)
theorem call_of {t : Tk} {r : List Tk} (hok : AllOK r) (hl : r.length ≤ 24) (h : isCall (tx (t :: r)) = true) : ∃ fm, pCall r = some (fm, []) := by
  rw [isCall] at h
  split at h
  · cases h
  rename_i h2
  rw [tx_len] at h2
  match r, h2 with
  | u :: r, _ =>
    rw [Bool.and_eq_true] at h
    obtain ⟨h3, h4⟩ := h
    have h3 : (parts (tx r)).all isExpr = true := h3
    have h4 : nameB u.text = true := h4
    have ha : ∀ a ∈ parts (tx r), Is 0 a := fun a ha => (expr_iff a).mp (List.all_eq_true.mp h3 a ha)
    unfold pCall
    rw [name_of hok h4]
    simp only
    by_cases hr : r = []
    · subst hr
      exact ⟨_, rfl⟩
    · have hj := parts_join (tx r)
      have hp : 0 < (parts (tx r)).length := by
        cases hh : parts (tx r) with
        | nil =>
          rw [hh] at hj
          exact absurd (tx_nil hj.symm) hr
        | cons _ _ => simp
      have hjl := joinC_len (parts (tx r)) ha
      rw [hj, tx_len] at hjl
      simp only [List.length_cons] at hl
      obtain ⟨vs, hv⟩ := args_of (parts (tx r)) 25 [] r hok.tail (by omega) ha hj.symm hp (by omega)
      refine ⟨⟨12, u.text, 0, [], [], vs⟩, ?_⟩
      unfold pArgsAll
      rw [if_neg hr, hv]
  | [], h2 => simp at h2
theorem line_comp {ts : List Tk} (hok : AllOK ts) (hl : ts.length ≤ 24) (h : isLine (tx ts) = true) : ∃ fm, pLineAll ts = some fm := by
  cases ts with
  | nil => exact ⟨_, rfl⟩
  | cons t r =>
    have hok' := hok.tail
    simp only [List.length_cons] at hl
    rw [isLine_pos (by simp [tx]), show first (tx (t :: r)) = t.text from rfl] at h
    have fin : ∀ {l : List UInt8} {fm : PForm}, t.text = ⟨l.toArray⟩ → pLine ⟨l.toArray⟩ r = some (fm, []) → ∃ fm, pLineAll (t :: r) = some fm := fun h1 h2 => ⟨_, pLineAll_of (by rw [h1]; exact h2)⟩
    have wd : ∀ {l : List UInt8}, t.text.toList = l → t.text = ⟨l.toArray⟩ := fun h => word_is (by rw [h]; simp)
    by_cases e0 : t.text.toList = [101, 110, 100]
    · rw [e0, isKind_end] at h
      have hr : r = [] := by simpa [tx] using h
      subst hr
      exact fin (wd e0) (pLine_end [])
    by_cases e1 : t.text.toList = [101, 108, 115, 101]
    · rw [e1, isKind_else] at h
      have hr : r = [] := by simpa [tx] using h
      subst hr
      exact fin (wd e1) (pLine_else [])
    by_cases e2 : t.text.toList = [114, 101, 116, 117, 114, 110]
    · rw [e2, isKind_return] at h
      have hr : r = [] := by simpa [tx] using h
      subst hr
      exact fin (wd e2) (pLine_return [])
    by_cases e3 : t.text.toList = [118, 97, 114]
    · rw [e3, isKind_var] at h
      rw [Bool.and_eq_true, decide_eq_true_eq, tx_len] at h
      obtain ⟨fm, hf⟩ := named_of (k := 1) hok' (by simpa using h.1) h.2
      exact fin (wd e3) ((pLine_var r).trans hf)
    by_cases e4 : t.text.toList = [114, 101, 97, 100]
    · rw [e4, isKind_read] at h
      rw [Bool.and_eq_true, decide_eq_true_eq, tx_len] at h
      obtain ⟨fm, hf⟩ := named_of (k := 11) hok' (by simpa using h.1) h.2
      exact fin (wd e4) ((pLine_read r).trans hf)
    by_cases e5 : t.text.toList = [112, 114, 111, 99]
    · rw [e5, isKind_proc] at h
      rw [Bool.and_eq_true, decide_eq_true_eq, tx_len, List.length_cons] at h
      obtain ⟨fm, hf⟩ := proc_of hok' ⟨by omega, by omega⟩ h.2
      exact fin (wd e5) ((pLine_proc r).trans hf)
    by_cases e6 : t.text.toList = [105, 102]
    · rw [e6, isKind_if] at h
      obtain ⟨fm, hf⟩ := valued_of (k := 5) hok' (by omega) h
      exact fin (wd e6) ((pLine_if r).trans hf)
    by_cases e7 : t.text.toList = [119, 104, 105, 108, 101]
    · rw [e7, isKind_while] at h
      obtain ⟨fm, hf⟩ := valued_of (k := 7) hok' (by omega) h
      exact fin (wd e7) ((pLine_while r).trans hf)
    by_cases e8 : t.text.toList = [112, 114, 105, 110, 116]
    · rw [e8, isKind_print] at h
      obtain ⟨fm, hf⟩ := valued_of (k := 10) hok' (by omega) h
      exact fin (wd e8) ((pLine_print r).trans hf)
    by_cases e9 : t.text.toList = [115, 101, 116]
    · rw [e9, isKind_set] at h
      obtain ⟨fm, hf⟩ := set_of hok' (by omega) h
      exact fin (wd e9) ((pLine_set r).trans hf)
    by_cases e10 : t.text.toList = [99, 97, 108, 108]
    · rw [e10, isKind_call] at h
      obtain ⟨fm, hf⟩ := call_of hok' (by omega) h
      exact fin (wd e10) ((pLine_call r).trans hf)
    by_cases e11 : t.text.toList = [97, 114, 114, 97, 121]
    · rw [e11, isKind_array] at h
      obtain ⟨fm, hf⟩ := array_of hok' h
      exact fin (wd e11) ((pLine_array r).trans hf)
    rw [isKind_none e0 e1 e2 e3 e4 e5 e6 e7 e8 e9 e10 e11] at h
    cases h
open Rt
theorem cw_none (s : ByteArray) (lo hi : Int) (a : Nat) (ha : a < s.size) (h : within lo hi s[a] = false) : cw s lo hi a = 0 := by
  rw [cw_eq s lo hi a a (Nat.le_refl _) (by omega) (fun j h h1 h2 => by omega) (fun _ => h)]; omega
theorem cw_byte {s : ByteArray} {lo hi : Int} {a : Nat} (ha : a < s.size) (h : 0 < cw s lo hi a) : lo ≤ byteAt s a ∧ byteAt s a ≤ hi := by
  cases hw : within lo hi s[a] with
  | false => rw [cw_none s lo hi a ha hw] at h; omega
  | true => rw [byteAt_lt ha]; simpa [within] using hw
theorem first_byte {s : ByteArray} {a n : Nat} (h : a + n ≤ s.size) (hn : 0 < n) : byteAt (s.extract a (a + n)) 0 = byteAt s a := by
  have hsz : (s.extract a (a + n)).size = n := by rw [ByteArray.size_extract]; omega
  rw [byteAt_lt (by omega), byteAt_lt (by omega)]
  congr 1
  simp [ByteArray.getElem_extract]
theorem resv_in (x : ByteArray) : resv x = inB resvW x := by
  simp only [resv, resvWords, inB, resvW, List.any_cons, List.any_nil, str_lit]
  simp only [eq_comm]
theorem sign_byte {b : Int} (h : sign b = true) : letterB b = false ∧ digitB b = false := by
  simp [sign] at h
  rcases h with h | h | h | h | h | h | h | h | h | h | h | h <;> subst h <;> decide
theorem tk_ok {s : ByteArray} {a : Nat} (ha : a < s.size) (hn : ¬ measN s a = 0) : TkOK ⟨measK s a, s.extract a (a + measN s a)⟩ := by
  have hle := measN_le s a (by omega)
  have hb := first_byte hle (by omega)
  have hsz : 0 < (s.extract a (a + measN s a)).size := by rw [ByteArray.size_extract]; omega
  have hnum : numberB (s.extract a (a + measN s a)) = digitB (byteAt s a) := by rw [numberB, hb, decide_eq_true hsz]; rfl
  have hnam : nameB (s.extract a (a + measN s a)) = (letterB (byteAt s a) && !resv (s.extract a (a + measN s a))) := by rw [nameB, hb, decide_eq_true hsz, resv_in]; rfl
  have key : (measK s a = 1 ∧ letterB (byteAt s a) = true ∧ digitB (byteAt s a) = false) ∨ (measK s a = 2 ∧ letterB (byteAt s a) = false ∧ digitB (byteAt s a) = true) ∨ (measK s a = 3 ∧ letterB (byteAt s a) = false ∧ digitB (byteAt s a) = false) := by
    unfold measN at hn
    unfold measK
    by_cases h1 : 8 < cw s 97 122 a
    · rw [if_pos h1] at hn; omega
    rw [if_neg h1] at hn ⊢
    by_cases h2 : 0 < cw s 97 122 a
    · rw [if_pos h2]
      have := cw_byte ha h2
      exact Or.inl ⟨rfl, by simp [letterB]; omega, by simp [digitB]; omega⟩
    rw [if_neg h2] at hn ⊢
    by_cases h3 : 9 < cw s 48 57 a
    · rw [if_pos h3] at hn; omega
    rw [if_neg h3] at hn ⊢
    by_cases h4 : 0 < cw s 48 57 a
    · rw [if_pos h4]
      have := cw_byte ha h4
      exact Or.inr (Or.inl ⟨rfl, by simp [letterB]; omega, by simp [digitB]; omega⟩)
    rw [if_neg h4] at hn ⊢
    by_cases h5 : a < s.size ∧ sign (byteAt s a) = true
    · rw [if_pos h5]
      have := sign_byte h5.2
      exact Or.inr (Or.inr ⟨rfl, this.1, this.2⟩)
    · rw [if_neg h5] at hn; omega
  constructor
  · show measK s a = 2 ↔ _
    rw [hnum]
    rcases key with ⟨k1, k2, k3⟩ | ⟨k1, k2, k3⟩ | ⟨k1, k2, k3⟩ <;> rw [k1, k3] <;> simp
  · show (measK s a = 1 ∧ _) ↔ _
    rw [hnam]
    rcases key with ⟨k1, k2, k3⟩ | ⟨k1, k2, k3⟩ | ⟨k1, k2, k3⟩ <;> rw [k1, k2] <;> simp
theorem toksFrom_ok (s : ByteArray) : ∀ (f a : Nat) (acc ts : List Tk), AllOK acc → toksFrom s f a acc = some ts → AllOK ts
  | 0, _, _, _, _, h => by simp [toksFrom] at h
  | f + 1, a, acc, ts, hacc, h => by
    rw [toksFrom] at h
    split at h
    · rename_i ha
      split at h
      · exact toksFrom_ok s f _ acc ts hacc h
      · split at h
        · cases h
        · rename_i hb hn
          refine toksFrom_ok s f _ _ ts (fun t ht => ?_) h
          simp at ht
          rcases ht with ht | rfl
          · exact hacc t ht
          · exact tk_ok ha (fun e => hn (Or.inl e))
    · simp only [Option.some.injEq] at h
      subst h
      exact hacc
theorem toks_ok {s : ByteArray} {ts : List Tk} (h : toks s = some ts) : AllOK ts := toksFrom_ok s _ _ [] ts (by intro t ht; simp at ht) h
open Rt
inductive LR (R : PL → List ByteArray → Prop) : List PL → List (List ByteArray) → Prop
  | nil : LR R [] []
  | cons (p : PL) (t : List ByteArray) (ps : List PL) (ls : List (List ByteArray)) : R p t → LR R ps ls → LR R (p :: ps) (t :: ls)
theorem LR.len {R : PL → List ByteArray → Prop} {ps : List PL} {ls : List (List ByteArray)} (h : LR R ps ls) : ps.length = ls.length := by
  induction h with
  | nil => rfl
  | cons p t ps ls _ _ ih => simp [ih]
theorem LR.snoc {R : PL → List ByteArray → Prop} {ps : List PL} {ls : List (List ByteArray)} (h : LR R ps ls) {p : PL} {t : List ByteArray} (hp : R p t) : LR R (ps ++ [p]) (ls ++ [t]) := by
  induction h with
  | nil => exact .cons p t [] [] hp .nil
  | cons q u ps ls hq _ ih => exact .cons q u _ _ hq ih
def Rel0 (p : PL) (t : List ByteArray) : Prop := LineIs t p.form ∧ tx p.toks = t ∧ p.depth = 0 ∧ p.opener = 0 ∧ p.proc = 0
theorem forms_eq : ∀ (texts : List ByteArray) (i : Nat) (acc : List PL) (al : List (List ByteArray)), (∀ s ∈ texts, s.size ≤ 40000) → LR Rel0 acc al →
    (rForms i texts (zPL :: acc)).1 = (formsFrom i texts al).1 ∧ ((rForms i texts (zPL :: acc)).1 = 0 → ∃ ps, (rForms i texts (zPL :: acc)).2 = zPL :: ps ∧ LR Rel0 ps (formsFrom i texts al).2)
  | [], i, acc, al, _, h => ⟨rfl, fun _ => ⟨acc, rfl, h⟩⟩
  | s :: r, i, acc, al, hs, h => by
    rw [rForms, formsFrom, rdLine]
    cases ht : toks s with
    | none => exact ⟨rfl, fun h => by simp at h⟩
    | some ts =>
      have hok := toks_ok ht
      have hl := (toks_facts (hs s (by simp)) ht).1
      simp only
      cases hp : pLineAll ts with
      | none =>
        have : isLine (tx ts) = false := by
          cases hi : isLine (tx ts) with
          | false => rfl
          | true =>
            obtain ⟨fm, hf⟩ := line_comp hok hl hi
            rw [hp] at hf
            cases hf
        rw [if_neg (by rw [this]; simp)]
        exact ⟨rfl, fun h => by simp at h⟩
      | some fm =>
        have hli := line_sound hok hp
        rw [if_pos (is_line hli)]
        have := forms_eq r (i + 1) (acc ++ [⟨ts, fm, 0, 0, 0⟩]) (al ++ [tx ts]) (fun x hx => hs x (by simp [hx])) (h.snoc ⟨hli, rfl, rfl, rfl, rfl⟩)
        exact this
def idx (k : Int) : Nat := if k = 0 then 0 else if k = 1 then 1 else if k = 2 then 2 else if k = 3 then 3 else if k = 5 then 4 else if k = 7 then 5 else if k = 6 then 6 else if k = 4 then 7 else 8
theorem hf_lit (l : List UInt8) (i : Nat) (h : ((l == []) = decide (i = 0)) ∧ (l == [118, 97, 114]) = decide (i = 1) ∧ (l == [97, 114, 114, 97, 121]) = decide (i = 2) ∧ (l == [112, 114, 111, 99]) = decide (i = 3) ∧
  (l == [105, 102]) = decide (i = 4) ∧ (l == [119, 104, 105, 108, 101]) = decide (i = 5) ∧ (l == [101, 108, 115, 101]) = decide (i = 6) ∧ (l == [101, 110, 100]) = decide (i = 7)) : HF ⟨l.toArray⟩ i := by
  unfold HF
  rw [toList_lit]
  exact h
theorem kind_hf {t : List ByteArray} {fm : PForm} (h : LineIs t fm) : HF (first t) (idx fm.kind) := by
  cases h with
  | empty => exact hf_lit [] 0 (by decide)
  | var x hx => exact hf_lit [118, 97, 114] 1 (by decide)
  | array x n hx hn h1 h2 => exact hf_lit [97, 114, 114, 97, 121] 2 (by decide)
  | proc x ps hx hps hl => exact hf_lit [112, 114, 111, 99] 3 (by decide)
  | end_ => exact hf_lit [101, 110, 100] 7 (by decide)
  | if_ p e he => exact hf_lit [105, 102] 4 (by decide)
  | else_ => exact hf_lit [101, 108, 115, 101] 6 (by decide)
  | while_ p e he => exact hf_lit [119, 104, 105, 108, 101] 5 (by decide)
  | set1 x p e hx he => exact hf_lit [115, 101, 116] 8 (by decide)
  | set2 x q i p e hx hi he => exact hf_lit [115, 101, 116] 8 (by decide)
  | print p e he => exact hf_lit [112, 114, 105, 110, 116] 8 (by decide)
  | read x hx => exact hf_lit [114, 101, 97, 100] 8 (by decide)
  | call x args vs hx hv => exact hf_lit [99, 97, 108, 108] 8 (by decide)
  | return_ => exact hf_lit [114, 101, 116, 117, 114, 110] 8 (by decide)
end Rf
end Go.Proofs.YthleadfkfnnadaaGreat
