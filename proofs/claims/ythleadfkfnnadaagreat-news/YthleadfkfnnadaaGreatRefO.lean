/- The document's answer: the walk of Tidy. -/
import Derived.Test.YthleadfkfnnadaaGreatEqvB
namespace Go.Proofs.YthleadfkfnnadaaGreat
namespace Rf
open Rt
theorem LN.len {ls : List (List ByteArray)} {k : Nat} {ps : List PL} {us : List (List ByteArray)} (h : LN ls k ps us) : ps.length = us.length := by
  induction h with
  | nil => rfl
  | cons k p t ps us _ _ ih => simp [ih]
theorem LN.get {ls : List (List ByteArray)} {k : Nat} {ps : List PL} {us : List (List ByteArray)} (h : LN ls k ps us) : ∀ j (h1 : j < ps.length) (h2 : j < us.length), RelN ls (k + j) ps[j] us[j] := by
  induction h with
  | nil => intro j h1; simp at h1
  | cons k p t ps us hp _ ih =>
    intro j h1 h2
    cases j with
    | zero => exact hp
    | succ j =>
      have := ih j (by simpa using h1) (by simpa using h2)
      rw [show k + 1 + j = k + (j + 1) by omega] at this
      exact this
theorem top_idx {t : List ByteArray} {i : Nat} (hf : HF (first t) i) : topB t = decide (i = 1 ∨ i = 2 ∨ i = 3) := by
  obtain ⟨f0, f1, f2, f3, _⟩ := hf
  unfold topB; rw [f1, f2, f3, Bool.eq_iff_iff]; simp [or_assoc]
theorem decl_name {t : List ByteArray} {fm : PForm} (h : LineIs t fm) (hk : fm.kind = 1 ∨ fm.kind = 2 ∨ fm.kind = 3) : at' t 1 = fm.name := by
  cases h with
  | var x hx => rfl
  | array x n hx hn h1 h2 => rfl
  | proc x ps hx hps hl => rfl
  | _ => simp at hk
theorem decl_rel {p : PL} {t : List ByteArray} (h : LineIs t p.form) (x : ByteArray) : isDecl p x = declAt t x := by
  obtain ⟨i0, i1, i2, i3, i4, i5, i6, i7⟩ := idx_cases p.form.kind
  rw [isDecl, declAt, top_idx (kind_hf h)]
  by_cases hk : p.form.kind = 1 ∨ p.form.kind = 2 ∨ p.form.kind = 3
  · have hi : idx p.form.kind = 1 ∨ idx p.form.kind = 2 ∨ idx p.form.kind = 3 := hk.imp i1.mpr (Or.imp i2.mpr i3.mpr)
    rw [decl_name h hk, str_eq, decide_eq_true hi]
    rcases hk with hk | hk | hk <;> simp [hk]
  · have hi : ¬ (idx p.form.kind = 1 ∨ idx p.form.kind = 2 ∨ idx p.form.kind = 3) := fun e => hk (e.imp i1.mp (Or.imp i2.mp i3.mp))
    rw [decide_eq_false hi]
    have a1 : ¬ p.form.kind = 1 := fun e => hk (Or.inl e)
    have a2 : ¬ p.form.kind = 2 := fun e => hk (Or.inr (Or.inl e))
    have a3 : ¬ p.form.kind = 3 := fun e => hk (Or.inr (Or.inr e))
    simp [a1, a2, a3]
theorem decl_eq {ls : List (List ByteArray)} {k : Nat} {ps : List PL} {us : List (List ByteArray)} (h : LN ls k ps us) (x : ByteArray) : ∀ n, Rt.declFrom n ps x = declFrom n us x := by
  induction h with
  | nil => intro n; rfl
  | cons k p t ps us hp _ ih =>
    intro n
    rw [Rt.declFrom, declFrom, decl_rel hp.line, ih]
structure Both (pls : List PL) (ls : List (List ByteArray)) : Prop where
  ex : ∃ ps, pls = zPL :: ps ∧ LN ls 0 ps ls
  nested : nested ls = 0
theorem Both.len {pls : List PL} {ls : List (List ByteArray)} (h : Both pls ls) : pls.length = ls.length + 1 := by
  obtain ⟨ps, rfl, h1⟩ := h.ex
  simp [h1.len]
theorem Both.get {pls : List PL} {ls : List (List ByteArray)} (h : Both pls ls) {l : Nat} (hl : l < ls.length) : ∃ p, pls[l + 1]? = some p ∧ RelN ls l p ls[l] := by
  obtain ⟨ps, rfl, h1⟩ := h.ex
  have := h1.len
  refine ⟨ps[l]'(by omega), by simp, ?_⟩
  have := h1.get l (by omega) hl
  simpa using this
theorem Both.declE {pls : List PL} {ls : List (List ByteArray)} (h : Both pls ls) (x : ByteArray) : declP pls x = decl ls x := by
  obtain ⟨ps, rfl, h1⟩ := h.ex
  exact decl_eq h1 x 1
theorem Both.form0 {pls : List PL} {ls : List (List ByteArray)} (h : Both pls ls) : formAt pls (0 : Nat) = zF := by
  obtain ⟨ps, rfl, h1⟩ := h.ex
  rfl
theorem Both.form {pls : List PL} {ls : List (List ByteArray)} (h : Both pls ls) {l : Nat} (hl : l < ls.length) : LineIs ls[l] (formAt pls ((l + 1 : Nat) : Int)) := by
  obtain ⟨p, h1, h2⟩ := h.get hl
  have : formAt pls ((l + 1 : Nat) : Int) = p.form := by
    rw [formAt, if_neg (by omega), Int.toNat_natCast, h1]; rfl
  rw [this]
  exact h2.line
theorem Both.declKind {pls : List PL} {ls : List (List ByteArray)} (h : Both pls ls) (x : ByteArray) :
    (decl ls x = 0 ∧ declForm pls x = zF) ∨ (¬ decl ls x = 0 ∧ ∃ hd : decl ls x - 1 < ls.length, LineIs ls[decl ls x - 1] (declForm pls x)) := by
  have hb := decl_b ls x
  rw [declForm, h.declE]
  by_cases h0 : decl ls x = 0
  · exact Or.inl ⟨h0, by rw [h0]; exact h.form0⟩
  · refine Or.inr ⟨h0, by omega, ?_⟩
    have := h.form (l := decl ls x - 1) (by omega)
    rw [show decl ls x - 1 + 1 = decl ls x by omega] at this
    exact this
theorem proc_params {t : List ByteArray} {fm : PForm} (h : LineIs t fm) (hk : ((first t).toList == [112, 114, 111, 99]) = true) : fm.kind = 3 ∧ fm.params = t.drop 2 := by
  have hf := kind_hf h
  have h3 : idx fm.kind = 3 := by
    have := hf.2.2.2.1
    rw [hk] at this
    simpa using this.symm
  have hk3 := (idx_cases fm.kind).2.2.2.1.mp h3
  refine ⟨hk3, ?_⟩
  cases h with
  | proc x ps hx hps hl => rfl
  | _ => simp at hk3
theorem Both.par {pls : List PL} {ls : List (List ByteArray)} (h : Both pls ls) {l : Nat} (hh : 0 < home ls (l + 1)) (hl : l < ls.length) (x : ByteArray) : isPar pls ((home ls (l + 1) : Nat) : Int) x = inB (parsAt ls l) x := by
  have hb := home_b ls (l + 1)
  have hp := home_is ls (l + 1) hh
  obtain ⟨d, hd⟩ : ∃ d, home ls (l + 1) = d + 1 := ⟨home ls (l + 1) - 1, by omega⟩
  have hdl : d < ls.length := by omega
  rw [hd, Nat.add_sub_cancel, lineAt_lt hdl] at hp
  have := proc_params (h.form hdl) hp
  rw [isPar, parsAt, hd, Nat.add_sub_cancel, lineAt_lt hdl, this.2]
  rfl
theorem Both.named {pls : List PL} {ls : List (List ByteArray)} (h : Both pls ls) {l : Nat} (hh : 0 < home ls (l + 1)) (hl : l < ls.length) {x : ByteArray} (hx : nameB x = true) (c : Bool) :
    namedB ls l x c = if c = true then Rt.isArr pls ((home ls (l + 1) : Nat) : Int) x else Rt.isVar pls ((home ls (l + 1) : Nat) : Int) x := by
  rw [namedB, if_neg (by rw [hx]; simp), Rt.isArr, Rt.isVar, h.par hh hl]
  cases hp : inB (parsAt ls l) x with
  | true => rw [if_pos rfl]; cases c <;> rfl
  | false =>
    rw [if_neg (by simp)]
    rcases h.declKind x with ⟨h0, hz⟩ | ⟨h0, hd, hli⟩
    · rw [if_pos h0, hz]
      cases c <;> rfl
    · rw [if_neg h0]
      obtain ⟨f0, f1, f2, _⟩ := kind_hf hli
      obtain ⟨_, i1, i2, _⟩ := idx_cases (declForm pls x).kind
      rw [lineAt_lt hd, f1, f2]
      cases c with
      | true => simp [i2]
      | false => simp [i1]
theorem namesFrom_eq {pls : List PL} {ls : List (List ByteArray)} (h : Both pls ls) {l : Nat} (hh : 0 < home ls (l + 1)) (hl : l < ls.length) (t : List ByteArray) : ∀ f k, k + f = t.length →
    namesFrom ls l t f k = toksOK (Rt.isVar pls ((home ls (l + 1) : Nat) : Int)) (Rt.isArr pls ((home ls (l + 1) : Nat) : Int)) (t.drop k)
  | 0, k, hk => by rw [List.drop_eq_nil_of_le (by omega)]; rfl
  | f + 1, k, hk => by
    have hkl : k < t.length := by omega
    rw [namesFrom, List.drop_eq_getElem_cons hkl, toksOK, namesFrom_eq h hh hl t f (k + 1) (by omega), at_lt hkl]
    congr 1
    have hc : (cellAt t k = true) ↔ first (t.drop (k + 1)) = lbrW := by
      rw [cellAt, str_lit, decide_eq_true_iff]
      have : first (t.drop (k + 1)) = at' t (k + 1) := by simp [first, at']
      rw [this]; rfl
    by_cases hx : nameB t[k] = true
    · rw [h.named hh hl hx, if_pos hx]
      by_cases hcc : cellAt t k = true
      · rw [if_pos hcc, if_pos (hc.mp hcc)]
      · rw [if_neg hcc, if_neg (fun e => hcc (hc.mpr e))]
    · rw [if_neg hx, namedB, if_pos (by simpa using hx)]
theorem exFit_ops (pls : List PL) (proc : Int) (e : List Pop) : exFit pls proc e = opsOK (Rt.isVar pls proc) (Rt.isArr pls proc) e := rfl
theorem toksOK_name (V A : ByteArray → Bool) {x : ByteArray} (hx : nameB x = true) (r : List ByteArray) : toksOK V A (x :: r) = ((if first r = lbrW then A x else V x) && toksOK V A r) := by rw [toksOK, if_pos hx]
theorem noname_word (l : List UInt8) (h : (⟨l.toArray⟩ : ByteArray) ∈ resvW) : nameB ⟨l.toArray⟩ = false := by
  have : inB resvW ⟨l.toArray⟩ = true := by simp [inB]; exact h
  simp [nameB, this]
theorem toksOK_joinC (V A : ByteArray → Bool) : ∀ (es : List (List Pop)) (args : List (List ByteArray)), Exs es args → toksOK V A (joinC args) = es.all (opsOK V A)
  | _, _, .nil => rfl
  | _, _, .cons e p [] [] he .nil => by simp [joinC, he.2.1]
  | _, _, .cons e p (e2 :: es) (q :: qs) he h => by
    have ih := toksOK_joinC V A (e2 :: es) (q :: qs) h
    rw [joinC, toksOK_app V A (by show ¬ commaW = lbrW; simp [commaW, lbrW]), toksOK_sign V A (show nameB commaW = false from noname_lit 44 (by decide)), ih, ← he.2.1]
    simp only [List.all_cons]
theorem right_names {ls : List (List ByteArray)} {l : Nat} {x : ByteArray} {r : List ByteArray} (lt : List UInt8) (h : x = ⟨lt.toArray⟩) (h1 : (lt == [118, 97, 114]) = false) (h2 : (lt == [97, 114, 114, 97, 121]) = false) (h3 : (lt == [112, 114, 111, 99]) = false) (h4 : (lt == [99, 97, 108, 108]) = false) :
    rightB ls l (x :: r) = namesFrom ls l (x :: r) r.length 1 := by
  have e : (first (x :: r)).toList = lt := by show x.toList = lt; rw [h, toList_lit]
  rw [rightB, e, h1, h2, h3, h4]
  simp
theorem twice_from {t : List ByteArray} : ∀ f k, k + f = t.length → (twiceFrom t f k = false ↔ ∀ i, k ≤ i → i < t.length → inB (t.take i) (at' t i) = false)
  | 0, k, hk => by
    constructor
    · intro _ i h1 h2; omega
    · intro _; rfl
  | f + 1, k, hk => by
    rw [twiceFrom, Bool.or_eq_false_iff, twice_from f (k + 1) (by omega)]
    constructor
    · rintro ⟨h1, h2⟩ i h3 h4
      by_cases e : i = k
      · subst e; exact h1
      · exact h2 i (by omega) h4
    · intro h
      exact ⟨h k (Nat.le_refl _) (by omega), fun i h1 h2 => h i (by omega) h2⟩
theorem in_take {t : List ByteArray} {i : Nat} (hi : i < t.length) : inB (t.take i) (at' t i) = false ↔ ∀ j, j < i → ¬ t[i]? = t[j]? := by
  rw [at_lt hi, Bool.eq_false_iff]
  constructor
  · intro h j hj e
    apply h
    rw [List.getElem?_eq_getElem hi, List.getElem?_eq_getElem (show j < t.length by omega)] at e
    simp [inB]
    rw [List.mem_take_iff_getElem]
    exact ⟨j, by omega, by simpa using e.symm⟩
  · intro h e
    simp [inB] at e
    rw [List.mem_take_iff_getElem] at e
    obtain ⟨j, hj, e⟩ := e
    have := h j (by omega)
    rw [List.getElem?_eq_getElem hi, List.getElem?_eq_getElem (show j < t.length by omega)] at this
    exact this (by rw [e])
theorem twice_nodup (t : List ByteArray) : twice t = false ↔ NoDup t t.length := by
  rw [twice, twice_from t.length 0 (by omega)]
  constructor
  · intro h i j hj hi _
    exact (in_take hi).mp (h i (by omega) hi) j hj
  · intro h i _ hi
    exact (in_take hi).mpr (fun j hj => h i j hj hi hi)
open Classical in
theorem right_eq {pls : List PL} {ls : List (List ByteArray)} (h : Both pls ls) {l : Nat} (hl : l < ls.length) {p : PL} (hp : RelN ls l p ls[l]) : rightB ls l ls[l] = namFit pls (l + 1) p := by
  have hh : topB ls[l] = false → ((first ls[l]).toList == []) = false → 0 < home ls (l + 1) := fun a b => nested_home h.nested hl a b
  have hpr := hp.proc
  have hli := hp.line
  clear hp
  have hdecl := h.declE
  generalize ls[l] = t at *
  obtain ⟨tk, fm, dp, opn, pr⟩ := p
  simp only at hli hpr
  have hkf := kind_hf hli
  have hfit : ¬ (idx fm.kind = 0 ∨ idx fm.kind = 1 ∨ idx fm.kind = 2 ∨ idx fm.kind = 3) → ∀ k f, k + f = t.length → namesFrom ls l t f k = toksOK (Rt.isVar pls pr) (Rt.isArr pls pr) (t.drop k) := by
    intro hn k f hk
    have hho : 0 < home ls (l + 1) := hh (by rw [top_idx hkf, decide_eq_false]; intro e; exact hn (Or.inr e)) (by rw [hkf.1, decide_eq_false]; intro e; exact hn (Or.inl e))
    rw [hpr hn]
    exact namesFrom_eq h hho hl t f k hk
  unfold namFit
  cases hli with
  | empty => simp [rightB, first, at', namesFrom, exsFit, exFit]
  | var x hx =>
    have e : (first [varB, x]).toList = [118, 97, 114] := toList_lit [118, 97, 114]
    rw [rightB, e, if_pos (by decide), if_pos (Or.inl rfl)]
    show decide (decl ls x = l + 1) = decide (declP pls x = l + 1)
    rw [hdecl]
  | array x n hx hn h1 h2 =>
    have e : (first [arrayB, x, n]).toList = [97, 114, 114, 97, 121] := toList_lit [97, 114, 114, 97, 121]
    rw [rightB, e, if_neg (by decide), if_pos (by decide), if_pos (Or.inr rfl)]
    show decide (decl ls x = l + 1) = decide (declP pls x = l + 1)
    rw [hdecl]
  | proc x ps hx hps hpl =>
    have e : (first (procB :: x :: ps)).toList = [112, 114, 111, 99] := toList_lit [112, 114, 111, 99]
    rw [rightB, e, if_neg (by decide), if_neg (by decide), if_pos (by decide), if_neg (by simp), if_pos rfl]
    show (decide (decl ls x = l + 1) && !twice ps && (!(x.toList == [109, 97, 105, 110]) || decide ((procB :: x :: ps).length = 2))) = (decide (declP pls x = l + 1) && (!((x.toList == mainWord) && decide (0 < ps.length)) && decide (NoDup ps ps.length)))
    rw [hdecl, show mainWord = [109, 97, 105, 110] from rfl]
    have ht : twice ps = !decide (NoDup ps ps.length) := by
      by_cases hd : NoDup ps ps.length
      · rw [(twice_nodup ps).mpr hd, decide_eq_true hd]; rfl
      · rw [decide_eq_false hd]
        cases htw : twice ps with
        | true => rfl
        | false => exact absurd ((twice_nodup ps).mp htw) hd
    rw [ht]
    have hz : decide ((procB :: x :: ps).length = 2) = !decide (0 < ps.length) := by
      rw [Bool.eq_iff_iff]; simp
    rw [hz]
    cases decide (decl ls x = l + 1) <;> cases (x.toList == [109, 97, 105, 110]) <;> cases decide (NoDup ps ps.length) <;> cases decide (0 < ps.length) <;> rfl
  | end_ =>
    rw [right_names (x := endB) [101, 110, 100] rfl (by decide) (by decide) (by decide) (by decide)]
    simp [namesFrom, exsFit, exFit]
  | if_ q e he =>
    rw [right_names (x := ifB) [105, 102] rfl (by decide) (by decide) (by decide) (by decide), hfit (by simp [idx]) 1 _ (by simp; omega)]
    show toksOK _ _ q = _
    rw [← he.2.1]
    simp [exsFit, exFit_ops, opsOK]
  | else_ =>
    rw [right_names (x := elseB) [101, 108, 115, 101] rfl (by decide) (by decide) (by decide) (by decide)]
    simp [namesFrom, exsFit, exFit]
  | while_ q e he =>
    rw [right_names (x := whileB) [119, 104, 105, 108, 101] rfl (by decide) (by decide) (by decide) (by decide), hfit (by simp [idx]) 1 _ (by simp; omega)]
    show toksOK _ _ q = _
    rw [← he.2.1]
    simp [exsFit, exFit_ops, opsOK]
  | set1 x q e hx he =>
    rw [right_names (x := setB) [115, 101, 116] rfl (by decide) (by decide) (by decide) (by decide), hfit (by simp [idx]) 1 _ (by simp; omega)]
    show toksOK _ _ (x :: toW :: q) = _
    rw [toksOK_name _ _ hx, if_neg (show ¬ first (toW :: q) = lbrW by show ¬ toW = lbrW; simp [toW, lbrW]), toksOK_sign _ _ (show nameB toW = false from noname_word [116, 111] (by simp [resvW])), ← he.2.1]
    simp [exsFit, exFit_ops, opsOK]
  | set2 x q i u e hx hi he =>
    rw [right_names (x := setB) [115, 101, 116] rfl (by decide) (by decide) (by decide) (by decide), hfit (by simp [idx]) 1 _ (by simp; omega)]
    show toksOK _ _ (x :: lbrW :: (q ++ rbrW :: toW :: u)) = _
    rw [toksOK_name _ _ hx, if_pos (show first (lbrW :: (q ++ rbrW :: toW :: u)) = lbrW from rfl), toksOK_sign _ _ (show nameB lbrW = false from noname_lit 91 (by decide)), toksOK_app _ _ (show ¬ first (rbrW :: toW :: u) = lbrW by show ¬ rbrW = lbrW; simp [rbrW, lbrW]),
      toksOK_sign _ _ (show nameB rbrW = false from noname_lit 93 (by decide)), toksOK_sign _ _ (show nameB toW = false from noname_word [116, 111] (by simp [resvW])), ← hi.2.1, ← he.2.1]
    simp [exsFit, exFit_ops, opsOK]
  | print q e he =>
    rw [right_names (x := printB) [112, 114, 105, 110, 116] rfl (by decide) (by decide) (by decide) (by decide), hfit (by simp [idx]) 1 _ (by simp; omega)]
    show toksOK _ _ q = _
    rw [← he.2.1]
    simp [exsFit, exFit_ops, opsOK]
  | read x hx =>
    rw [right_names (x := readB) [114, 101, 97, 100] rfl (by decide) (by decide) (by decide) (by decide), hfit (by simp [idx]) 1 _ (by simp)]
    show toksOK _ _ [x] = _
    rw [toksOK_name _ _ hx, if_neg (show ¬ first [] = lbrW by simp [first, at', lbrW])]
    simp [exsFit, exFit_ops, opsOK, toksOK]
  | call x args vs hx hv =>
    have e : (first (callB :: x :: joinC args)).toList = [99, 97, 108, 108] := toList_lit [99, 97, 108, 108]
    rw [rightB, e, if_neg (by decide), if_neg (by decide), if_neg (by decide), if_pos (by decide), hfit (by simp [idx]) 2 _ (by simp; omega)]
    show (calledB ls (callB :: x :: joinC args) && toksOK _ _ (joinC args)) = _
    rw [toksOK_joinC _ _ _ _ hv]
    have hc : calledB ls (callB :: x :: joinC args) = callFit pls ⟨12, x, 0, [], [], vs⟩ := by
      rw [calledB, callFit]
      show (if decl ls x = 0 then false else if ((first (lineAt ls (decl ls x - 1))).toList == [112, 114, 111, 99]) = false then false else decide ((parts (joinC args)).length = ((lineAt ls (decl ls x - 1)).drop 2).length)) = (decide ((declForm pls x).kind = 3) && decide ((declForm pls x).params.length = vs.length))
      rcases h.declKind x with ⟨h0, hz⟩ | ⟨h0, hd, hli⟩
      · rw [if_pos h0, hz]; rfl
      · rw [if_neg h0, lineAt_lt hd]
        cases hpc : ((first ls[decl ls x - 1]).toList == [112, 114, 111, 99]) with
        | false =>
          rw [if_pos rfl]
          have := (kind_hf hli).2.2.2.1
          rw [hpc] at this
          have h3 := (idx_cases (declForm pls x).kind).2.2.2.1
          have : ¬ (declForm pls x).kind = 3 := fun e => by rw [h3.mpr e] at this; cases this
          simp [this]
        | true =>
          rw [if_neg (by decide)]
          have := proc_params hli hpc
          rw [this.1, this.2, parts_of args hv.is, ← hv.len]
          simp [eq_comm]
    rw [hc]
    simp [exsFit, exFit_ops]
    rfl
  | return_ =>
    rw [right_names (x := returnB) [114, 101, 116, 117, 114, 110] rfl (by decide) (by decide) (by decide) (by decide)]
    simp [namesFrom, exsFit, exFit]
open Rt
theorem nameErr_eq {pls : List PL} {ls : List (List ByteArray)} (h : Both pls ls) : ∀ f k, k + f = ls.length → nameErr pls (k + 1) (pls.drop (k + 1)) = rightFrom ls f k
  | 0, k, hk => by
    rw [List.drop_eq_nil_of_le (by rw [h.len]; omega)]; rfl
  | f + 1, k, hk => by
    have hkl : k < ls.length := by omega
    obtain ⟨p, h1, h2⟩ := h.get hkl
    obtain ⟨hlt, hp⟩ := List.getElem?_eq_some_iff.mp h1
    rw [List.drop_eq_getElem_cons hlt, hp, nameErr, rightFrom, lineAt_lt hkl, right_eq h hkl h2, nameErr_eq h f (k + 1) (by omega)]
theorem main_eq {pls : List PL} {ls : List (List ByteArray)} (h : Both pls ls) : ((declForm pls mainName).kind = 3) ↔ (¬ decl ls mainW = 0 ∧ ((first (lineAt ls (decl ls mainW - 1))).toList == [112, 114, 111, 99]) = true) := by
  rcases h.declKind mainW with ⟨h0, hz⟩ | ⟨h0, hd, hli⟩
  · rw [show declForm pls mainName = zF from hz, h0]
    simp [zF]
  · have h3 := (idx_cases (declForm pls mainW).kind).2.2.2.1
    rw [lineAt_lt hd, (kind_hf hli).2.2.2.1]
    show ((declForm pls mainW).kind = 3) ↔ _
    rw [← h3]
    simp [h0]
theorem empty_sr (ls : List (List ByteArray)) : SR ls 0 [] [] [] := by
  refine ⟨rfl, rfl, ?_, by simp, by simp, .nil, by simp, rfl⟩
  intro pre o suf h
  simp at h
theorem read_eq (s : ByteArray) : (readS s).1 = (readR s).1 ∧ (readS s).2.1 = (readR s).2.1 ∧ ((readS s).1 = 0 → Both (readS s).2.2 (readR s).2.2) := by
  have hll := lines_len s
  unfold readS readR
  by_cases h1 : 40000 < s.size
  · rw [if_pos (show tooLong s = true by simp [tooLong, h1]), if_pos h1]
    exact ⟨rfl, rfl, fun h => by simp at h⟩
  rw [if_neg h1]
  by_cases h2 : 100 < (lines s).length
  · rw [if_pos (show tooLong s = true by simp [tooLong]; omega), if_pos h2]
    exact ⟨rfl, rfl, fun h => by simp at h⟩
  rw [if_neg (show ¬ tooLong s = true by simp [tooLong]; omega), if_neg h2]
  obtain ⟨e1, e2⟩ := forms_eq (lines s) 0 [] [] (lines_facts (by omega)) .nil
  unfold readForms
  rw [e1]
  by_cases h3 : (formsFrom 0 (lines s) []).1 = 0
  · rw [if_neg (by omega), if_neg (by omega)]
    obtain ⟨ps, e3, e4⟩ := e2 (e1.trans h3)
    rw [e3]
    have hlen : (lines s).length = (formsFrom 0 (lines s) []).2.length := by
      have key : ∀ (texts : List ByteArray) (i : Nat) (acc : List (List ByteArray)), (formsFrom i texts acc).1 = 0 → (formsFrom i texts acc).2.length = acc.length + texts.length := by
        intro texts
        induction texts with
        | nil => intro i acc _; simp [formsFrom]
        | cons t r ih =>
          intro i acc h
          rw [formsFrom] at h ⊢
          cases ht : toks t with
          | none => rw [ht] at h; simp at h
          | some ts =>
            rw [ht] at h
            simp only at h ⊢
            by_cases hi : isLine (tx ts) = true
            · rw [if_pos hi] at h ⊢
              rw [ih _ _ h]; simp; omega
            · rw [if_neg hi] at h; simp at h
      have := key (lines s) 0 [] h3
      simpa using this.symm
    generalize (formsFrom 0 (lines s) []).2 = ls at *
    show (readNest (Rt.nestFrom ps 1 [] [zPL]).1 (Rt.nestFrom ps 1 [] [zPL]).2.1 (Rt.nestFrom ps 1 [] [zPL]).2.2 (lines s).length).1 = _ ∧ _
    have hn := nest_eq (ls := ls) ps 0 [] [zPL] [] [] (by simpa using e4) (empty_sr ls) (by omega)
    rw [hlen]
    change NestOut ls 0 [zPL] (Rt.nestFrom ps 1 [] [zPL]) (nested ls) at hn
    show (readNest (Rt.nestFrom ps 1 [] [zPL]).1 (Rt.nestFrom ps 1 [] [zPL]).2.1 (Rt.nestFrom ps 1 [] [zPL]).2.2 ls.length).1 = (readLines ls).1 ∧ (readNest (Rt.nestFrom ps 1 [] [zPL]).1 (Rt.nestFrom ps 1 [] [zPL]).2.1 (Rt.nestFrom ps 1 [] [zPL]).2.2 ls.length).2.1 = (readLines ls).2.1 ∧ ((readNest (Rt.nestFrom ps 1 [] [zPL]).1 (Rt.nestFrom ps 1 [] [zPL]).2.1 (Rt.nestFrom ps 1 [] [zPL]).2.2 ls.length).1 = 0 → Both (readNest (Rt.nestFrom ps 1 [] [zPL]).1 (Rt.nestFrom ps 1 [] [zPL]).2.1 (Rt.nestFrom ps 1 [] [zPL]).2.2 ls.length).2.2 (readLines ls).2.2)
    unfold readNest readLines
    rcases hn with ⟨a1, a2, a3, qs, a4, a5⟩ | ⟨a1, a2, a3⟩ | ⟨a1, a2⟩
    · rw [if_neg (by omega), if_neg (by simp [a2]), if_neg (by omega)]
      have hB : Both (Rt.nestFrom ps 1 [] [zPL]).2.1 ls := ⟨⟨qs, a4, by simpa using a5⟩, a3⟩
      generalize (Rt.nestFrom ps 1 [] [zPL]).2.1 = pls at *
      unfold Rt.readNames readNames
      have hne := nameErr_eq hB ls.length 0 (by omega)
      rw [hne]
      by_cases h4 : rightFrom ls ls.length 0 = 0
      · rw [if_neg (show ¬ ¬ rightFrom ls ls.length 0 = 0 by omega), if_neg (show ¬ ¬ rightFrom ls ls.length 0 = 0 by omega)]
        have hm := main_eq hB
        by_cases h5 : (declForm pls mainName).kind = 3
        · have h6 := hm.mp h5
          rw [if_neg (show ¬ ¬ (declForm pls mainName).kind = 3 from fun h => h h5), if_neg h6.1, if_neg (by rw [h6.2]; simp)]
          exact ⟨rfl, rfl, fun _ => hB⟩
        · rw [if_pos h5]
          by_cases h7 : decl ls mainW = 0
          · rw [if_pos h7]
            exact ⟨rfl, rfl, fun h => by simp at h⟩
          · rw [if_neg h7, if_pos]
            · exact ⟨rfl, rfl, fun h => by simp at h⟩
            · cases hq : ((first (lineAt ls (decl ls mainW - 1))).toList == [112, 114, 111, 99]) with
              | false => rfl
              | true => exact absurd (hm.mpr ⟨h7, hq⟩) h5
      · rw [if_pos h4, if_pos h4]
        exact ⟨rfl, rfl, fun h => by simp at h⟩
    · have hl0 : ¬ ls.length = 0 := by
        intro h0
        have : ls = [] := List.eq_nil_of_length_eq_zero h0
        subst this
        cases e4
        simp [Rt.nestFrom] at a2
      rw [if_neg (by omega), if_pos a2, a3, if_pos hl0]
      exact ⟨rfl, rfl, fun h => by simp at h⟩
    · rw [if_pos a1, a2, if_pos a1]
      exact ⟨rfl, rfl, fun h => by simp at h⟩
  · rw [if_pos h3, if_pos h3]
    exact ⟨rfl, rfl, fun h => by simp at h⟩
theorem stop_eq {pls : List PL} {ls : List (List ByteArray)} (h : Both pls ls) {l : Nat} (hl : l < ls.length) {p : PL} (hp : RelN ls l p ls[l]) : isStopP pls p = stopB ls l ls[l] := by
  have hop : ((first ls[l]).toList == [101, 110, 100]) = true → 0 < openerFrom ls l 1 := fun e => nested_open h.nested hl e
  have hob := openerFrom_b ls l 1
  have hpo := hp.opener
  have hli := hp.line
  clear hp
  have hform := fun {d} (hd : d < ls.length) => h.form hd
  generalize ls[l] = t at *
  obtain ⟨tk, fm, dp, opn, pr⟩ := p
  simp only at hli hpo
  have word : ∀ (x : ByteArray) (r : List ByteArray) (lt : List UInt8), x = ⟨lt.toArray⟩ → (first (x :: r)).toList = lt := fun x r lt h => by show x.toList = lt; rw [h, toList_lit]
  cases hli with
  | empty => simp [isStopP, stopKind, stopB, first, at']
  | var x hx => rw [isStopP, stopB, word varB _ [118, 97, 114] rfl]; simp [stopKind]
  | array x n hx hn h1 h2 => rw [isStopP, stopB, word arrayB _ [97, 114, 114, 97, 121] rfl]; simp [stopKind]
  | proc x ps hx hps hpl => rw [isStopP, stopB, word procB _ [112, 114, 111, 99] rfl]; simp [stopKind]
  | end_ =>
    have he := word endB [] [101, 110, 100] rfl
    have ho := hop (by rw [he]; decide)
    have hi := hpo (by decide)
    obtain ⟨d, hd⟩ : ∃ d, openerFrom ls l 1 = d + 1 := ⟨openerFrom ls l 1 - 1, by omega⟩
    have hdl : d < ls.length := by omega
    have hlf := hform hdl
    have h3 := (idx_cases (formAt pls ((d + 1 : Nat) : Int)).kind).2.2.2.1
    rw [isStopP, stopB, he, hd, Nat.add_sub_cancel, lineAt_lt hdl, (kind_hf hlf).2.2.2.1, hi, hd]
    show decide ((formAt pls ((d + 1 : Nat) : Int)).kind = 3) = decide (idx (formAt pls ((d + 1 : Nat) : Int)).kind = 3)
    rw [Bool.eq_iff_iff, decide_eq_true_iff, decide_eq_true_iff]
    exact h3.symm
  | if_ q e he => rw [isStopP, stopB, word ifB _ [105, 102] rfl]; simp [stopKind]
  | else_ => rw [isStopP, stopB, word elseB _ [101, 108, 115, 101] rfl]; simp [stopKind]
  | while_ q e he => rw [isStopP, stopB, word whileB _ [119, 104, 105, 108, 101] rfl]; simp [stopKind]
  | set1 x q e hx he => rw [isStopP, stopB, word setB _ [115, 101, 116] rfl]; simp [stopKind]
  | set2 x q i u e hx hi he => rw [isStopP, stopB, word setB _ [115, 101, 116] rfl]; simp [stopKind]
  | print q e he => rw [isStopP, stopB, word printB _ [112, 114, 105, 110, 116] rfl]; simp [stopKind]
  | read x hx => rw [isStopP, stopB, word readB _ [114, 101, 97, 100] rfl]; simp [stopKind]
  | call x args vs hx hv => rw [isStopP, stopB, word callB _ [99, 97, 108, 108] rfl]; simp [stopKind]
  | return_ => rw [isStopP, stopB, word returnB _ [114, 101, 116, 117, 114, 110] rfl]; simp [stopKind]
end Rf
end Go.Proofs.YthleadfkfnnadaaGreat
namespace Go.Proofs.YthleadfkfnnadaaGreat
open Go.RowKit
namespace Rf
theorem opens_cases (t : List ByteArray) : (((first t).toList == [101, 110, 100]) = true ∧ ((first t).toList == [101, 108, 115, 101]) = false ∧ opensB t = false) ∨ (((first t).toList == [101, 110, 100]) = false ∧ ((first t).toList == [101, 108, 115, 101]) = true ∧ opensB t = false) ∨
    (((first t).toList == [101, 110, 100]) = false ∧ ((first t).toList == [101, 108, 115, 101]) = false ∧ opensB t = true) ∨ (((first t).toList == [101, 110, 100]) = false ∧ ((first t).toList == [101, 108, 115, 101]) = false ∧ opensB t = false) := by
  unfold opensB
  generalize (first t).toList = z
  by_cases h1 : z = [101, 110, 100]
  · subst h1; left; decide
  by_cases h2 : z = [101, 108, 115, 101]
  · subst h2; right; left; decide
  have e1 : (z == [101, 110, 100]) = false := by simpa using h1
  have e2 : (z == [101, 108, 115, 101]) = false := by simpa using h2
  rw [e1, e2]
  right; right
  generalize (_ || _ : Bool) = b
  cases b
  · right; exact ⟨rfl, rfl, rfl⟩
  · left; exact ⟨rfl, rfl, rfl⟩
end Rf
end Go.Proofs.YthleadfkfnnadaaGreat
