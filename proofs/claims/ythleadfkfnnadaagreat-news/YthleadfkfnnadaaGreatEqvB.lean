/- Both nestings of blocks agree. -/
import Derived.Test.YthleadfkfnnadaaGreatEqvA
namespace Go.Proofs.YthleadfkfnnadaaGreat
namespace Rf
open Rt
theorem idx_cases (k : Int) : (idx k = 0 ↔ k = 0) ∧ (idx k = 1 ↔ k = 1) ∧ (idx k = 2 ↔ k = 2) ∧ (idx k = 3 ↔ k = 3) ∧ (idx k = 4 ↔ k = 5) ∧ (idx k = 5 ↔ k = 7) ∧ (idx k = 6 ↔ k = 6) ∧ (idx k = 7 ↔ k = 4) := by
  unfold idx
  by_cases h0 : k = 0
  · subst h0; decide
  by_cases h1 : k = 1
  · subst h1; decide
  by_cases h2 : k = 2
  · subst h2; decide
  by_cases h3 : k = 3
  · subst h3; decide
  by_cases h5 : k = 5
  · subst h5; decide
  by_cases h7 : k = 7
  · subst h7; decide
  by_cases h6 : k = 6
  · subst h6; decide
  by_cases h4 : k = 4
  · subst h4; decide
  simp [h0, h1, h2, h3, h4, h5, h6, h7]
def cnt (ls : List (List ByteArray)) : Nat → Int
  | 0 => 0
  | k + 1 => cnt ls k + (if opensB (lineAt ls k) = true then 1 else 0) - (if ((first (lineAt ls k)).toList == [101, 110, 100]) = true then 1 else 0)
theorem cnt_i {ls : List (List ByteArray)} {k i : Nat} (h : k < ls.length) (hf : HF (first ls[k]) i) : cnt ls (k + 1) = cnt ls k + (if i = 3 ∨ i = 4 ∨ i = 5 then 1 else 0) - (if i = 7 then 1 else 0) := by
  obtain ⟨f0, f1, f2, f3, f4, f5, f6, f7⟩ := hf
  have ho : (opensB ls[k] = true) ↔ (i = 3 ∨ i = 4 ∨ i = 5) := by
    unfold opensB; rw [f3, f4, f5]; simp [or_assoc]
  rw [cnt, lineAt_lt h, f7]
  simp only [ho, decide_eq_true_eq]
theorem home_i {ls : List (List ByteArray)} {k i : Nat} (h : k < ls.length) (hf : HF (first ls[k]) i) : home ls (k + 1) = if i = 3 then k + 1 else home ls k := by
  rw [home_step, lineAt_lt h, hf.2.2.2.1]
  simp
structure SR (ls : List (List ByteArray)) (k : Nat) (bs : List Blk) (op sp : List Nat) : Prop where
  opE : op = bs.map (·.line)
  spE : sp = (bs.filter (·.els)).map (·.line)
  inv : OpInv ls k op
  home : ∀ x, op.head? = some x → home ls k = x
  rng : ∀ b ∈ bs, 1 ≤ b.line ∧ b.line ≤ k
  inc : bs.Pairwise (fun a b => a.line < b.line)
  kind : ∀ b ∈ bs, ((first (lineAt ls (b.line - 1))).toList == [105, 102]) = decide (b.kind = 5)
  cnt : (op.length : Int) = cnt ls k
theorem SR.same {ls : List (List ByteArray)} {k i : Nat} {bs : List Blk} {op sp : List Nat} (h : SR ls k bs op sp) (hk : k < ls.length) (hf : HF (first ls[k]) i) (h1 : ¬ (i = 3 ∨ i = 4 ∨ i = 5)) (h2 : ¬ i = 7) : SR ls (k + 1) bs op sp := by
  refine ⟨h.opE, h.spE, h.inv.same hk hf h1 h2, fun x hx => ?_, fun b hb => by have := h.rng b hb; omega, h.inc, h.kind, ?_⟩
  · rw [home_i hk hf, if_neg (by omega)]; exact h.home x hx
  · rw [cnt_i hk hf, if_neg h1, if_neg h2, h.cnt]; omega
theorem SR.push {ls : List (List ByteArray)} {k i : Nat} {bs : List Blk} {op sp : List Nat} {kd : Int} (h : SR ls k bs op sp) (hk : k < ls.length) (hf : HF (first ls[k]) i) (h1 : i = 3 ∨ i = 4 ∨ i = 5) (h3 : i = 3 ↔ bs = []) (hkd : i = 4 ↔ kd = 5) : SR ls (k + 1) (bs ++ [⟨k + 1, kd, false⟩]) (op ++ [k + 1]) sp := by
  refine ⟨by rw [h.opE]; simp, by rw [h.spE]; simp, h.inv.push hk hf h1, fun x hx => ?_, fun b hb => ?_, ?_, fun b hb => ?_, ?_⟩
  · rw [home_i hk hf]
    by_cases hb : bs = []
    · rw [if_pos (h3.mpr hb)]
      rw [h.opE, hb] at hx
      simpa using hx
    · rw [if_neg (fun e => hb (h3.mp e))]
      refine h.home x ?_
      have hne : op ≠ [] := by rw [h.opE]; simpa using hb
      cases hop : op with
      | nil => exact absurd hop hne
      | cons y r => rw [hop] at hx; simpa using hx
  · simp at hb
    rcases hb with hb | rfl
    · have := h.rng b hb; omega
    · exact ⟨by simp, by simp⟩
  · rw [List.pairwise_append]
    refine ⟨h.inc, by simp, fun a ha b hb => ?_⟩
    simp at hb
    subst hb
    have := h.rng a ha
    show a.line < k + 1
    omega
  · simp at hb
    rcases hb with hb | rfl
    · exact h.kind b hb
    · show ((first (lineAt ls (k + 1 - 1))).toList == [105, 102]) = decide (kd = 5)
      rw [Nat.add_sub_cancel, lineAt_lt hk, hf.2.2.2.2.1, Bool.eq_iff_iff]
      simpa using hkd
  · rw [cnt_i hk hf, if_pos h1, if_neg (by omega), List.length_append, ← h.cnt]
    simp
theorem blk_snoc (bs : List Blk) : bs = [] ∨ ∃ pre b, bs = pre ++ [b] := by
  rcases List.eq_nil_or_concat bs with h | ⟨a, b, h⟩
  · exact Or.inl h
  · exact Or.inr ⟨a, b, by simpa using h⟩
theorem lastOr_snoc' (pre : List Blk) (b : Blk) : lastOr (pre ++ [b]) = b := by simp [lastOr]
theorem SR.spent {ls : List (List ByteArray)} {k : Nat} {pre : List Blk} {b : Blk} {op sp : List Nat} (h : SR ls k (pre ++ [b]) op sp) : (0 < sp.length ∧ lastN sp = lastN op) ↔ b.els = true := by
  have hop : lastN op = b.line := by rw [h.opE]; simp [lastN]
  have hsp := h.spE
  rw [List.filter_append, List.map_append] at hsp
  rw [hop]
  cases hb : b.els with
  | true =>
    simp [hb] at hsp
    rw [hsp]
    simp [lastN]
  | false =>
    simp [hb] at hsp
    constructor
    · rintro ⟨h1, h2⟩
      rcases blk_snoc (pre.filter (·.els)) with he | ⟨p2, c, he⟩
      · rw [hsp, he] at h1; simp at h1
      · rw [hsp, he] at h2
        simp [lastN] at h2
        have hc : c ∈ pre := by
          have : c ∈ pre.filter (·.els) := by rw [he]; simp
          exact (List.mem_filter.mp this).1
        have := (List.pairwise_append.mp h.inc).2.2 c hc b (by simp)
        omega
    · intro h; cases h
theorem SR.els {ls : List (List ByteArray)} {k i : Nat} {pre : List Blk} {b : Blk} {op sp : List Nat} (h : SR ls k (pre ++ [b]) op sp) (hk : k < ls.length) (hf : HF (first ls[k]) i) (h6 : i = 6) (hb : b.els = false) : SR ls (k + 1) (pre ++ [⟨b.line, b.kind, true⟩]) op (sp ++ [lastN op]) := by
  have h' := h.same hk hf (by omega) (by omega)
  have hop : lastN op = b.line := by rw [h.opE]; simp [lastN]
  refine ⟨by rw [h.opE]; simp, ?_, h'.inv, h'.home, fun c hc => ?_, ?_, fun c hc => ?_, h'.cnt⟩
  · rw [hop, h.spE]; simp [hb]
  · simp at hc
    rcases hc with hc | rfl
    · exact h'.rng c (by simp [hc])
    · exact h'.rng b (by simp)
  · have := List.pairwise_append.mp h.inc
    rw [List.pairwise_append]
    refine ⟨this.1, by simp, fun a ha c hc => ?_⟩
    simp at hc
    subst hc
    exact this.2.2 a ha b (by simp)
  · simp at hc
    rcases hc with hc | rfl
    · exact h.kind c (by simp [hc])
    · exact h.kind b (by simp)
theorem SR.pop {ls : List (List ByteArray)} {k i : Nat} {pre : List Blk} {b : Blk} {op sp : List Nat} (h : SR ls k (pre ++ [b]) op sp) (hk : k < ls.length) (hf : HF (first ls[k]) i) (h7 : i = 7) : SR ls (k + 1) pre op.dropLast (if 0 < sp.length ∧ lastN sp = lastN op then sp.dropLast else sp) := by
  have hop : op = pre.map (·.line) ++ [b.line] := by rw [h.opE]; simp
  have hd : op.dropLast = pre.map (·.line) := by rw [hop, List.dropLast_concat]
  have hi := h.inv
  rw [hop] at hi
  refine ⟨hd, ?_, by rw [hd]; exact hi.pop hk hf h7, fun x hx => ?_, fun c hc => by have := h.rng c (by simp [hc]); omega, (List.pairwise_append.mp h.inc).1, fun c hc => h.kind c (by simp [hc]), ?_⟩
  · cases hb : b.els with
    | true =>
      rw [if_pos (h.spent.mpr hb), h.spE]
      simp [hb]
    | false =>
      rw [if_neg (fun e => by have := h.spent.mp e; rw [hb] at this; cases this), h.spE]
      simp [hb]
  · rw [home_i hk hf, if_neg (by omega)]
    refine h.home x ?_
    rw [hd] at hx
    rw [hop]
    cases hp : pre with
    | nil => rw [hp] at hx; simp at hx
    | cons y r => rw [hp] at hx; simpa using hx
  · rw [cnt_i hk hf, if_neg (by omega), if_pos h7, ← h.cnt, hd, hop]
    simp
structure RelN (ls : List (List ByteArray)) (l : Nat) (p : PL) (t : List ByteArray) : Prop where
  line : LineIs t p.form
  toks : tx p.toks = t
  proc : ¬ (idx p.form.kind = 0 ∨ idx p.form.kind = 1 ∨ idx p.form.kind = 2 ∨ idx p.form.kind = 3) → p.proc = (home ls (l + 1) : Nat)
  opener : idx p.form.kind = 7 → p.opener = (openerFrom ls l 1 : Nat)
  els : idx p.form.kind = 6 → p.opener = (openerFrom ls l 1 : Nat)
  depth : p.depth = if idx p.form.kind = 6 ∨ idx p.form.kind = 7 then cnt ls l - 1 else cnt ls l
inductive LN (ls : List (List ByteArray)) : Nat → List PL → List (List ByteArray) → Prop
  | nil (k : Nat) : LN ls k [] []
  | cons (k : Nat) (p : PL) (t : List ByteArray) (ps : List PL) (us : List (List ByteArray)) : RelN ls k p t → LN ls (k + 1) ps us → LN ls k (p :: ps) (t :: us)
theorem placed_rel {ls : List (List ByteArray)} {k : Nat} {bs : List Blk} {op sp : List Nat} {p : PL} (h : SR ls k bs op sp) (hk : k < ls.length) (hp : Rel0 p ls[k]) (had : adm bs p.form.kind = true) : RelN ls k (placed bs p) ls[k] := by
  obtain ⟨hl, ht, hd, ho, hpr⟩ := hp
  have hf := kind_hf hl
  obtain ⟨i0, i1, i2, i3, i4, i5, i6, i7⟩ := idx_cases p.form.kind
  rcases blk_snoc bs with rfl | ⟨pre, b, rfl⟩
  · have hpl : placed [] p = p := by simp [placed]
    have hc : cnt ls k = 0 := by rw [← h.cnt, h.opE]; rfl
    unfold adm at had
    have hk4 : p.form.kind = 0 ∨ p.form.kind = 1 ∨ p.form.kind = 2 ∨ p.form.kind = 3 := by
      by_cases hx : p.form.kind = 0
      · exact Or.inl hx
      · rw [if_neg hx] at had
        by_cases hy : p.form.kind = 1 ∨ p.form.kind = 2 ∨ p.form.kind = 3
        · exact Or.inr hy
        · rw [if_neg hy, if_pos rfl] at had; cases had
    rw [hpl]
    refine ⟨hl, ht, fun hn => ?_, fun h7 => ?_, fun h6 => ?_, ?_⟩
    · exfalso; apply hn; rcases hk4 with h | h | h | h
      · exact Or.inl (i0.mpr h)
      · exact Or.inr (Or.inl (i1.mpr h))
      · exact Or.inr (Or.inr (Or.inl (i2.mpr h)))
      · exact Or.inr (Or.inr (Or.inr (i3.mpr h)))
    · have := i7.mp h7; omega
    · have := i6.mp h6; omega
    · rw [hd, hc, if_neg]
      rintro (h | h)
      · have := i6.mp h; omega
      · have := i7.mp h; omega
  · have hne : ¬ (pre ++ [b]) = [] := by simp
    have hop : op = pre.map (·.line) ++ [b.line] := by rw [h.opE]; simp
    have hlo := lastOr_snoc' pre b
    have hcl : ((pre ++ [b]).length : Int) = cnt ls k := by rw [← h.cnt, h.opE]; simp
    have hop1 : openerFrom ls k 1 = b.line := h.inv (pre.map (·.line)) b.line [] (by rw [hop])
    have hhome : home ls k = (firstOr (pre ++ [b])).line := by
      refine h.home _ ?_
      rw [h.opE]
      cases pre with
      | nil => simp [firstOr]
      | cons c r => simp [firstOr]
    have hh1 : ¬ idx p.form.kind = 3 → home ls (k + 1) = (firstOr (pre ++ [b])).line := fun hn => by rw [home_i hk hf, if_neg hn]; exact hhome
    by_cases h46 : p.form.kind = 6 ∨ p.form.kind = 4
    · have hpl : placed (pre ++ [b]) p = ⟨p.toks, p.form, ((pre ++ [b]).length : Int) - 1, b.line, (firstOr (pre ++ [b])).line⟩ := by
        rw [placed, if_neg hne, if_pos h46, hlo]
      rw [hpl]
      refine ⟨hl, ht, fun hn => ?_, fun h7 => ?_, fun h6 => ?_, ?_⟩
      · show ((firstOr (pre ++ [b])).line : Int) = _
        rw [hh1 (fun e => hn (Or.inr (Or.inr (Or.inr e))))]
      · show (b.line : Int) = _
        rw [hop1]
      · show (b.line : Int) = _
        rw [hop1]
      · show ((pre ++ [b]).length : Int) - 1 = _
        rw [if_pos (h46.imp i6.mpr i7.mpr), hcl]
    · have hpl : placed (pre ++ [b]) p = ⟨p.toks, p.form, (pre ++ [b]).length, p.opener, (firstOr (pre ++ [b])).line⟩ := by
        rw [placed, if_neg hne, if_neg h46]
      rw [hpl]
      refine ⟨hl, ht, fun hn => ?_, fun h7 => ?_, fun h6 => ?_, ?_⟩
      · show ((firstOr (pre ++ [b])).line : Int) = _
        rw [hh1 (fun e => hn (Or.inr (Or.inr (Or.inr e))))]
      · exact absurd (Or.inr (i7.mp h7)) h46
      · exact absurd (Or.inl (i6.mp h6)) h46
      · show ((pre ++ [b]).length : Int) = _
        rw [if_neg (fun e => h46 (e.imp i6.mp i7.mp)), hcl]
def NestOut (ls : List (List ByteArray)) (k : Nat) (acc : List PL) (Z : Nat × List PL × List Blk) (X : Nat) : Prop :=
  (Z.1 = 0 ∧ Z.2.2 = [] ∧ X = 0 ∧ ∃ ps, Z.2.1 = acc ++ ps ∧ LN ls k ps (ls.drop k)) ∨ (Z.1 = 0 ∧ ¬ Z.2.2 = [] ∧ X = ls.length) ∨ (¬ Z.1 = 0 ∧ X = Z.1)
theorem nest_eq {ls : List (List ByteArray)} : ∀ (rem : List PL) (k : Nat) (bs : List Blk) (acc : List PL) (op sp : List Nat), LR Rel0 rem (ls.drop k) → SR ls k bs op sp → k ≤ ls.length →
    NestOut ls k acc (Rt.nestFrom rem (k + 1) bs acc) (nestFrom ls (ls.drop k) k op sp)
  | [], k, bs, acc, op, sp, hr, hs, hkl => by
    have hk : ls.drop k = [] := by
      generalize ls.drop k = d at hr
      cases hr
      rfl
    have hkn : k = ls.length := by
      have := congrArg List.length hk
      simp at this; omega
    rw [hk]
    by_cases hb : bs = []
    · refine Or.inl ⟨rfl, hb, ?_, [], by simp [Rt.nestFrom], by rw [hk]; exact .nil k⟩
      rw [nestFrom, if_pos (by rw [hs.opE, hb]; rfl)]
    · refine Or.inr (Or.inl ⟨rfl, hb, ?_⟩)
      rw [nestFrom, if_neg (by rw [hs.opE]; simpa using hb), hkn]
  | p :: rem, k, bs, acc, op, sp, hr, hs, hkl => by
    have hk : k < ls.length := by
      have := hr.len
      simp at this; omega
    have hdrop := List.drop_eq_getElem_cons hk
    rw [hdrop] at hr
    cases hr with
    | cons _ _ _ _ hp hr =>
    have hf := kind_hf hp.1
    obtain ⟨i0, i1, i2, i3, i4, i5, i6, i7⟩ := idx_cases p.form.kind
    have hol : op.length = bs.length := by rw [hs.opE]; simp
    have fault : adm bs p.form.kind = false → NestOut ls k acc (Rt.nestFrom (p :: rem) (k + 1) bs acc) (k + 1) := by
      intro ha
      rw [Rt.nestFrom, if_neg (by rw [ha]; simp)]
      exact Or.inr (Or.inr ⟨by simp, rfl⟩)
    have go : ∀ op' sp', adm bs p.form.kind = true → SR ls (k + 1) (passed bs (k + 1) p.form.kind) op' sp' → NestOut ls k acc (Rt.nestFrom (p :: rem) (k + 1) bs acc) (nestFrom ls (ls.drop (k + 1)) (k + 1) op' sp') := by
      intro op' sp' ha hs'
      have hrel := placed_rel hs hk hp ha
      rw [Rt.nestFrom, if_pos ha]
      rcases nest_eq rem (k + 1) _ (acc ++ [placed bs p]) op' sp' hr hs' hk with ⟨a1, a2, a3, ps, a4, a5⟩ | a | a
      · exact Or.inl ⟨a1, a2, a3, placed bs p :: ps, by rw [a4]; simp, by rw [hdrop]; exact .cons k _ _ _ _ hrel a5⟩
      · exact Or.inr (Or.inl a)
      · exact Or.inr (Or.inr a)
    rw [nest_i hk hf]
    by_cases e0 : p.form.kind = 0
    · have ha : adm bs p.form.kind = true := by rw [adm, if_pos e0]
      have hpa : passed bs (k + 1) p.form.kind = bs := by simp [passed, e0]
      have h0 := i0.mpr e0
      rw [if_pos h0]
      exact go op sp ha (by rw [hpa]; exact hs.same hk hf (by omega) (by omega))
    rw [if_neg (fun e => e0 (i0.mp e))]
    by_cases et : p.form.kind = 1 ∨ p.form.kind = 2 ∨ p.form.kind = 3
    · have ei : idx p.form.kind = 1 ∨ idx p.form.kind = 2 ∨ idx p.form.kind = 3 := et.imp i1.mpr (Or.imp i2.mpr i3.mpr)
      by_cases hb : bs = []
      · have ha : adm bs p.form.kind = true := by rw [adm, if_neg e0, if_pos et]; simp [hb]
        rw [if_neg (by rw [hol, hb]; simp [ei])]
        by_cases e3 : p.form.kind = 3
        · have h3 := i3.mpr e3
          have hpa : passed bs (k + 1) p.form.kind = bs ++ [⟨k + 1, 3, false⟩] := by simp [passed, e3]
          rw [if_pos (Or.inl h3)]
          refine go (op ++ [k + 1]) sp ha ?_
          rw [hpa]
          exact hs.push hk hf (Or.inl h3) ⟨fun _ => hb, fun _ => h3⟩ ⟨fun e => by omega, fun e => by omega⟩
        · have hpa : passed bs (k + 1) p.form.kind = bs := by
            rw [passed, if_neg (by omega), if_neg (by omega), if_neg (by omega)]
          have n3 : ¬ (idx p.form.kind = 3 ∨ idx p.form.kind = 4 ∨ idx p.form.kind = 5) := by omega
          have n6 : ¬ idx p.form.kind = 6 := by omega
          have n7 : ¬ idx p.form.kind = 7 := by omega
          rw [if_neg n3, if_neg n6, if_neg n7]
          refine go op sp ha ?_
          rw [hpa]
          exact hs.same hk hf n3 n7
      · have ha : adm bs p.form.kind = false := by rw [adm, if_neg e0, if_pos et]; simp [hb]
        have : ¬ op.length = 0 := by rw [hol]; simpa using hb
        rw [if_pos (by simp [ei, this])]
        exact fault ha
    · have ni : ¬ (idx p.form.kind = 1 ∨ idx p.form.kind = 2 ∨ idx p.form.kind = 3) := fun e => et (e.imp i1.mp (Or.imp i2.mp i3.mp))
      rcases blk_snoc bs with rfl | ⟨pre, b, rfl⟩
      · have ha : adm [] p.form.kind = false := by rw [adm, if_neg e0, if_neg et, if_pos rfl]
        have : op.length = 0 := by rw [hol]; rfl
        rw [if_pos (by simp [ni, this])]
        exact fault ha
      · have hne : ¬ (pre ++ [b]) = [] := by simp
        have hlo := lastOr_snoc' pre b
        have nol : ¬ op.length = 0 := by rw [hol]; simp
        rw [if_neg (by simp [ni, nol])]
        have n3 : ¬ p.form.kind = 3 := fun e => et (Or.inr (Or.inr e))
        by_cases e57 : p.form.kind = 5 ∨ p.form.kind = 7
        · have ha : adm (pre ++ [b]) p.form.kind = true := by rw [adm, if_neg e0, if_neg et, if_neg hne, if_neg (by omega)]
          have hi : idx p.form.kind = 3 ∨ idx p.form.kind = 4 ∨ idx p.form.kind = 5 := Or.inr (e57.imp i4.mpr i5.mpr)
          have hpa : passed (pre ++ [b]) (k + 1) p.form.kind = (pre ++ [b]) ++ [⟨k + 1, p.form.kind, false⟩] := by rw [passed, if_pos (Or.inr e57)]
          rw [if_pos hi]
          refine go (op ++ [k + 1]) sp ha ?_
          rw [hpa]
          exact hs.push hk hf hi ⟨fun e => absurd (i3.mp e) n3, fun e => absurd e hne⟩ i4
        · have ni3 : ¬ (idx p.form.kind = 3 ∨ idx p.form.kind = 4 ∨ idx p.form.kind = 5) := by
            rintro (e | e | e)
            · exact n3 (i3.mp e)
            · exact e57 (Or.inl (i4.mp e))
            · exact e57 (Or.inr (i5.mp e))
          rw [if_neg ni3]
          by_cases e6 : p.form.kind = 6
          · have h6 := i6.mpr e6
            rw [if_pos h6]
            have hop : lastN op = b.line := by rw [hs.opE]; simp [lastN]
            have hkb := hs.kind b (by simp)
            have had : adm (pre ++ [b]) p.form.kind = (decide (b.kind = 5) && !b.els) := by rw [adm, if_neg e0, if_neg et, if_neg hne, if_pos e6, hlo]
            have hpa : passed (pre ++ [b]) (k + 1) p.form.kind = pre ++ [⟨b.line, b.kind, true⟩] := by
              rw [passed, if_neg (by omega), if_pos e6, if_neg hne, hlo]; simp
            by_cases hc : b.kind = 5 ∧ b.els = false
            · have ha : adm (pre ++ [b]) p.form.kind = true := by rw [had]; simp [hc.1, hc.2]
              rw [if_neg]
              · refine go op (sp ++ [lastN op]) ha ?_
                rw [hpa]; exact hs.els hk hf h6 hc.2
              · rintro (h | h)
                · rw [hop, hkb] at h; simp [hc.1] at h
                · have := hs.spent.mp h; rw [hc.2] at this; cases this
            · have ha : adm (pre ++ [b]) p.form.kind = false := by
                rw [had]
                cases hb : b.els with
                | true => simp
                | false =>
                  have : ¬ b.kind = 5 := fun e => hc ⟨e, hb⟩
                  simp [this]
              rw [if_pos]
              · exact fault ha
              · by_cases h5 : b.kind = 5
                · refine Or.inr (hs.spent.mpr ?_)
                  cases hb : b.els with
                  | true => rfl
                  | false => exact absurd ⟨h5, hb⟩ hc
                · refine Or.inl ?_
                  rw [hop, hkb]; simp [h5]
          · rw [if_neg (fun e => e6 (i6.mp e))]
            have ha : adm (pre ++ [b]) p.form.kind = true := by rw [adm, if_neg e0, if_neg et, if_neg hne, if_neg e6]
            by_cases e4 : p.form.kind = 4
            · have h7 := i7.mpr e4
              have hpa : passed (pre ++ [b]) (k + 1) p.form.kind = pre := by
                rw [passed, if_neg (by omega), if_neg e6, if_pos e4]; simp
              rw [if_pos h7]
              refine go _ _ ha ?_
              rw [hpa]
              exact hs.pop hk hf h7
            · have hpa : passed (pre ++ [b]) (k + 1) p.form.kind = pre ++ [b] := by
                rw [passed, if_neg (by omega), if_neg e6, if_neg e4]
              have n7 : ¬ idx p.form.kind = 7 := fun e => e4 (i7.mp e)
              rw [if_neg n7]
              refine go op sp ha ?_
              rw [hpa]
              exact hs.same hk hf ni3 n7
end Rf
end Go.Proofs.YthleadfkfnnadaaGreat
