/- Both readings of a source's lines agree. -/
import Derived.Test.YtopeochnoefgcaaGreatEqv8
import Derived.Test.YtopeochnoefgcaaGreatBase
import Derived.Test.YtopeochnoefgcaaGreatRefM
namespace Go.Proofs.YtopeochnoefgcaaGreat
namespace Rf
open Rt

/-- Lines of the program and lines of the document's answer, one by one. -/
inductive LR (R : PL → List ByteArray → Prop) : List PL → List (List ByteArray) → Prop
  | nil : LR R [] []
  | cons (p : PL) (t : List ByteArray) (ps : List PL) (ls : List (List ByteArray)) : R p t → LR R ps ls → LR R (p :: ps) (t :: ls)
theorem LR.len {R : PL → List ByteArray → Prop} {ps : List PL} {ls : List (List ByteArray)} (h : LR R ps ls) : ps.length = ls.length := by
  induction h with
  | nil => rfl
  | cons p t ps ls _ _ ih => simp [ih]
theorem LR.snoc {R : PL → List ByteArray → Prop} {ps : List PL} {ls : List (List ByteArray)} (h : LR R ps ls) {p : PL} {t : List ByteArray} (hp : R p t) : LR R (ps ++ [p]) (ls ++ [t]) := by
  induction h with
  | nil => exact .cons p t [] [] hp .nil
  | cons q u ps ls hq _ ih => exact .cons q u _ _ hq ih
/-- A line that has been read, not yet placed. -/
def Rel0 (p : PL) (t : List ByteArray) : Prop := LineIs t p.form ∧ tx p.toks = t ∧ p.depth = 0 ∧ p.opener = 0 ∧ p.proc = 0
theorem forms_eq : ∀ (texts : List ByteArray) (i : Nat) (acc : List PL) (al : List (List ByteArray)), (∀ s ∈ texts, s.size ≤ 40000) → LR Rel0 acc al →
    (rForms i texts (zPL :: acc)).1 = (formsFrom i texts al).1 ∧ ((rForms i texts (zPL :: acc)).1 = 0 → ∃ ps, (rForms i texts (zPL :: acc)).2 = zPL :: ps ∧ LR Rel0 ps (formsFrom i texts al).2)
  | [], i, acc, al, _, h => ⟨rfl, fun _ => ⟨acc, rfl, h⟩⟩
  | s :: r, i, acc, al, hs, h => by
    rw [rForms, formsFrom, rdLine]
    cases ht : toks s with
    | none => exact ⟨rfl, fun h => by simp at h⟩
    | some ts =>
      have hok := toks_ok ht
      have hl := (toks_facts (hs s (by simp)) ht).1
      simp only
      cases hp : pLineAll ts with
      | none =>
        have : isLine (tx ts) = false := by
          cases hi : isLine (tx ts) with
          | false => rfl
          | true =>
            obtain ⟨fm, hf⟩ := line_comp hok hl hi
            rw [hp] at hf
            cases hf
        rw [if_neg (by rw [this]; simp)]
        exact ⟨rfl, fun h => by simp at h⟩
      | some fm =>
        have hli := line_sound hok hp
        rw [if_pos (is_line hli)]
        have := forms_eq r (i + 1) (acc ++ [⟨ts, fm, 0, 0, 0⟩]) (al ++ [tx ts]) (fun x hx => hs x (by simp [hx])) (h.snoc ⟨hli, rfl, rfl, rfl, rfl⟩)
        exact this

/-- Which of the words that blocks hang on a kind of line begins with. -/
def idx (k : Int) : Nat := if k = 0 then 0 else if k = 1 then 1 else if k = 2 then 2 else if k = 3 then 3 else if k = 5 then 4 else if k = 7 then 5 else if k = 6 then 6 else if k = 4 then 7 else 8
theorem hf_lit (l : List UInt8) (i : Nat) (h : ((l == []) = decide (i = 0)) ∧ (l == [118, 97, 114]) = decide (i = 1) ∧ (l == [97, 114, 114, 97, 121]) = decide (i = 2) ∧ (l == [112, 114, 111, 99]) = decide (i = 3) ∧
  (l == [105, 102]) = decide (i = 4) ∧ (l == [119, 104, 105, 108, 101]) = decide (i = 5) ∧ (l == [101, 108, 115, 101]) = decide (i = 6) ∧ (l == [101, 110, 100]) = decide (i = 7)) : HF ⟨l.toArray⟩ i := by
  unfold HF
  rw [toList_lit]
  exact h
theorem kind_hf {t : List ByteArray} {fm : PForm} (h : LineIs t fm) : HF (first t) (idx fm.kind) := by
  cases h with
  | empty => exact hf_lit [] 0 (by decide)
  | var x hx => exact hf_lit [118, 97, 114] 1 (by decide)
  | array x n hx hn h1 h2 => exact hf_lit [97, 114, 114, 97, 121] 2 (by decide)
  | proc x ps hx hps hl => exact hf_lit [112, 114, 111, 99] 3 (by decide)
  | end_ => exact hf_lit [101, 110, 100] 7 (by decide)
  | if_ p e he => exact hf_lit [105, 102] 4 (by decide)
  | else_ => exact hf_lit [101, 108, 115, 101] 6 (by decide)
  | while_ p e he => exact hf_lit [119, 104, 105, 108, 101] 5 (by decide)
  | set1 x p e hx he => exact hf_lit [115, 101, 116] 8 (by decide)
  | set2 x q i p e hx hi he => exact hf_lit [115, 101, 116] 8 (by decide)
  | print p e he => exact hf_lit [112, 114, 105, 110, 116] 8 (by decide)
  | read x hx => exact hf_lit [114, 101, 97, 100] 8 (by decide)
  | call x args vs hx hv => exact hf_lit [99, 97, 108, 108] 8 (by decide)
  | return_ => exact hf_lit [114, 101, 116, 117, 114, 110] 8 (by decide)

end Rf
end Go.Proofs.YtopeochnoefgcaaGreat

namespace Go.Proofs.YtopeochnoefgcaaGreat
namespace Rf
open Rt

theorem idx_cases (k : Int) : (idx k = 0 ↔ k = 0) ∧ (idx k = 1 ↔ k = 1) ∧ (idx k = 2 ↔ k = 2) ∧ (idx k = 3 ↔ k = 3) ∧ (idx k = 4 ↔ k = 5) ∧ (idx k = 5 ↔ k = 7) ∧ (idx k = 6 ↔ k = 6) ∧ (idx k = 7 ↔ k = 4) := by
  unfold idx
  by_cases h0 : k = 0
  · subst h0; decide
  by_cases h1 : k = 1
  · subst h1; decide
  by_cases h2 : k = 2
  · subst h2; decide
  by_cases h3 : k = 3
  · subst h3; decide
  by_cases h5 : k = 5
  · subst h5; decide
  by_cases h7 : k = 7
  · subst h7; decide
  by_cases h6 : k = 6
  · subst h6; decide
  by_cases h4 : k = 4
  · subst h4; decide
  simp [h0, h1, h2, h3, h4, h5, h6, h7]

/-- How many blocks are open ahead of line k (counted from 0). -/
def cnt (ls : List (List ByteArray)) : Nat → Int
  | 0 => 0
  | k + 1 => cnt ls k + (if opensB (lineAt ls k) = true then 1 else 0) - (if ((first (lineAt ls k)).toList == [101, 110, 100]) = true then 1 else 0)
theorem cnt_i {ls : List (List ByteArray)} {k i : Nat} (h : k < ls.length) (hf : HF (first ls[k]) i) : cnt ls (k + 1) = cnt ls k + (if i = 3 ∨ i = 4 ∨ i = 5 then 1 else 0) - (if i = 7 then 1 else 0) := by
  obtain ⟨f0, f1, f2, f3, f4, f5, f6, f7⟩ := hf
  have ho : (opensB ls[k] = true) ↔ (i = 3 ∨ i = 4 ∨ i = 5) := by
    unfold opensB; rw [f3, f4, f5]; simp [or_assoc]
  rw [cnt, lineAt_lt h, f7]
  simp only [ho, decide_eq_true_eq]
theorem home_i {ls : List (List ByteArray)} {k i : Nat} (h : k < ls.length) (hf : HF (first ls[k]) i) : home ls (k + 1) = if i = 3 then k + 1 else home ls k := by
  rw [home_step, lineAt_lt h, hf.2.2.2.1]
  simp

/-- The blocks that the program holds open, against those of the document's answer. -/
structure SR (ls : List (List ByteArray)) (k : Nat) (bs : List Blk) (op sp : List Nat) : Prop where
  opE : op = bs.map (·.line)
  spE : sp = (bs.filter (·.els)).map (·.line)
  inv : OpInv ls k op
  home : ∀ x, op.head? = some x → home ls k = x
  rng : ∀ b ∈ bs, 1 ≤ b.line ∧ b.line ≤ k
  inc : bs.Pairwise (fun a b => a.line < b.line)
  kind : ∀ b ∈ bs, ((first (lineAt ls (b.line - 1))).toList == [105, 102]) = decide (b.kind = 5)
  cnt : (op.length : Int) = cnt ls k
theorem SR.same {ls : List (List ByteArray)} {k i : Nat} {bs : List Blk} {op sp : List Nat} (h : SR ls k bs op sp) (hk : k < ls.length) (hf : HF (first ls[k]) i) (h1 : ¬ (i = 3 ∨ i = 4 ∨ i = 5)) (h2 : ¬ i = 7) : SR ls (k + 1) bs op sp := by
  refine ⟨h.opE, h.spE, h.inv.same hk hf h1 h2, fun x hx => ?_, fun b hb => by have := h.rng b hb; omega, h.inc, h.kind, ?_⟩
  · rw [home_i hk hf, if_neg (by omega)]; exact h.home x hx
  · rw [cnt_i hk hf, if_neg h1, if_neg h2, h.cnt]; omega
theorem SR.push {ls : List (List ByteArray)} {k i : Nat} {bs : List Blk} {op sp : List Nat} {kd : Int} (h : SR ls k bs op sp) (hk : k < ls.length) (hf : HF (first ls[k]) i) (h1 : i = 3 ∨ i = 4 ∨ i = 5) (h3 : i = 3 ↔ bs = []) (hkd : i = 4 ↔ kd = 5) : SR ls (k + 1) (bs ++ [⟨k + 1, kd, false⟩]) (op ++ [k + 1]) sp := by
  refine ⟨by rw [h.opE]; simp, by rw [h.spE]; simp, h.inv.push hk hf h1, fun x hx => ?_, fun b hb => ?_, ?_, fun b hb => ?_, ?_⟩
  · rw [home_i hk hf]
    by_cases hb : bs = []
    · rw [if_pos (h3.mpr hb)]
      rw [h.opE, hb] at hx
      simpa using hx
    · rw [if_neg (fun e => hb (h3.mp e))]
      refine h.home x ?_
      have hne : op ≠ [] := by rw [h.opE]; simpa using hb
      cases hop : op with
      | nil => exact absurd hop hne
      | cons y r => rw [hop] at hx; simpa using hx
  · simp at hb
    rcases hb with hb | rfl
    · have := h.rng b hb; omega
    · exact ⟨by simp, by simp⟩
  · rw [List.pairwise_append]
    refine ⟨h.inc, by simp, fun a ha b hb => ?_⟩
    simp at hb
    subst hb
    have := h.rng a ha
    show a.line < k + 1
    omega
  · simp at hb
    rcases hb with hb | rfl
    · exact h.kind b hb
    · show ((first (lineAt ls (k + 1 - 1))).toList == [105, 102]) = decide (kd = 5)
      rw [Nat.add_sub_cancel, lineAt_lt hk, hf.2.2.2.2.1, Bool.eq_iff_iff]
      simpa using hkd
  · rw [cnt_i hk hf, if_pos h1, if_neg (by omega), List.length_append, ← h.cnt]
    simp
theorem blk_snoc (bs : List Blk) : bs = [] ∨ ∃ pre b, bs = pre ++ [b] := by
  rcases List.eq_nil_or_concat bs with h | ⟨a, b, h⟩
  · exact Or.inl h
  · exact Or.inr ⟨a, b, by simpa using h⟩
theorem lastOr_snoc' (pre : List Blk) (b : Blk) : lastOr (pre ++ [b]) = b := by simp [lastOr]
/-- The last open block has had its else just where its line is the last of those. -/
theorem SR.spent {ls : List (List ByteArray)} {k : Nat} {pre : List Blk} {b : Blk} {op sp : List Nat} (h : SR ls k (pre ++ [b]) op sp) : (0 < sp.length ∧ lastN sp = lastN op) ↔ b.els = true := by
  have hop : lastN op = b.line := by rw [h.opE]; simp [lastN]
  have hsp := h.spE
  rw [List.filter_append, List.map_append] at hsp
  rw [hop]
  cases hb : b.els with
  | true =>
    simp [hb] at hsp
    rw [hsp]
    simp [lastN]
  | false =>
    simp [hb] at hsp
    constructor
    · rintro ⟨h1, h2⟩
      rcases blk_snoc (pre.filter (·.els)) with he | ⟨p2, c, he⟩
      · rw [hsp, he] at h1; simp at h1
      · rw [hsp, he] at h2
        simp [lastN] at h2
        have hc : c ∈ pre := by
          have : c ∈ pre.filter (·.els) := by rw [he]; simp
          exact (List.mem_filter.mp this).1
        have := (List.pairwise_append.mp h.inc).2.2 c hc b (by simp)
        omega
    · intro h; cases h
theorem SR.els {ls : List (List ByteArray)} {k i : Nat} {pre : List Blk} {b : Blk} {op sp : List Nat} (h : SR ls k (pre ++ [b]) op sp) (hk : k < ls.length) (hf : HF (first ls[k]) i) (h6 : i = 6) (hb : b.els = false) : SR ls (k + 1) (pre ++ [⟨b.line, b.kind, true⟩]) op (sp ++ [lastN op]) := by
  have h' := h.same hk hf (by omega) (by omega)
  have hop : lastN op = b.line := by rw [h.opE]; simp [lastN]
  refine ⟨by rw [h.opE]; simp, ?_, h'.inv, h'.home, fun c hc => ?_, ?_, fun c hc => ?_, h'.cnt⟩
  · rw [hop, h.spE]; simp [hb]
  · simp at hc
    rcases hc with hc | rfl
    · exact h'.rng c (by simp [hc])
    · exact h'.rng b (by simp)
  · have := List.pairwise_append.mp h.inc
    rw [List.pairwise_append]
    refine ⟨this.1, by simp, fun a ha c hc => ?_⟩
    simp at hc
    subst hc
    exact this.2.2 a ha b (by simp)
  · simp at hc
    rcases hc with hc | rfl
    · exact h.kind c (by simp [hc])
    · exact h.kind b (by simp)
theorem SR.pop {ls : List (List ByteArray)} {k i : Nat} {pre : List Blk} {b : Blk} {op sp : List Nat} (h : SR ls k (pre ++ [b]) op sp) (hk : k < ls.length) (hf : HF (first ls[k]) i) (h7 : i = 7) : SR ls (k + 1) pre op.dropLast (if 0 < sp.length ∧ lastN sp = lastN op then sp.dropLast else sp) := by
  have hop : op = pre.map (·.line) ++ [b.line] := by rw [h.opE]; simp
  have hd : op.dropLast = pre.map (·.line) := by rw [hop, List.dropLast_concat]
  have hi := h.inv
  rw [hop] at hi
  refine ⟨hd, ?_, by rw [hd]; exact hi.pop hk hf h7, fun x hx => ?_, fun c hc => by have := h.rng c (by simp [hc]); omega, (List.pairwise_append.mp h.inc).1, fun c hc => h.kind c (by simp [hc]), ?_⟩
  · cases hb : b.els with
    | true =>
      rw [if_pos (h.spent.mpr hb), h.spE]
      simp [hb]
    | false =>
      rw [if_neg (fun e => by have := h.spent.mp e; rw [hb] at this; cases this), h.spE]
      simp [hb]
  · rw [home_i hk hf, if_neg (by omega)]
    refine h.home x ?_
    rw [hd] at hx
    rw [hop]
    cases hp : pre with
    | nil => rw [hp] at hx; simp at hx
    | cons y r => rw [hp] at hx; simpa using hx
  · rw [cnt_i hk hf, if_neg (by omega), if_pos h7, ← h.cnt, hd, hop]
    simp

/-- A line that has been placed. -/
structure RelN (ls : List (List ByteArray)) (l : Nat) (p : PL) (t : List ByteArray) : Prop where
  line : LineIs t p.form
  toks : tx p.toks = t
  proc : ¬ (idx p.form.kind = 0 ∨ idx p.form.kind = 1 ∨ idx p.form.kind = 2 ∨ idx p.form.kind = 3) → p.proc = (home ls (l + 1) : Nat)
  opener : idx p.form.kind = 7 → p.opener = (openerFrom ls l 1 : Nat)
  depth : p.depth = if idx p.form.kind = 6 ∨ idx p.form.kind = 7 then cnt ls l - 1 else cnt ls l
/-- Lines from number k on that have been placed. -/
inductive LN (ls : List (List ByteArray)) : Nat → List PL → List (List ByteArray) → Prop
  | nil (k : Nat) : LN ls k [] []
  | cons (k : Nat) (p : PL) (t : List ByteArray) (ps : List PL) (us : List (List ByteArray)) : RelN ls k p t → LN ls (k + 1) ps us → LN ls k (p :: ps) (t :: us)

theorem placed_rel {ls : List (List ByteArray)} {k : Nat} {bs : List Blk} {op sp : List Nat} {p : PL} (h : SR ls k bs op sp) (hk : k < ls.length) (hp : Rel0 p ls[k]) (had : adm bs p.form.kind = true) : RelN ls k (placed bs p) ls[k] := by
  obtain ⟨hl, ht, hd, ho, hpr⟩ := hp
  have hf := kind_hf hl
  obtain ⟨i0, i1, i2, i3, i4, i5, i6, i7⟩ := idx_cases p.form.kind
  rcases blk_snoc bs with rfl | ⟨pre, b, rfl⟩
  · have hpl : placed [] p = p := by simp [placed]
    have hc : cnt ls k = 0 := by rw [← h.cnt, h.opE]; rfl
    unfold adm at had
    have hk4 : p.form.kind = 0 ∨ p.form.kind = 1 ∨ p.form.kind = 2 ∨ p.form.kind = 3 := by
      by_cases hx : p.form.kind = 0
      · exact Or.inl hx
      · rw [if_neg hx] at had
        by_cases hy : p.form.kind = 1 ∨ p.form.kind = 2 ∨ p.form.kind = 3
        · exact Or.inr hy
        · rw [if_neg hy, if_pos rfl] at had; cases had
    rw [hpl]
    refine ⟨hl, ht, fun hn => ?_, fun h7 => ?_, ?_⟩
    · exfalso; apply hn; rcases hk4 with h | h | h | h
      · exact Or.inl (i0.mpr h)
      · exact Or.inr (Or.inl (i1.mpr h))
      · exact Or.inr (Or.inr (Or.inl (i2.mpr h)))
      · exact Or.inr (Or.inr (Or.inr (i3.mpr h)))
    · have := i7.mp h7; omega
    · rw [hd, hc, if_neg]
      rintro (h | h)
      · have := i6.mp h; omega
      · have := i7.mp h; omega
  · have hne : ¬ (pre ++ [b]) = [] := by simp
    have hop : op = pre.map (·.line) ++ [b.line] := by rw [h.opE]; simp
    have hlo := lastOr_snoc' pre b
    have hcl : ((pre ++ [b]).length : Int) = cnt ls k := by rw [← h.cnt, h.opE]; simp
    have hop1 : openerFrom ls k 1 = b.line := h.inv (pre.map (·.line)) b.line [] (by rw [hop])
    have hhome : home ls k = (firstOr (pre ++ [b])).line := by
      refine h.home _ ?_
      rw [h.opE]
      cases pre with
      | nil => simp [firstOr]
      | cons c r => simp [firstOr]
    have hh1 : ¬ idx p.form.kind = 3 → home ls (k + 1) = (firstOr (pre ++ [b])).line := fun hn => by rw [home_i hk hf, if_neg hn]; exact hhome
    by_cases h46 : p.form.kind = 6 ∨ p.form.kind = 4
    · have hpl : placed (pre ++ [b]) p = ⟨p.toks, p.form, ((pre ++ [b]).length : Int) - 1, b.line, (firstOr (pre ++ [b])).line⟩ := by
        rw [placed, if_neg hne, if_pos h46, hlo]
      rw [hpl]
      refine ⟨hl, ht, fun hn => ?_, fun h7 => ?_, ?_⟩
      · show ((firstOr (pre ++ [b])).line : Int) = _
        rw [hh1 (fun e => hn (Or.inr (Or.inr (Or.inr e))))]
      · show (b.line : Int) = _
        rw [hop1]
      · show ((pre ++ [b]).length : Int) - 1 = _
        rw [if_pos (h46.imp i6.mpr i7.mpr), hcl]
    · have hpl : placed (pre ++ [b]) p = ⟨p.toks, p.form, (pre ++ [b]).length, p.opener, (firstOr (pre ++ [b])).line⟩ := by
        rw [placed, if_neg hne, if_neg h46]
      rw [hpl]
      refine ⟨hl, ht, fun hn => ?_, fun h7 => ?_, ?_⟩
      · show ((firstOr (pre ++ [b])).line : Int) = _
        rw [hh1 (fun e => hn (Or.inr (Or.inr (Or.inr e))))]
      · exact absurd (Or.inr (i7.mp h7)) h46
      · show ((pre ++ [b]).length : Int) = _
        rw [if_neg (fun e => h46 (e.imp i6.mp i7.mp)), hcl]

/-- What the two nestings come to. -/
def NestOut (ls : List (List ByteArray)) (k : Nat) (acc : List PL) (Z : Nat × List PL × List Blk) (X : Nat) : Prop :=
  (Z.1 = 0 ∧ Z.2.2 = [] ∧ X = 0 ∧ ∃ ps, Z.2.1 = acc ++ ps ∧ LN ls k ps (ls.drop k)) ∨ (Z.1 = 0 ∧ ¬ Z.2.2 = [] ∧ X = ls.length) ∨ (¬ Z.1 = 0 ∧ X = Z.1)
theorem nest_eq {ls : List (List ByteArray)} : ∀ (rem : List PL) (k : Nat) (bs : List Blk) (acc : List PL) (op sp : List Nat), LR Rel0 rem (ls.drop k) → SR ls k bs op sp → k ≤ ls.length →
    NestOut ls k acc (Rt.nestFrom rem (k + 1) bs acc) (nestFrom ls (ls.drop k) k op sp)
  | [], k, bs, acc, op, sp, hr, hs, hkl => by
    have hk : ls.drop k = [] := by
      generalize ls.drop k = d at hr
      cases hr
      rfl
    have hkn : k = ls.length := by
      have := congrArg List.length hk
      simp at this; omega
    rw [hk]
    by_cases hb : bs = []
    · refine Or.inl ⟨rfl, hb, ?_, [], by simp [Rt.nestFrom], by rw [hk]; exact .nil k⟩
      rw [nestFrom, if_pos (by rw [hs.opE, hb]; rfl)]
    · refine Or.inr (Or.inl ⟨rfl, hb, ?_⟩)
      rw [nestFrom, if_neg (by rw [hs.opE]; simpa using hb), hkn]
  | p :: rem, k, bs, acc, op, sp, hr, hs, hkl => by
    have hk : k < ls.length := by
      have := hr.len
      simp at this; omega
    have hdrop := List.drop_eq_getElem_cons hk
    rw [hdrop] at hr
    cases hr with
    | cons _ _ _ _ hp hr =>
    have hf := kind_hf hp.1
    obtain ⟨i0, i1, i2, i3, i4, i5, i6, i7⟩ := idx_cases p.form.kind
    have hol : op.length = bs.length := by rw [hs.opE]; simp
    have fault : adm bs p.form.kind = false → NestOut ls k acc (Rt.nestFrom (p :: rem) (k + 1) bs acc) (k + 1) := by
      intro ha
      rw [Rt.nestFrom, if_neg (by rw [ha]; simp)]
      exact Or.inr (Or.inr ⟨by simp, rfl⟩)
    have go : ∀ op' sp', adm bs p.form.kind = true → SR ls (k + 1) (passed bs (k + 1) p.form.kind) op' sp' → NestOut ls k acc (Rt.nestFrom (p :: rem) (k + 1) bs acc) (nestFrom ls (ls.drop (k + 1)) (k + 1) op' sp') := by
      intro op' sp' ha hs'
      have hrel := placed_rel hs hk hp ha
      rw [Rt.nestFrom, if_pos ha]
      rcases nest_eq rem (k + 1) _ (acc ++ [placed bs p]) op' sp' hr hs' hk with ⟨a1, a2, a3, ps, a4, a5⟩ | a | a
      · exact Or.inl ⟨a1, a2, a3, placed bs p :: ps, by rw [a4]; simp, by rw [hdrop]; exact .cons k _ _ _ _ hrel a5⟩
      · exact Or.inr (Or.inl a)
      · exact Or.inr (Or.inr a)
    rw [nest_i hk hf]
    by_cases e0 : p.form.kind = 0
    · have ha : adm bs p.form.kind = true := by rw [adm, if_pos e0]
      have hpa : passed bs (k + 1) p.form.kind = bs := by simp [passed, e0]
      have h0 := i0.mpr e0
      rw [if_pos h0]
      exact go op sp ha (by rw [hpa]; exact hs.same hk hf (by omega) (by omega))
    rw [if_neg (fun e => e0 (i0.mp e))]
    by_cases et : p.form.kind = 1 ∨ p.form.kind = 2 ∨ p.form.kind = 3
    · have ei : idx p.form.kind = 1 ∨ idx p.form.kind = 2 ∨ idx p.form.kind = 3 := et.imp i1.mpr (Or.imp i2.mpr i3.mpr)
      by_cases hb : bs = []
      · have ha : adm bs p.form.kind = true := by rw [adm, if_neg e0, if_pos et]; simp [hb]
        rw [if_neg (by rw [hol, hb]; simp [ei])]
        by_cases e3 : p.form.kind = 3
        · have h3 := i3.mpr e3
          have hpa : passed bs (k + 1) p.form.kind = bs ++ [⟨k + 1, 3, false⟩] := by simp [passed, e3]
          rw [if_pos (Or.inl h3)]
          refine go (op ++ [k + 1]) sp ha ?_
          rw [hpa]
          exact hs.push hk hf (Or.inl h3) ⟨fun _ => hb, fun _ => h3⟩ ⟨fun e => by omega, fun e => by omega⟩
        · have hpa : passed bs (k + 1) p.form.kind = bs := by
            rw [passed, if_neg (by omega), if_neg (by omega), if_neg (by omega)]
          have n3 : ¬ (idx p.form.kind = 3 ∨ idx p.form.kind = 4 ∨ idx p.form.kind = 5) := by omega
          have n6 : ¬ idx p.form.kind = 6 := by omega
          have n7 : ¬ idx p.form.kind = 7 := by omega
          rw [if_neg n3, if_neg n6, if_neg n7]
          refine go op sp ha ?_
          rw [hpa]
          exact hs.same hk hf n3 n7
      · have ha : adm bs p.form.kind = false := by rw [adm, if_neg e0, if_pos et]; simp [hb]
        have : ¬ op.length = 0 := by rw [hol]; simpa using hb
        rw [if_pos (by simp [ei, this])]
        exact fault ha
    · have ni : ¬ (idx p.form.kind = 1 ∨ idx p.form.kind = 2 ∨ idx p.form.kind = 3) := fun e => et (e.imp i1.mp (Or.imp i2.mp i3.mp))
      rcases blk_snoc bs with rfl | ⟨pre, b, rfl⟩
      · have ha : adm [] p.form.kind = false := by rw [adm, if_neg e0, if_neg et, if_pos rfl]
        have : op.length = 0 := by rw [hol]; rfl
        rw [if_pos (by simp [ni, this])]
        exact fault ha
      · have hne : ¬ (pre ++ [b]) = [] := by simp
        have hlo := lastOr_snoc' pre b
        have nol : ¬ op.length = 0 := by rw [hol]; simp
        rw [if_neg (by simp [ni, nol])]
        have n3 : ¬ p.form.kind = 3 := fun e => et (Or.inr (Or.inr e))
        by_cases e57 : p.form.kind = 5 ∨ p.form.kind = 7
        · have ha : adm (pre ++ [b]) p.form.kind = true := by rw [adm, if_neg e0, if_neg et, if_neg hne, if_neg (by omega)]
          have hi : idx p.form.kind = 3 ∨ idx p.form.kind = 4 ∨ idx p.form.kind = 5 := Or.inr (e57.imp i4.mpr i5.mpr)
          have hpa : passed (pre ++ [b]) (k + 1) p.form.kind = (pre ++ [b]) ++ [⟨k + 1, p.form.kind, false⟩] := by rw [passed, if_pos (Or.inr e57)]
          rw [if_pos hi]
          refine go (op ++ [k + 1]) sp ha ?_
          rw [hpa]
          exact hs.push hk hf hi ⟨fun e => absurd (i3.mp e) n3, fun e => absurd e hne⟩ i4
        · have ni3 : ¬ (idx p.form.kind = 3 ∨ idx p.form.kind = 4 ∨ idx p.form.kind = 5) := by
            rintro (e | e | e)
            · exact n3 (i3.mp e)
            · exact e57 (Or.inl (i4.mp e))
            · exact e57 (Or.inr (i5.mp e))
          rw [if_neg ni3]
          by_cases e6 : p.form.kind = 6
          · have h6 := i6.mpr e6
            rw [if_pos h6]
            have hop : lastN op = b.line := by rw [hs.opE]; simp [lastN]
            have hkb := hs.kind b (by simp)
            have had : adm (pre ++ [b]) p.form.kind = (decide (b.kind = 5) && !b.els) := by rw [adm, if_neg e0, if_neg et, if_neg hne, if_pos e6, hlo]
            have hpa : passed (pre ++ [b]) (k + 1) p.form.kind = pre ++ [⟨b.line, b.kind, true⟩] := by
              rw [passed, if_neg (by omega), if_pos e6, if_neg hne, hlo]; simp
            by_cases hc : b.kind = 5 ∧ b.els = false
            · have ha : adm (pre ++ [b]) p.form.kind = true := by rw [had]; simp [hc.1, hc.2]
              rw [if_neg]
              · refine go op (sp ++ [lastN op]) ha ?_
                rw [hpa]; exact hs.els hk hf h6 hc.2
              · rintro (h | h)
                · rw [hop, hkb] at h; simp [hc.1] at h
                · have := hs.spent.mp h; rw [hc.2] at this; cases this
            · have ha : adm (pre ++ [b]) p.form.kind = false := by
                rw [had]
                cases hb : b.els with
                | true => simp
                | false =>
                  have : ¬ b.kind = 5 := fun e => hc ⟨e, hb⟩
                  simp [this]
              rw [if_pos]
              · exact fault ha
              · by_cases h5 : b.kind = 5
                · refine Or.inr (hs.spent.mpr ?_)
                  cases hb : b.els with
                  | true => rfl
                  | false => exact absurd ⟨h5, hb⟩ hc
                · refine Or.inl ?_
                  rw [hop, hkb]; simp [h5]
          · rw [if_neg (fun e => e6 (i6.mp e))]
            have ha : adm (pre ++ [b]) p.form.kind = true := by rw [adm, if_neg e0, if_neg et, if_neg hne, if_neg e6]
            by_cases e4 : p.form.kind = 4
            · have h7 := i7.mpr e4
              have hpa : passed (pre ++ [b]) (k + 1) p.form.kind = pre := by
                rw [passed, if_neg (by omega), if_neg e6, if_pos e4]; simp
              rw [if_pos h7]
              refine go _ _ ha ?_
              rw [hpa]
              exact hs.pop hk hf h7
            · have hpa : passed (pre ++ [b]) (k + 1) p.form.kind = pre ++ [b] := by
                rw [passed, if_neg (by omega), if_neg e6, if_neg e4]
              have n7 : ¬ idx p.form.kind = 7 := fun e => e4 (i7.mp e)
              rw [if_neg n7]
              refine go op sp ha ?_
              rw [hpa]
              exact hs.same hk hf ni3 n7

end Rf
end Go.Proofs.YtopeochnoefgcaaGreat

namespace Go.Proofs.YtopeochnoefgcaaGreat
namespace Rf
open Rt

theorem LN.len {ls : List (List ByteArray)} {k : Nat} {ps : List PL} {us : List (List ByteArray)} (h : LN ls k ps us) : ps.length = us.length := by
  induction h with
  | nil => rfl
  | cons k p t ps us _ _ ih => simp [ih]
theorem LN.get {ls : List (List ByteArray)} {k : Nat} {ps : List PL} {us : List (List ByteArray)} (h : LN ls k ps us) : ∀ j (h1 : j < ps.length) (h2 : j < us.length), RelN ls (k + j) ps[j] us[j] := by
  induction h with
  | nil => intro j h1; simp at h1
  | cons k p t ps us hp _ ih =>
    intro j h1 h2
    cases j with
    | zero => exact hp
    | succ j =>
      have := ih j (by simpa using h1) (by simpa using h2)
      rw [show k + 1 + j = k + (j + 1) by omega] at this
      exact this
theorem top_idx {t : List ByteArray} {i : Nat} (hf : HF (first t) i) : topB t = decide (i = 1 ∨ i = 2 ∨ i = 3) := by
  obtain ⟨f0, f1, f2, f3, _⟩ := hf
  unfold topB; rw [f1, f2, f3, Bool.eq_iff_iff]; simp [or_assoc]
theorem decl_name {t : List ByteArray} {fm : PForm} (h : LineIs t fm) (hk : fm.kind = 1 ∨ fm.kind = 2 ∨ fm.kind = 3) : at' t 1 = fm.name := by
  cases h with
  | var x hx => rfl
  | array x n hx hn h1 h2 => rfl
  | proc x ps hx hps hl => rfl
  | _ => simp at hk
theorem decl_rel {p : PL} {t : List ByteArray} (h : LineIs t p.form) (x : ByteArray) : isDecl p x = declAt t x := by
  obtain ⟨i0, i1, i2, i3, i4, i5, i6, i7⟩ := idx_cases p.form.kind
  rw [isDecl, declAt, top_idx (kind_hf h)]
  by_cases hk : p.form.kind = 1 ∨ p.form.kind = 2 ∨ p.form.kind = 3
  · have hi : idx p.form.kind = 1 ∨ idx p.form.kind = 2 ∨ idx p.form.kind = 3 := hk.imp i1.mpr (Or.imp i2.mpr i3.mpr)
    rw [decl_name h hk, str_eq, decide_eq_true hi]
    rcases hk with hk | hk | hk <;> simp [hk]
  · have hi : ¬ (idx p.form.kind = 1 ∨ idx p.form.kind = 2 ∨ idx p.form.kind = 3) := fun e => hk (e.imp i1.mp (Or.imp i2.mp i3.mp))
    rw [decide_eq_false hi]
    have a1 : ¬ p.form.kind = 1 := fun e => hk (Or.inl e)
    have a2 : ¬ p.form.kind = 2 := fun e => hk (Or.inr (Or.inl e))
    have a3 : ¬ p.form.kind = 3 := fun e => hk (Or.inr (Or.inr e))
    simp [a1, a2, a3]
theorem decl_eq {ls : List (List ByteArray)} {k : Nat} {ps : List PL} {us : List (List ByteArray)} (h : LN ls k ps us) (x : ByteArray) : ∀ n, Rt.declFrom n ps x = declFrom n us x := by
  induction h with
  | nil => intro n; rfl
  | cons k p t ps us hp _ ih =>
    intro n
    rw [Rt.declFrom, declFrom, decl_rel hp.line, ih]

/-- A source that has been read by both, up to its names. -/
structure Both (pls : List PL) (ls : List (List ByteArray)) : Prop where
  ex : ∃ ps, pls = zPL :: ps ∧ LN ls 0 ps ls
  nested : nested ls = 0
theorem Both.len {pls : List PL} {ls : List (List ByteArray)} (h : Both pls ls) : pls.length = ls.length + 1 := by
  obtain ⟨ps, rfl, h1⟩ := h.ex
  simp [h1.len]
theorem Both.get {pls : List PL} {ls : List (List ByteArray)} (h : Both pls ls) {l : Nat} (hl : l < ls.length) : ∃ p, pls[l + 1]? = some p ∧ RelN ls l p ls[l] := by
  obtain ⟨ps, rfl, h1⟩ := h.ex
  have := h1.len
  refine ⟨ps[l]'(by omega), by simp, ?_⟩
  have := h1.get l (by omega) hl
  simpa using this
theorem Both.declE {pls : List PL} {ls : List (List ByteArray)} (h : Both pls ls) (x : ByteArray) : declP pls x = decl ls x := by
  obtain ⟨ps, rfl, h1⟩ := h.ex
  exact decl_eq h1 x 1
theorem Both.form0 {pls : List PL} {ls : List (List ByteArray)} (h : Both pls ls) : formAt pls (0 : Nat) = zF := by
  obtain ⟨ps, rfl, h1⟩ := h.ex
  rfl
theorem Both.form {pls : List PL} {ls : List (List ByteArray)} (h : Both pls ls) {l : Nat} (hl : l < ls.length) : LineIs ls[l] (formAt pls ((l + 1 : Nat) : Int)) := by
  obtain ⟨p, h1, h2⟩ := h.get hl
  have : formAt pls ((l + 1 : Nat) : Int) = p.form := by
    rw [formAt, if_neg (by omega), Int.toNat_natCast, h1]; rfl
  rw [this]
  exact h2.line
/-- What the line that declares a name is. -/
theorem Both.declKind {pls : List PL} {ls : List (List ByteArray)} (h : Both pls ls) (x : ByteArray) :
    (decl ls x = 0 ∧ declForm pls x = zF) ∨ (¬ decl ls x = 0 ∧ ∃ hd : decl ls x - 1 < ls.length, LineIs ls[decl ls x - 1] (declForm pls x)) := by
  have hb := decl_b ls x
  rw [declForm, h.declE]
  by_cases h0 : decl ls x = 0
  · exact Or.inl ⟨h0, by rw [h0]; exact h.form0⟩
  · refine Or.inr ⟨h0, by omega, ?_⟩
    have := h.form (l := decl ls x - 1) (by omega)
    rw [show decl ls x - 1 + 1 = decl ls x by omega] at this
    exact this
theorem proc_params {t : List ByteArray} {fm : PForm} (h : LineIs t fm) (hk : ((first t).toList == [112, 114, 111, 99]) = true) : fm.kind = 3 ∧ fm.params = t.drop 2 := by
  have hf := kind_hf h
  have h3 : idx fm.kind = 3 := by
    have := hf.2.2.2.1
    rw [hk] at this
    simpa using this.symm
  have hk3 := (idx_cases fm.kind).2.2.2.1.mp h3
  refine ⟨hk3, ?_⟩
  cases h with
  | proc x ps hx hps hl => rfl
  | _ => simp at hk3
/-- The parameters of the procedure around a line. -/
theorem Both.par {pls : List PL} {ls : List (List ByteArray)} (h : Both pls ls) {l : Nat} (hh : 0 < home ls (l + 1)) (hl : l < ls.length) (x : ByteArray) : isPar pls ((home ls (l + 1) : Nat) : Int) x = inB (parsAt ls l) x := by
  have hb := home_b ls (l + 1)
  have hp := home_is ls (l + 1) hh
  obtain ⟨d, hd⟩ : ∃ d, home ls (l + 1) = d + 1 := ⟨home ls (l + 1) - 1, by omega⟩
  have hdl : d < ls.length := by omega
  rw [hd, Nat.add_sub_cancel, lineAt_lt hdl] at hp
  have := proc_params (h.form hdl) hp
  rw [isPar, parsAt, hd, Nat.add_sub_cancel, lineAt_lt hdl, this.2]
  rfl
theorem Both.named {pls : List PL} {ls : List (List ByteArray)} (h : Both pls ls) {l : Nat} (hh : 0 < home ls (l + 1)) (hl : l < ls.length) {x : ByteArray} (hx : nameB x = true) (c : Bool) :
    namedB ls l x c = if c = true then Rt.isArr pls ((home ls (l + 1) : Nat) : Int) x else Rt.isVar pls ((home ls (l + 1) : Nat) : Int) x := by
  rw [namedB, if_neg (by rw [hx]; simp), Rt.isArr, Rt.isVar, h.par hh hl]
  cases hp : inB (parsAt ls l) x with
  | true => rw [if_pos rfl]; cases c <;> rfl
  | false =>
    rw [if_neg (by simp)]
    rcases h.declKind x with ⟨h0, hz⟩ | ⟨h0, hd, hli⟩
    · rw [if_pos h0, hz]
      cases c <;> rfl
    · rw [if_neg h0]
      obtain ⟨f0, f1, f2, _⟩ := kind_hf hli
      obtain ⟨_, i1, i2, _⟩ := idx_cases (declForm pls x).kind
      rw [lineAt_lt hd, f1, f2]
      cases c with
      | true => simp [i2]
      | false => simp [i1]
theorem namesFrom_eq {pls : List PL} {ls : List (List ByteArray)} (h : Both pls ls) {l : Nat} (hh : 0 < home ls (l + 1)) (hl : l < ls.length) (t : List ByteArray) : ∀ f k, k + f = t.length →
    namesFrom ls l t f k = toksOK (Rt.isVar pls ((home ls (l + 1) : Nat) : Int)) (Rt.isArr pls ((home ls (l + 1) : Nat) : Int)) (t.drop k)
  | 0, k, hk => by rw [List.drop_eq_nil_of_le (by omega)]; rfl
  | f + 1, k, hk => by
    have hkl : k < t.length := by omega
    rw [namesFrom, List.drop_eq_getElem_cons hkl, toksOK, namesFrom_eq h hh hl t f (k + 1) (by omega), at_lt hkl]
    congr 1
    have hc : (cellAt t k = true) ↔ first (t.drop (k + 1)) = lbrW := by
      rw [cellAt, str_lit, decide_eq_true_iff]
      have : first (t.drop (k + 1)) = at' t (k + 1) := by simp [first, at']
      rw [this]; rfl
    by_cases hx : nameB t[k] = true
    · rw [h.named hh hl hx, if_pos hx]
      by_cases hcc : cellAt t k = true
      · rw [if_pos hcc, if_pos (hc.mp hcc)]
      · rw [if_neg hcc, if_neg (fun e => hcc (hc.mpr e))]
    · rw [if_neg hx, namedB, if_pos (by simpa using hx)]
theorem exFit_ops (pls : List PL) (proc : Int) (e : List Pop) : exFit pls proc e = opsOK (Rt.isVar pls proc) (Rt.isArr pls proc) e := rfl
theorem toksOK_name (V A : ByteArray → Bool) {x : ByteArray} (hx : nameB x = true) (r : List ByteArray) : toksOK V A (x :: r) = ((if first r = lbrW then A x else V x) && toksOK V A r) := by rw [toksOK, if_pos hx]
theorem noname_word (l : List UInt8) (h : (⟨l.toArray⟩ : ByteArray) ∈ resvW) : nameB ⟨l.toArray⟩ = false := by
  have : inB resvW ⟨l.toArray⟩ = true := by simp [inB]; exact h
  simp [nameB, this]
theorem toksOK_joinC (V A : ByteArray → Bool) : ∀ (es : List (List Pop)) (args : List (List ByteArray)), Exs es args → toksOK V A (joinC args) = es.all (opsOK V A)
  | _, _, .nil => rfl
  | _, _, .cons e p [] [] he .nil => by simp [joinC, he.2]
  | _, _, .cons e p (e2 :: es) (q :: qs) he h => by
    have ih := toksOK_joinC V A (e2 :: es) (q :: qs) h
    rw [joinC, toksOK_app V A (by show ¬ commaW = lbrW; simp [commaW, lbrW]), toksOK_sign V A (show nameB commaW = false from noname_lit 44 (by decide)), ih, ← he.2]
    simp only [List.all_cons]


theorem right_names {ls : List (List ByteArray)} {l : Nat} {x : ByteArray} {r : List ByteArray} (lt : List UInt8) (h : x = ⟨lt.toArray⟩) (h1 : (lt == [118, 97, 114]) = false) (h2 : (lt == [97, 114, 114, 97, 121]) = false) (h3 : (lt == [112, 114, 111, 99]) = false) (h4 : (lt == [99, 97, 108, 108]) = false) :
    rightB ls l (x :: r) = namesFrom ls l (x :: r) r.length 1 := by
  have e : (first (x :: r)).toList = lt := by show x.toList = lt; rw [h, toList_lit]
  rw [rightB, e, h1, h2, h3, h4]
  simp
theorem twice_from {t : List ByteArray} : ∀ f k, k + f = t.length → (twiceFrom t f k = false ↔ ∀ i, k ≤ i → i < t.length → inB (t.take i) (at' t i) = false)
  | 0, k, hk => by
    constructor
    · intro _ i h1 h2; omega
    · intro _; rfl
  | f + 1, k, hk => by
    rw [twiceFrom, Bool.or_eq_false_iff, twice_from f (k + 1) (by omega)]
    constructor
    · rintro ⟨h1, h2⟩ i h3 h4
      by_cases e : i = k
      · subst e; exact h1
      · exact h2 i (by omega) h4
    · intro h
      exact ⟨h k (Nat.le_refl _) (by omega), fun i h1 h2 => h i (by omega) h2⟩
theorem in_take {t : List ByteArray} {i : Nat} (hi : i < t.length) : inB (t.take i) (at' t i) = false ↔ ∀ j, j < i → ¬ t[i]? = t[j]? := by
  rw [at_lt hi, Bool.eq_false_iff]
  constructor
  · intro h j hj e
    apply h
    rw [List.getElem?_eq_getElem hi, List.getElem?_eq_getElem (show j < t.length by omega)] at e
    simp [inB]
    rw [List.mem_take_iff_getElem]
    exact ⟨j, by omega, by simpa using e.symm⟩
  · intro h e
    simp [inB] at e
    rw [List.mem_take_iff_getElem] at e
    obtain ⟨j, hj, e⟩ := e
    have := h j (by omega)
    rw [List.getElem?_eq_getElem hi, List.getElem?_eq_getElem (show j < t.length by omega)] at this
    exact this (by rw [e])
theorem twice_nodup (t : List ByteArray) : twice t = false ↔ NoDup t t.length := by
  rw [twice, twice_from t.length 0 (by omega)]
  constructor
  · intro h i j hj hi _
    exact (in_take hi).mp (h i (by omega) hi) j hj
  · intro h i _ hi
    exact (in_take hi).mpr (fun j hj => h i j hj hi hi)

open Classical in
theorem right_eq {pls : List PL} {ls : List (List ByteArray)} (h : Both pls ls) {l : Nat} (hl : l < ls.length) {p : PL} (hp : RelN ls l p ls[l]) : rightB ls l ls[l] = namFit pls (l + 1) p := by
  have hh : topB ls[l] = false → ((first ls[l]).toList == []) = false → 0 < home ls (l + 1) := fun a b => nested_home h.nested hl a b
  have hpr := hp.proc
  have hli := hp.line
  clear hp
  have hdecl := h.declE
  generalize ls[l] = t at *
  obtain ⟨tk, fm, dp, opn, pr⟩ := p
  simp only at hli hpr
  have hkf := kind_hf hli
  have hfit : ¬ (idx fm.kind = 0 ∨ idx fm.kind = 1 ∨ idx fm.kind = 2 ∨ idx fm.kind = 3) → ∀ k f, k + f = t.length → namesFrom ls l t f k = toksOK (Rt.isVar pls pr) (Rt.isArr pls pr) (t.drop k) := by
    intro hn k f hk
    have hho : 0 < home ls (l + 1) := hh (by rw [top_idx hkf, decide_eq_false]; intro e; exact hn (Or.inr e)) (by rw [hkf.1, decide_eq_false]; intro e; exact hn (Or.inl e))
    rw [hpr hn]
    exact namesFrom_eq h hho hl t f k hk
  unfold namFit
  cases hli with
  | empty => simp [rightB, first, at', namesFrom, exsFit, exFit]
  | var x hx =>
    have e : (first [varB, x]).toList = [118, 97, 114] := toList_lit [118, 97, 114]
    rw [rightB, e, if_pos (by decide), if_pos (Or.inl rfl)]
    show decide (decl ls x = l + 1) = decide (declP pls x = l + 1)
    rw [hdecl]
  | array x n hx hn h1 h2 =>
    have e : (first [arrayB, x, n]).toList = [97, 114, 114, 97, 121] := toList_lit [97, 114, 114, 97, 121]
    rw [rightB, e, if_neg (by decide), if_pos (by decide), if_pos (Or.inr rfl)]
    show decide (decl ls x = l + 1) = decide (declP pls x = l + 1)
    rw [hdecl]
  | proc x ps hx hps hpl =>
    have e : (first (procB :: x :: ps)).toList = [112, 114, 111, 99] := toList_lit [112, 114, 111, 99]
    rw [rightB, e, if_neg (by decide), if_neg (by decide), if_pos (by decide), if_neg (by simp), if_pos rfl]
    show (decide (decl ls x = l + 1) && !twice ps && (!(x.toList == [109, 97, 105, 110]) || decide ((procB :: x :: ps).length = 2))) = (decide (declP pls x = l + 1) && (!((x.toList == mainWord) && decide (0 < ps.length)) && decide (NoDup ps ps.length)))
    rw [hdecl, show mainWord = [109, 97, 105, 110] from rfl]
    have ht : twice ps = !decide (NoDup ps ps.length) := by
      by_cases hd : NoDup ps ps.length
      · rw [(twice_nodup ps).mpr hd, decide_eq_true hd]; rfl
      · rw [decide_eq_false hd]
        cases htw : twice ps with
        | true => rfl
        | false => exact absurd ((twice_nodup ps).mp htw) hd
    rw [ht]
    have hz : decide ((procB :: x :: ps).length = 2) = !decide (0 < ps.length) := by
      rw [Bool.eq_iff_iff]; simp
    rw [hz]
    cases decide (decl ls x = l + 1) <;> cases (x.toList == [109, 97, 105, 110]) <;> cases decide (NoDup ps ps.length) <;> cases decide (0 < ps.length) <;> rfl
  | end_ =>
    rw [right_names (x := endB) [101, 110, 100] rfl (by decide) (by decide) (by decide) (by decide)]
    simp [namesFrom, exsFit, exFit]
  | if_ q e he =>
    rw [right_names (x := ifB) [105, 102] rfl (by decide) (by decide) (by decide) (by decide), hfit (by simp [idx]) 1 _ (by simp; omega)]
    show toksOK _ _ q = _
    rw [← he.2]
    simp [exsFit, exFit_ops, opsOK]
  | else_ =>
    rw [right_names (x := elseB) [101, 108, 115, 101] rfl (by decide) (by decide) (by decide) (by decide)]
    simp [namesFrom, exsFit, exFit]
  | while_ q e he =>
    rw [right_names (x := whileB) [119, 104, 105, 108, 101] rfl (by decide) (by decide) (by decide) (by decide), hfit (by simp [idx]) 1 _ (by simp; omega)]
    show toksOK _ _ q = _
    rw [← he.2]
    simp [exsFit, exFit_ops, opsOK]
  | set1 x q e hx he =>
    rw [right_names (x := setB) [115, 101, 116] rfl (by decide) (by decide) (by decide) (by decide), hfit (by simp [idx]) 1 _ (by simp; omega)]
    show toksOK _ _ (x :: toW :: q) = _
    rw [toksOK_name _ _ hx, if_neg (show ¬ first (toW :: q) = lbrW by show ¬ toW = lbrW; simp [toW, lbrW]), toksOK_sign _ _ (show nameB toW = false from noname_word [116, 111] (by simp [resvW])), ← he.2]
    simp [exsFit, exFit_ops, opsOK]
  | set2 x q i u e hx hi he =>
    rw [right_names (x := setB) [115, 101, 116] rfl (by decide) (by decide) (by decide) (by decide), hfit (by simp [idx]) 1 _ (by simp; omega)]
    show toksOK _ _ (x :: lbrW :: (q ++ rbrW :: toW :: u)) = _
    rw [toksOK_name _ _ hx, if_pos (show first (lbrW :: (q ++ rbrW :: toW :: u)) = lbrW from rfl), toksOK_sign _ _ (show nameB lbrW = false from noname_lit 91 (by decide)), toksOK_app _ _ (show ¬ first (rbrW :: toW :: u) = lbrW by show ¬ rbrW = lbrW; simp [rbrW, lbrW]),
      toksOK_sign _ _ (show nameB rbrW = false from noname_lit 93 (by decide)), toksOK_sign _ _ (show nameB toW = false from noname_word [116, 111] (by simp [resvW])), ← hi.2, ← he.2]
    simp [exsFit, exFit_ops, opsOK]
  | print q e he =>
    rw [right_names (x := printB) [112, 114, 105, 110, 116] rfl (by decide) (by decide) (by decide) (by decide), hfit (by simp [idx]) 1 _ (by simp; omega)]
    show toksOK _ _ q = _
    rw [← he.2]
    simp [exsFit, exFit_ops, opsOK]
  | read x hx =>
    rw [right_names (x := readB) [114, 101, 97, 100] rfl (by decide) (by decide) (by decide) (by decide), hfit (by simp [idx]) 1 _ (by simp)]
    show toksOK _ _ [x] = _
    rw [toksOK_name _ _ hx, if_neg (show ¬ first [] = lbrW by simp [first, at', lbrW])]
    simp [exsFit, exFit_ops, opsOK, toksOK]
  | call x args vs hx hv =>
    have e : (first (callB :: x :: joinC args)).toList = [99, 97, 108, 108] := toList_lit [99, 97, 108, 108]
    rw [rightB, e, if_neg (by decide), if_neg (by decide), if_neg (by decide), if_pos (by decide), hfit (by simp [idx]) 2 _ (by simp; omega)]
    show (calledB ls (callB :: x :: joinC args) && toksOK _ _ (joinC args)) = _
    rw [toksOK_joinC _ _ _ _ hv]
    have hc : calledB ls (callB :: x :: joinC args) = callFit pls ⟨12, x, 0, [], [], vs⟩ := by
      rw [calledB, callFit]
      show (if decl ls x = 0 then false else if ((first (lineAt ls (decl ls x - 1))).toList == [112, 114, 111, 99]) = false then false else decide ((parts (joinC args)).length = ((lineAt ls (decl ls x - 1)).drop 2).length)) = (decide ((declForm pls x).kind = 3) && decide ((declForm pls x).params.length = vs.length))
      rcases h.declKind x with ⟨h0, hz⟩ | ⟨h0, hd, hli⟩
      · rw [if_pos h0, hz]; rfl
      · rw [if_neg h0, lineAt_lt hd]
        cases hpc : ((first ls[decl ls x - 1]).toList == [112, 114, 111, 99]) with
        | false =>
          rw [if_pos rfl]
          have := (kind_hf hli).2.2.2.1
          rw [hpc] at this
          have h3 := (idx_cases (declForm pls x).kind).2.2.2.1
          have : ¬ (declForm pls x).kind = 3 := fun e => by rw [h3.mpr e] at this; cases this
          simp [this]
        | true =>
          rw [if_neg (by decide)]
          have := proc_params hli hpc
          rw [this.1, this.2, parts_of args hv.is, ← hv.len]
          simp [eq_comm]
    rw [hc]
    simp [exsFit, exFit_ops]
    rfl
  | return_ =>
    rw [right_names (x := returnB) [114, 101, 116, 117, 114, 110] rfl (by decide) (by decide) (by decide) (by decide)]
    simp [namesFrom, exsFit, exFit]

end Rf
end Go.Proofs.YtopeochnoefgcaaGreat

namespace Go.Proofs.YtopeochnoefgcaaGreat
namespace Rf
open Rt

theorem nameErr_eq {pls : List PL} {ls : List (List ByteArray)} (h : Both pls ls) : ∀ f k, k + f = ls.length → nameErr pls (k + 1) (pls.drop (k + 1)) = rightFrom ls f k
  | 0, k, hk => by
    rw [List.drop_eq_nil_of_le (by rw [h.len]; omega)]; rfl
  | f + 1, k, hk => by
    have hkl : k < ls.length := by omega
    obtain ⟨p, h1, h2⟩ := h.get hkl
    obtain ⟨hlt, hp⟩ := List.getElem?_eq_some_iff.mp h1
    rw [List.drop_eq_getElem_cons hlt, hp, nameErr, rightFrom, lineAt_lt hkl, right_eq h hkl h2, nameErr_eq h f (k + 1) (by omega)]
theorem main_eq {pls : List PL} {ls : List (List ByteArray)} (h : Both pls ls) : ((declForm pls mainName).kind = 3) ↔ (¬ decl ls mainW = 0 ∧ ((first (lineAt ls (decl ls mainW - 1))).toList == [112, 114, 111, 99]) = true) := by
  rcases h.declKind mainW with ⟨h0, hz⟩ | ⟨h0, hd, hli⟩
  · rw [show declForm pls mainName = zF from hz, h0]
    simp [zF]
  · have h3 := (idx_cases (declForm pls mainW).kind).2.2.2.1
    rw [lineAt_lt hd, (kind_hf hli).2.2.2.1]
    show ((declForm pls mainW).kind = 3) ↔ _
    rw [← h3]
    simp [h0]
theorem empty_sr (ls : List (List ByteArray)) : SR ls 0 [] [] [] := by
  refine ⟨rfl, rfl, ?_, by simp, by simp, .nil, by simp, rfl⟩
  intro pre o suf h
  simp at h
/-- What the two readings say of a source. -/
theorem read_eq (s : ByteArray) : (readS s).1 = (readR s).1 ∧ (readS s).2.1 = (readR s).2.1 ∧ ((readS s).1 = 0 → Both (readS s).2.2 (readR s).2.2) := by
  have hll := lines_len s
  unfold readS readR
  by_cases h1 : 40000 < s.size
  · rw [if_pos (show tooLong s = true by simp [tooLong, h1]), if_pos h1]
    exact ⟨rfl, rfl, fun h => by simp at h⟩
  rw [if_neg h1]
  by_cases h2 : 100 < (lines s).length
  · rw [if_pos (show tooLong s = true by simp [tooLong]; omega), if_pos h2]
    exact ⟨rfl, rfl, fun h => by simp at h⟩
  rw [if_neg (show ¬ tooLong s = true by simp [tooLong]; omega), if_neg h2]
  obtain ⟨e1, e2⟩ := forms_eq (lines s) 0 [] [] (lines_facts (by omega)) .nil
  unfold readForms
  rw [e1]
  by_cases h3 : (formsFrom 0 (lines s) []).1 = 0
  · rw [if_neg (by omega), if_neg (by omega)]
    obtain ⟨ps, e3, e4⟩ := e2 (e1.trans h3)
    rw [e3]
    have hlen : (lines s).length = (formsFrom 0 (lines s) []).2.length := by
      have key : ∀ (texts : List ByteArray) (i : Nat) (acc : List (List ByteArray)), (formsFrom i texts acc).1 = 0 → (formsFrom i texts acc).2.length = acc.length + texts.length := by
        intro texts
        induction texts with
        | nil => intro i acc _; simp [formsFrom]
        | cons t r ih =>
          intro i acc h
          rw [formsFrom] at h ⊢
          cases ht : toks t with
          | none => rw [ht] at h; simp at h
          | some ts =>
            rw [ht] at h
            simp only at h ⊢
            by_cases hi : isLine (tx ts) = true
            · rw [if_pos hi] at h ⊢
              rw [ih _ _ h]; simp; omega
            · rw [if_neg hi] at h; simp at h
      have := key (lines s) 0 [] h3
      simpa using this.symm
    generalize (formsFrom 0 (lines s) []).2 = ls at *
    show (readNest (Rt.nestFrom ps 1 [] [zPL]).1 (Rt.nestFrom ps 1 [] [zPL]).2.1 (Rt.nestFrom ps 1 [] [zPL]).2.2 (lines s).length).1 = _ ∧ _
    have hn := nest_eq (ls := ls) ps 0 [] [zPL] [] [] (by simpa using e4) (empty_sr ls) (by omega)
    rw [hlen]
    change NestOut ls 0 [zPL] (Rt.nestFrom ps 1 [] [zPL]) (nested ls) at hn
    show (readNest (Rt.nestFrom ps 1 [] [zPL]).1 (Rt.nestFrom ps 1 [] [zPL]).2.1 (Rt.nestFrom ps 1 [] [zPL]).2.2 ls.length).1 = (readLines ls).1 ∧ (readNest (Rt.nestFrom ps 1 [] [zPL]).1 (Rt.nestFrom ps 1 [] [zPL]).2.1 (Rt.nestFrom ps 1 [] [zPL]).2.2 ls.length).2.1 = (readLines ls).2.1 ∧ ((readNest (Rt.nestFrom ps 1 [] [zPL]).1 (Rt.nestFrom ps 1 [] [zPL]).2.1 (Rt.nestFrom ps 1 [] [zPL]).2.2 ls.length).1 = 0 → Both (readNest (Rt.nestFrom ps 1 [] [zPL]).1 (Rt.nestFrom ps 1 [] [zPL]).2.1 (Rt.nestFrom ps 1 [] [zPL]).2.2 ls.length).2.2 (readLines ls).2.2)
    unfold readNest readLines
    rcases hn with ⟨a1, a2, a3, qs, a4, a5⟩ | ⟨a1, a2, a3⟩ | ⟨a1, a2⟩
    · rw [if_neg (by omega), if_neg (by simp [a2]), if_neg (by omega)]
      have hB : Both (Rt.nestFrom ps 1 [] [zPL]).2.1 ls := ⟨⟨qs, a4, by simpa using a5⟩, a3⟩
      generalize (Rt.nestFrom ps 1 [] [zPL]).2.1 = pls at *
      unfold Rt.readNames readNames
      have hne := nameErr_eq hB ls.length 0 (by omega)
      rw [hne]
      by_cases h4 : rightFrom ls ls.length 0 = 0
      · rw [if_neg (show ¬ ¬ rightFrom ls ls.length 0 = 0 by omega), if_neg (show ¬ ¬ rightFrom ls ls.length 0 = 0 by omega)]
        have hm := main_eq hB
        by_cases h5 : (declForm pls mainName).kind = 3
        · have h6 := hm.mp h5
          rw [if_neg (show ¬ ¬ (declForm pls mainName).kind = 3 from fun h => h h5), if_neg h6.1, if_neg (by rw [h6.2]; simp)]
          exact ⟨rfl, rfl, fun _ => hB⟩
        · rw [if_pos h5]
          by_cases h7 : decl ls mainW = 0
          · rw [if_pos h7]
            exact ⟨rfl, rfl, fun h => by simp at h⟩
          · rw [if_neg h7, if_pos]
            · exact ⟨rfl, rfl, fun h => by simp at h⟩
            · cases hq : ((first (lineAt ls (decl ls mainW - 1))).toList == [112, 114, 111, 99]) with
              | false => rfl
              | true => exact absurd (hm.mpr ⟨h7, hq⟩) h5
      · rw [if_pos h4, if_pos h4]
        exact ⟨rfl, rfl, fun h => by simp at h⟩
    · have hl0 : ¬ ls.length = 0 := by
        intro h0
        have : ls = [] := List.eq_nil_of_length_eq_zero h0
        subst this
        cases e4
        simp [Rt.nestFrom] at a2
      rw [if_neg (by omega), if_pos a2, a3, if_pos hl0]
      exact ⟨rfl, rfl, fun h => by simp at h⟩
    · rw [if_pos a1, a2, if_pos a1]
      exact ⟨rfl, rfl, fun h => by simp at h⟩
  · rw [if_pos h3, if_pos h3]
    exact ⟨rfl, rfl, fun h => by simp at h⟩

theorem stop_eq {pls : List PL} {ls : List (List ByteArray)} (h : Both pls ls) {l : Nat} (hl : l < ls.length) {p : PL} (hp : RelN ls l p ls[l]) : isStopP pls p = stopB ls l ls[l] := by
  have hop : ((first ls[l]).toList == [101, 110, 100]) = true → 0 < openerFrom ls l 1 := fun e => nested_open h.nested hl e
  have hob := openerFrom_b ls l 1
  have hpo := hp.opener
  have hli := hp.line
  clear hp
  have hform := fun {d} (hd : d < ls.length) => h.form hd
  generalize ls[l] = t at *
  obtain ⟨tk, fm, dp, opn, pr⟩ := p
  simp only at hli hpo
  have word : ∀ (x : ByteArray) (r : List ByteArray) (lt : List UInt8), x = ⟨lt.toArray⟩ → (first (x :: r)).toList = lt := fun x r lt h => by show x.toList = lt; rw [h, toList_lit]
  cases hli with
  | empty => simp [isStopP, stopKind, stopB, first, at']
  | var x hx => rw [isStopP, stopB, word varB _ [118, 97, 114] rfl]; simp [stopKind]
  | array x n hx hn h1 h2 => rw [isStopP, stopB, word arrayB _ [97, 114, 114, 97, 121] rfl]; simp [stopKind]
  | proc x ps hx hps hpl => rw [isStopP, stopB, word procB _ [112, 114, 111, 99] rfl]; simp [stopKind]
  | end_ =>
    have he := word endB [] [101, 110, 100] rfl
    have ho := hop (by rw [he]; decide)
    have hi := hpo (by decide)
    obtain ⟨d, hd⟩ : ∃ d, openerFrom ls l 1 = d + 1 := ⟨openerFrom ls l 1 - 1, by omega⟩
    have hdl : d < ls.length := by omega
    have hlf := hform hdl
    have h3 := (idx_cases (formAt pls ((d + 1 : Nat) : Int)).kind).2.2.2.1
    rw [isStopP, stopB, he, hd, Nat.add_sub_cancel, lineAt_lt hdl, (kind_hf hlf).2.2.2.1, hi, hd]
    show decide ((formAt pls ((d + 1 : Nat) : Int)).kind = 3) = decide (idx (formAt pls ((d + 1 : Nat) : Int)).kind = 3)
    rw [Bool.eq_iff_iff, decide_eq_true_iff, decide_eq_true_iff]
    exact h3.symm
  | if_ q e he => rw [isStopP, stopB, word ifB _ [105, 102] rfl]; simp [stopKind]
  | else_ => rw [isStopP, stopB, word elseB _ [101, 108, 115, 101] rfl]; simp [stopKind]
  | while_ q e he => rw [isStopP, stopB, word whileB _ [119, 104, 105, 108, 101] rfl]; simp [stopKind]
  | set1 x q e hx he => rw [isStopP, stopB, word setB _ [115, 101, 116] rfl]; simp [stopKind]
  | set2 x q i u e hx hi he => rw [isStopP, stopB, word setB _ [115, 101, 116] rfl]; simp [stopKind]
  | print q e he => rw [isStopP, stopB, word printB _ [112, 114, 105, 110, 116] rfl]; simp [stopKind]
  | read x hx => rw [isStopP, stopB, word readB _ [114, 101, 97, 100] rfl]; simp [stopKind]
  | call x args vs hx hv => rw [isStopP, stopB, word callB _ [99, 97, 108, 108] rfl]; simp [stopKind]
  | return_ => rw [isStopP, stopB, word returnB _ [114, 101, 116, 117, 114, 110] rfl]; simp [stopKind]
theorem stops_eq {pls : List PL} {ls : List (List ByteArray)} (h : Both pls ls) : ∀ f k (acc : List Nat), k + f = ls.length → Rt.stopsFrom pls (k + 1) (pls.drop (k + 1)) (acc.map (fun n : Nat => (n : Int))) = (stopsFrom ls f k acc).map (fun n : Nat => (n : Int))
  | 0, k, acc, hk => by
    rw [List.drop_eq_nil_of_le (by rw [h.len]; omega)]; rfl
  | f + 1, k, acc, hk => by
    have hkl : k < ls.length := by omega
    obtain ⟨p, h1, h2⟩ := h.get hkl
    obtain ⟨hlt, hp⟩ := List.getElem?_eq_some_iff.mp h1
    rw [List.drop_eq_getElem_cons hlt, hp, Rt.stopsFrom, stopsFrom, lineAt_lt hkl, stop_eq h hkl h2, ← stops_eq h f (k + 1) _ (by omega)]
    congr 1
    split <;> simp
theorem stops_same {pls : List PL} {ls : List (List ByteArray)} (h : Both pls ls) : stopsP pls = (stops ls).map (fun n : Nat => (n : Int)) := stops_eq h ls.length 0 [] (by omega)

end Rf
end Go.Proofs.YtopeochnoefgcaaGreat

