/- Both tidied texts agree. -/
import Derived.Test.YtopeochnoefgcaaGreatRefO
import Derived.Test.YtopeochnoefgcaaGreatTidy1
namespace Go.Proofs.YtopeochnoefgcaaGreat
namespace Rf
open Rt

theorem formsFrom_few : ∀ (texts : List ByteArray) (i : Nat) (acc : List (List ByteArray)), (∀ s ∈ texts, s.size ≤ 40000) → (∀ t ∈ acc, Few t) → (formsFrom i texts acc).1 = 0 → ∀ t ∈ (formsFrom i texts acc).2, Few t
  | [], i, acc, _, h, _ => by rw [formsFrom]; exact h
  | x :: r, i, acc, h1, h2, h3 => by
    rw [formsFrom] at h3 ⊢
    cases ht : toks x with
    | none => rw [ht] at h3; simp at h3
    | some ts =>
      rw [ht] at h3
      simp only at h3 ⊢
      by_cases hi : isLine (tx ts) = true
      · rw [if_pos hi] at h3 ⊢
        refine formsFrom_few r _ _ (fun s hs => h1 s (List.mem_cons_of_mem _ hs)) ?_ h3
        intro t ht2
        rcases List.mem_append.mp ht2 with h | h
        · exact h2 t h
        · rw [List.mem_singleton.mp h]; exact few_tx (h1 x (List.mem_cons_self ..)) ht
      · rw [if_neg hi] at h3; simp at h3
theorem formsFrom_atmost : ∀ (texts : List ByteArray) (i : Nat) (acc : List (List ByteArray)), (formsFrom i texts acc).2.length ≤ acc.length + texts.length
  | [], i, acc => by rw [formsFrom]; simp
  | x :: r, i, acc => by
    rw [formsFrom]
    cases ht : toks x with
    | none => simp
    | some ts =>
      simp only
      by_cases hi : isLine (tx ts) = true
      · rw [if_pos hi]
        have := formsFrom_atmost r (i + 1) (acc ++ [tx ts])
        simp at this ⊢
        omega
      · rw [if_neg hi]; simp
theorem readLines_list (ls : List (List ByteArray)) : (readLines ls).2.2 = [] ∨ (readLines ls).2.2 = ls := by
  unfold readLines
  split
  · exact Or.inl rfl
  · split
    · exact Or.inl rfl
    · unfold readNames
      split
      · exact Or.inl rfl
      · split
        · exact Or.inl rfl
        · exact Or.inr rfl
theorem readR_few (s : ByteArray) : (∀ t ∈ (readR s).2.2, Few t) ∧ (readR s).2.2.length ≤ 100 := by
  have hnil : (∀ t ∈ ([] : List (List ByteArray)), Few t) ∧ ([] : List (List ByteArray)).length ≤ 100 := ⟨by simp, by simp⟩
  unfold readR
  split
  · exact hnil
  · rename_i h1
    split
    · exact hnil
    · rename_i h2
      split
      · exact hnil
      · rename_i h3
        rcases readLines_list (formsFrom 0 (Rt.lines s) []).2 with h | h
        · rw [h]; exact hnil
        · rw [h]
          refine ⟨formsFrom_few _ _ _ (lines_facts (by omega)) (by simp) (by omega), ?_⟩
          have := formsFrom_atmost (Rt.lines s) 0 []
          simp at this
          omega

theorem depth_eq {ls : List (List ByteArray)} {l : Nat} {p : PL} (hl : l < ls.length) (h : RelN ls l p ls[l]) : p.depth = deepAt ls l := by
  obtain ⟨_, _, _, _, _, _, f6, f7⟩ := kind_hf h.line
  rw [h.depth, deepAt, lineAt_lt hl, f6, f7]
  by_cases h6 : idx p.form.kind = 6
  · simp [h6]
  · by_cases h7 : idx p.form.kind = 7
    · simp [h7]
    · simp [h6, h7]
theorem sp_eq (out : ByteArray) : ∀ k, spTo out k = out ++ spP ⟨#[]⟩ k
  | 0 => by
    show out = out ++ ⟨#[]⟩
    apply ByteArray.ext; simp [ByteArray.data_append]
  | k + 1 => by rw [spTo, spP, sp_eq out k, ByteArray.append_assoc]
theorem at_tx (ts : List Tk) (i : Nat) : at' (tx ts) i = ((ts[i]?).map Tk.text).getD ⟨#[]⟩ := by
  simp [at', tx, List.getD]
theorem tok_eq (out : ByteArray) (d : Int) (ts : List Tk) : ∀ i, tokTo out d (tx ts) (i + 1) = out ++ tokP (spP ⟨#[]⟩ d.toNat) ts (i + 1)
  | 0 => by
    show spTo out d.toNat ++ _ = out ++ (spP ⟨#[]⟩ d.toNat ++ _)
    rw [sp_eq, at_tx, ByteArray.append_assoc]
  | i + 1 => by
    have ih := tok_eq out d ts i
    rw [tokTo, tokP, if_neg (by omega), if_pos (by omega), ih, at_tx]
    simp only [ByteArray.append_assoc]
theorem line_eq (out : ByteArray) (p : PL) : tokTo out p.depth (tx p.toks) (tx p.toks).length = out ++ tidyLn p := by
  have hl : (tx p.toks).length = p.toks.length := by simp [tx]
  rw [hl, tidyLn]
  by_cases h0 : p.toks.length = 0
  · rw [if_pos h0, h0]
    show out = out ++ ⟨#[]⟩
    apply ByteArray.ext; simp [ByteArray.data_append]
  · rw [if_neg h0]
    obtain ⟨n, hn⟩ : ∃ n, p.toks.length = n + 1 := ⟨p.toks.length - 1, by omega⟩
    rw [hn]
    exact tok_eq out p.depth p.toks n
theorem tidyTo_eq {pls : List PL} {ls : List (List ByteArray)} (h : Both pls ls) : ∀ k, k ≤ ls.length → Rt.tidyTo pls k = tidyTo ls k
  | 0, _ => rfl
  | k + 1, hk => by
    have ih := tidyTo_eq h k (by omega)
    have hkl : k < ls.length := by omega
    obtain ⟨p, h1, h2⟩ := h.get hkl
    have hln := line_eq (if 0 < k then tidyTo ls k ++ ⟨#[10]⟩ else tidyTo ls k) p
    rw [Rt.tidyTo, tidyTo, ih, h1, ← depth_eq hkl h2, lineAt_lt hkl]
    rw [h2.toks] at hln
    rw [hln]
    rfl
theorem tidy_eq {pls : List PL} {ls : List (List ByteArray)} (h : Both pls ls) : tidyP pls = tidy ls := by
  rw [tidyP, h.len, Nat.add_sub_cancel, tidy]
  exact tidyTo_eq h _ (Nat.le_refl _)
theorem fit_of {pls : List PL} {ls : List (List ByteArray)} (h : Both pls ls) (hf : ∀ t ∈ ls, Few t) (hl : ls.length ≤ 100) : ∀ p ∈ pls, Fit p := by
  intro p hp
  obtain ⟨i, hi, rfl⟩ := List.getElem_of_mem hp
  cases i with
  | zero =>
    obtain ⟨ps, rfl, _⟩ := h.ex
    exact zPL_fit
  | succ l =>
    have hll : l < ls.length := by have := h.len; omega
    obtain ⟨p, h1, h2⟩ := h.get hll
    obtain ⟨_, h3⟩ := List.getElem?_eq_some_iff.mp h1
    rw [h3]
    have hF := hf _ (List.getElem_mem hll)
    have ht := h2.toks
    rw [← ht] at hF
    have hd := deep_b ls l
    rw [← depth_eq hll h2] at hd
    refine ⟨by have := hF.1; simpa [tx] using this, fun t ht => hF.2 _ (List.mem_map_of_mem ht), by omega⟩
theorem readS_fit (s : ByteArray) (h : (readS s).1 = 0) : ∀ p ∈ (readS s).2.2, Fit p := by
  obtain ⟨_, _, e3⟩ := read_eq s
  have hq := readR_few s
  exact fit_of (e3 h) hq.1 hq.2

end Rf
end Go.Proofs.YtopeochnoefgcaaGreat

