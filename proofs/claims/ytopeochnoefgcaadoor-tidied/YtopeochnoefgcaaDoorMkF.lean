/- Made sources: plain and block whole; a procedure's body. -/
import Derived.Test.YtopeochnoefgcaaDoorMkD
namespace Go.Proofs.YtopeochnoefgcaaDoor
open Go.RowKit
attribute [local go_sem ↓] Go.wp_at_zero Go.wp_at_succ

theorem plain_any (w : World) (M : Nat) (ls : List ByteArray) (o : List Int) (ov : Value) (k : Int) (a b n : ByteArray) (h : MakS w M ls o ov) (ha : a.size ≤ 8) (hb : b.size ≤ 8) (hn : n.size ≤ 8) (hsz : (Rt.unl ls).size ≤ 900000) (h0 : 0 ≤ k) (h8 : k < 8) :
    Calls Tryd.prog 17 #[.pointer (some ⟨M, 0, none⟩), .int .i64 k, .string a, .string b, .string n] w (MakP M (ls ++ [Rt.plainE k a b n]) o w) := by
  have hk : k = 0 ∨ k = 1 ∨ k = 2 ∨ k = 3 ∨ k = 4 ∨ k = 5 ∨ k = 6 ∨ k = 7 := by omega
  rcases hk with rfl | rfl | rfl | rfl | rfl | rfl | rfl | rfl
  · exact plain_0 w M ls o ov a b n h ha hb hn hsz
  · exact plain_1 w M ls o ov a b n h ha hb hn hsz
  · exact plain_2 w M ls o ov a b n h ha hb hn hsz
  · exact plain_3 w M ls o ov a b n h ha hb hn hsz
  · exact plain_4 w M ls o ov a b n h ha hb hn hsz
  · exact plain_5 w M ls o ov a b n h ha hb hn hsz
  · exact plain_6 w M ls o ov a b n h ha hb hn hsz
  · exact plain_7 w M ls o ov a b n h ha hb hn hsz
theorem block_any (w : World) (M : Nat) (ls : List ByteArray) (o : List Int) (ov : Value) (k : Int) (a n : ByteArray) (h : MakS w M ls o ov) (ha : a.size ≤ 8) (hn : n.size ≤ 8) (hsz : (Rt.unl ls).size ≤ 900000) (hlen : o.length ≤ 900) (h0 : 0 ≤ k) (h4 : k < 4) :
    Calls Tryd.prog 18 #[.pointer (some ⟨M, 0, none⟩), .int .i64 k, .string a, .string n] w (MakP M (ls ++ (Rt.blockE o k a n).1) (Rt.blockE o k a n).2 w) := by
  have hk : k = 0 ∨ k = 1 ∨ k = 2 ∨ k = 3 := by omega
  rcases hk with rfl | rfl | rfl | rfl
  · exact block_0 w M ls o ov a n h ha hn hsz hlen
  · exact block_1 w M ls o ov a n h ha hn hsz hlen
  · by_cases ht : Rt.topE o = 1
    · have e : Rt.blockE o 2 a n = ([Rt.elT], o.dropLast ++ [2]) := by unfold Rt.blockE; simp [ht]
      rw [e]
      exact block_2t w M ls o ov a n h ha hn hsz hlen ht
    · have e : Rt.blockE o 2 a n = ([Rt.prT a n], o) := by unfold Rt.blockE; simp [ht]
      rw [e]
      exact block_2f w M ls o ov a n h ha hn hsz hlen ht
  · by_cases ht : 0 < Rt.topE o
    · have e : Rt.blockE o 3 a n = ([Rt.enT], o.dropLast) := by unfold Rt.blockE; simp [ht]
      rw [e]
      exact block_3t w M ls o ov a n h ha hn hsz hlen ht
    · have e : Rt.blockE o 3 a n = ([Rt.dvT a n], o) := by unfold Rt.blockE; simp [ht]
      rw [e]
      exact block_3f w M ls o ov a n h ha hn hsz hlen ht
namespace Rt
theorem bodyE_snoc (vars : List ByteArray) (x : Int) : ∀ (c o : List Int), bodyE vars (c ++ [x]) o = ((bodyE vars c o).1 ++ (stepE vars x (bodyE vars c o).2).1, (stepE vars x (bodyE vars c o).2).2)
  | [], o => by simp [bodyE]
  | y :: c, o => by
    rw [List.cons_append, bodyE, bodyE_snoc vars x c (stepE vars y o).2]
    simp [bodyE]
theorem unl_two (ls : List ByteArray) (s t : ByteArray) : (unl (ls ++ [s, t])).size = (unl ls).size + s.size + t.size + 2 := by
  rw [show ls ++ [s, t] = (ls ++ [s]) ++ [t] by simp, unl_size, unl_size]; omega
theorem block_grow (ls : List ByteArray) (o : List Int) (k : Int) (a n : ByteArray) (ha : a.size ≤ 8) (hn : n.size ≤ 8) : (unl (ls ++ (blockE o k a n).1)).size ≤ (unl ls).size + 300 ∧ (blockE o k a n).2.length ≤ o.length + 1 := by
  have hs := if_size a n ha hn
  unfold blockE
  repeat' split
  · exact ⟨by rw [unl_size]; omega, by simp⟩
  · exact ⟨by rw [unl_two]; omega, by simp⟩
  · exact ⟨by rw [unl_size]; omega, by simp <;> omega⟩
  · exact ⟨by rw [unl_size]; omega, by simp <;> omega⟩
  · exact ⟨by rw [unl_size]; omega, by simp⟩
  · exact ⟨by rw [unl_size]; omega, by simp⟩
theorem plain_grow (ls : List ByteArray) (k : Int) (a b n : ByteArray) (ha : a.size ≤ 8) (hb : b.size ≤ 8) (hn : n.size ≤ 8) : (unl (ls ++ [plainE k a b n])).size ≤ (unl ls).size + 300 := by
  have := plain_size k a b n ha hb hn
  rw [unl_size]; omega
end Rt

/-- Whole numbers in memory, in blocks below B. -/
def IntsR (w : World) (B : Nat) (v : Value) (xs : List Int) : Prop := ∃ ad cap, v = .slice ad xs.length cap ∧ xs.length ≤ cap ∧ cap ≤ maxLen ∧ (∀ x ∈ xs, -9223372036854775808 ≤ x ∧ x ≤ 9223372036854775807) ∧ (xs = [] ∨ ∃ b off, ad = some ⟨b, off, none⟩ ∧ b < B ∧ b < w.heap.size ∧ ∀ j (h : j < xs.length), w.cell? ⟨b, off + j, none⟩ = some (.int .i64 xs[j]))
theorem IntsR.kept {w w' : World} {B : Nat} {v : Value} {xs : List Int} (h : IntsR w B v xs) (hk : ∀ b o, b < B → b < w.heap.size → w'.cell? ⟨b, o, none⟩ = w.cell? ⟨b, o, none⟩) (hs : w.heap.size ≤ w'.heap.size) : IntsR w' B v xs := by
  obtain ⟨ad, cap, h1, h2, h3, h4, h5⟩ := h
  refine ⟨ad, cap, h1, h2, h3, h4, ?_⟩
  rcases h5 with h5 | ⟨b, off, h6, h7, h8, h9⟩
  · exact Or.inl h5
  · exact Or.inr ⟨b, off, h6, h7, by omega, fun j hj => by rw [hk b _ h7 h8]; exact h9 j hj⟩
theorem MFr.cell {M : Nat} {w w' : World} (h : MFr M w w') : ∀ b o, b < M → b < w.heap.size → w'.cell? ⟨b, o, none⟩ = w.cell? ⟨b, o, none⟩ := by
  intro b o hb hlt
  cases hx : w.heap[b]? with
  | none => rw [Array.getElem?_eq_none_iff] at hx; omega
  | some x =>
    have := h.block b x hx (by omega) (Or.inl hb)
    rw [World.cell?_of_block (a := ⟨b, o, none⟩) (this.trans hx.symm)]
theorem MFr.row {M : Nat} {w w' : World} (h : MFr M w w') {B : Nat} {t : TypeId} {size n : Nat} {v : Value} {xs : List Value} (ht : t ≠ 3) (hM : ∀ g, v.ownBlock = some g → g ≠ M) (hv : w.ownsRow B t size v n xs) : w'.ownsRow B t size v n xs := by
  obtain ⟨h1, h2⟩ := hv
  refine ⟨h1, ?_⟩
  rcases h2 with h2 | ⟨g, cap, cur, hv', hg, hh, rr⟩
  · exact Or.inl h2
  · exact Or.inr ⟨g, cap, cur, hv', hg, h.block g _ hh (hM g (by rw [hv']; rfl)) (Or.inr fun c e => by injection e with _ e; exact ht e), rr⟩
end Go.Proofs.YtopeochnoefgcaaDoor

