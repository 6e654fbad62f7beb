/- Several rows that lie apart: what keeps them, what writes into one of them. -/
import Derived.Test.YtbpajiljfppjcaaGreatKit0
namespace Go.Proofs.YtbpajiljfppjcaaGreat
open Go.RowKit

/-- A row in memory: its element type, its value, how many elements it shows, its cells. -/
structure Rw where
  t : TypeId
  size : Nat
  v : Value
  n : Nat
  xs : List Value
def Rw.blk (r : Rw) : Option Nat := r.v.ownBlock
def blks (R : List Rw) : List Nat := R.filterMap Rw.blk
/-- Rows that are owned, each apart from the others. -/
structure Own (w : World) (R : List Rw) : Prop where
  rows : ∀ r ∈ R, w.ownsRow 0 r.t r.size r.v r.n r.xs
  apart : (blks R).Nodup
/-- All blocks stay but these. -/
structure Frm (w w' : World) (F : List Nat) : Prop where
  os : w'.os = w.os
  tape : w'.tape = w.tape
  output : w'.output = w.output
  size : w.heap.size ≤ w'.heap.size
  block : ∀ k, k < w.heap.size → k ∉ F → w'.heap[k]? = w.heap[k]?
theorem Frm.refl (w : World) (F : List Nat) : Frm w w F := ⟨rfl, rfl, rfl, Nat.le_refl _, fun _ _ _ => rfl⟩
theorem Frm.mono {w w' : World} {F G : List Nat} (h : Frm w w' F) (hs : ∀ k ∈ F, k ∈ G) : Frm w w' G := ⟨h.os, h.tape, h.output, h.size, fun k hk hn => h.block k hk (fun hf => hn (hs k hf))⟩
theorem Frm.of_below {w w' : World} (F : List Nat) (h : Below w.heap.size w w') : Frm w w' F := ⟨h.os, h.tape, h.output, h.size, fun k hk _ => h.block k hk⟩
/-- What grows F is new. -/
def Grows (w : World) (F F' : List Nat) : Prop := ∀ k ∈ F', k ∈ F ∨ w.heap.size ≤ k
theorem Frm.trans {w w1 w2 : World} {F F1 : List Nat} (h : Frm w w1 F) (h2 : Frm w1 w2 F1) (hg : Grows w F F1) : Frm w w2 F :=
  ⟨h2.os.trans h.os, h2.tape.trans h.tape, h2.output.trans h.output, Nat.le_trans h.size h2.size, fun k hk hn => (h2.block k (Nat.lt_of_lt_of_le hk h.size) (fun hf => by rcases hg k hf with h' | h'; exact hn h'; omega)).trans (h.block k hk hn)⟩
theorem Grows.refl (w : World) (F : List Nat) : Grows w F F := fun _ h => Or.inl h
theorem Grows.trans {w w1 : World} {F F1 F2 : List Nat} (h : Grows w F F1) (h2 : Grows w1 F1 F2) (hs : w.heap.size ≤ w1.heap.size) : Grows w F F2 := fun k hk => by
  rcases h2 k hk with h' | h'
  · exact h k h'
  · exact Or.inr (Nat.le_trans hs h')
theorem Frm.below {w w' : World} {F : List Nat} (h : Frm w w' F) {B : Nat} (hB : B ≤ w.heap.size) (hF : ∀ k ∈ F, B ≤ k) : Below B w w' :=
  ⟨h.os, h.tape, h.output, h.size, fun k hk => h.block k (by omega) (fun hf => by have := hF k hf; omega)⟩

theorem own_blk {w : World} {B : Nat} {e : TypeId} {size n : Nat} {v : Value} {xs : List Value} (h : w.ownsRow B e size v n xs) {g : Nat} (hg : v.ownBlock = some g) : ∃ c, w.heap[g]? = some (.cells c e (0, 0)) := by
  rcases h.2 with ⟨h', _⟩ | ⟨g', _, cur, h', _, hh, _⟩
  · rw [h'] at hg; cases hg
  · rw [h'] at hg
    simp [Value.ownBlock] at hg
    subst hg
    exact ⟨_, hh⟩
theorem own_base {w : World} {B B' : Nat} {e : TypeId} {size n : Nat} {v : Value} {xs : List Value} (h : w.ownsRow B e size v n xs) (hb : ∀ g, v.ownBlock = some g → B' ≤ g) : w.ownsRow B' e size v n xs := ownsRow_base h hb
theorem own_zero {w : World} {B : Nat} {e : TypeId} {size n : Nat} {v : Value} {xs : List Value} (h : w.ownsRow B e size v n xs) : w.ownsRow 0 e size v n xs := ownsRow_mono h (Nat.zero_le _)
/-- A row whose block stays stays. -/
theorem own_same {w w' : World} {B : Nat} {e : TypeId} {size n : Nat} {v : Value} {xs : List Value} (h : w.ownsRow B e size v n xs) (hb : ∀ g, v.ownBlock = some g → w'.heap[g]? = w.heap[g]?) : w'.ownsRow B e size v n xs := by
  obtain ⟨h1, h2⟩ := h
  refine ⟨h1, ?_⟩
  rcases h2 with h2 | ⟨g, cap, cur, hv, hg, hh, r⟩
  · exact Or.inl h2
  · exact Or.inr ⟨g, cap, cur, hv, hg, by rw [hb g (by rw [hv]; rfl)]; exact hh, r⟩
theorem mem_blks {R : List Rw} {r : Rw} (h : r ∈ R) {g : Nat} (hg : r.v.ownBlock = some g) : g ∈ blks R := List.mem_filterMap.mpr ⟨r, h, hg⟩
theorem blks_app (A B : List Rw) : blks (A ++ B) = blks A ++ blks B := by simp [blks]
theorem blks_cons (r : Rw) (B : List Rw) : blks (r :: B) = (match r.v.ownBlock with | none => blks B | some g => g :: blks B) := by
  unfold blks Rw.blk
  rw [List.filterMap_cons]
  cases r.v.ownBlock <;> rfl
theorem Own.lt {w : World} {R : List Rw} (h : Own w R) : ∀ k ∈ blks R, k < w.heap.size := by
  intro k hk
  obtain ⟨r, hr, hg⟩ := List.mem_filterMap.mp hk
  exact ((h.rows r hr).lt k hg).2
theorem Own.later {w w' : World} {R : List Rw} (h : Own w R) (hb : Below w.heap.size w w') : Own w' R := ⟨fun r hr => own_later (h.rows r hr) hb, h.apart⟩
/-- Rows whose blocks all stay. -/
theorem Own.frm {w w' : World} {R : List Rw} {F : List Nat} (h : Own w R) (hf : Frm w w' F) (hd : ∀ k ∈ blks R, k ∉ F) : Own w' R :=
  ⟨fun r hr => own_same (h.rows r hr) (fun g hg => hf.block g (((h.rows r hr).lt g hg).2) (hd g (mem_blks hr hg))), h.apart⟩
theorem Own.left {w : World} {A B : List Rw} (h : Own w (A ++ B)) : Own w A := ⟨fun r hr => h.rows r (List.mem_append_left _ hr), by have := h.apart; rw [blks_app] at this; exact (List.nodup_append.mp this).1⟩
theorem Own.right {w : World} {A B : List Rw} (h : Own w (A ++ B)) : Own w B := ⟨fun r hr => h.rows r (List.mem_append_right _ hr), by have := h.apart; rw [blks_app] at this; exact (List.nodup_append.mp this).2.1⟩
theorem Own.ne {w : World} {A B : List Rw} {r : Rw} (h : Own w (A ++ r :: B)) {g : Nat} (hg : r.v.ownBlock = some g) : g ∉ blks A ∧ g ∉ blks B := by
  have h1 := h.apart
  rw [blks_app, blks_cons, hg] at h1
  simp only at h1
  obtain ⟨h2, h3, h4⟩ := List.nodup_append.mp h1
  exact ⟨fun hA => h4 g hA g (List.mem_cons_self ..) rfl, (List.nodup_cons.mp h3).1⟩
/-- One row in the middle is changed, all others stay: it may lie in its old block or in a new one. -/
theorem Own.swap {w w' : World} {A B : List Rw} {r r' : Rw} (h : Own w (A ++ r :: B)) (hb : ∀ k, k < w.heap.size → r.v.ownBlock ≠ some k → w'.heap[k]? = w.heap[k]?) (hr : w'.ownsRow 0 r'.t r'.size r'.v r'.n r'.xs) (hat : ∀ g, r'.v.ownBlock = some g → r.v.ownBlock = some g ∨ w.heap.size ≤ g) :
    Own w' (A ++ r' :: B) ∧ Grows w (blks (A ++ r :: B)) (blks (A ++ r' :: B)) := by
  have hA : ∀ k ∈ blks A, r.v.ownBlock ≠ some k := fun k hk e => (h.ne e).1 hk
  have hB : ∀ k ∈ blks B, r.v.ownBlock ≠ some k := fun k hk e => (h.ne e).2 hk
  refine ⟨⟨?_, ?_⟩, ?_⟩
  · intro x hx
    rcases List.mem_append.mp hx with hx | hx
    · have := h.rows x (List.mem_append_left _ hx)
      exact own_same this (fun g hg => hb g (this.lt g hg).2 (hA g (mem_blks hx hg)))
    · rcases List.mem_cons.mp hx with rfl | hx
      · exact hr
      · have := h.rows x (List.mem_append_right _ (List.mem_cons_of_mem _ hx))
        exact own_same this (fun g hg => hb g (this.lt g hg).2 (hB g (mem_blks hx hg)))
  · have h1 := h.apart
    have hlt := h.lt
    rw [blks_app, blks_cons] at h1 ⊢
    rw [blks_app, blks_cons] at hlt
    obtain ⟨n1, n2, n3⟩ := List.nodup_append.mp h1
    have n2' : (blks B).Nodup := by
      cases e : r.v.ownBlock with
      | none => rw [e] at n2; exact n2
      | some g => rw [e] at n2; exact (List.nodup_cons.mp n2).2
    have hltA : ∀ k ∈ blks A, k < w.heap.size := fun k hk => hlt k (List.mem_append_left _ hk)
    have hltB : ∀ k ∈ blks B, k < w.heap.size := fun k hk => hlt k (List.mem_append_right _ (by
      cases e : r.v.ownBlock with
      | none => exact hk
      | some g => exact List.mem_cons_of_mem _ hk))
    have n4 : ∀ a ∈ blks A, ∀ b ∈ blks B, a ≠ b := fun a ha b hb2 => n3 a ha b (by
      cases e : r.v.ownBlock with
      | none => exact hb2
      | some g => exact List.mem_cons_of_mem _ hb2)
    cases e : r'.v.ownBlock with
    | none => exact List.nodup_append.mpr ⟨n1, n2', n4⟩
    | some g =>
      have hgA : g ∉ blks A := fun hg => by rcases hat g e with h' | h'; exact hA g hg h'; have := hltA g hg; omega
      have hgB : g ∉ blks B := fun hg => by rcases hat g e with h' | h'; exact hB g hg h'; have := hltB g hg; omega
      refine List.nodup_append.mpr ⟨n1, List.nodup_cons.mpr ⟨hgB, n2'⟩, ?_⟩
      intro a ha b hb2
      rcases List.mem_cons.mp hb2 with rfl | hb2
      · intro e2; rw [e2] at ha; exact hgA ha
      · exact n4 a ha b hb2
  · intro k hk
    rw [blks_app, blks_cons] at hk ⊢
    rcases List.mem_append.mp hk with hk | hk
    · exact Or.inl (List.mem_append_left _ hk)
    · have hkB : k ∈ blks B → k ∈ blks A ++ (match r.v.ownBlock with | none => blks B | some g => g :: blks B) := fun hk => List.mem_append_right _ (by
        cases e : r.v.ownBlock with
        | none => exact hk
        | some g => exact List.mem_cons_of_mem _ hk)
      cases e : r'.v.ownBlock with
      | none => rw [e] at hk; exact Or.inl (hkB hk)
      | some g =>
        rw [e] at hk
        rcases List.mem_cons.mp hk with rfl | hk
        · rcases hat k e with h' | h'
          · rw [h']; exact Or.inl (List.mem_append_right _ (List.mem_cons_self ..))
          · exact Or.inr h'
        · exact Or.inl (hkB hk)
/-- One row more, in a new block. -/
theorem Own.add {w : World} {A B : List Rw} {r : Rw} (h : Own w (A ++ B)) (hr : w.ownsRow 0 r.t r.size r.v r.n r.xs) (hn : ∀ g, r.v.ownBlock = some g → g ∉ blks (A ++ B)) : Own w (A ++ r :: B) := by
  refine ⟨?_, ?_⟩
  · intro x hx
    rcases List.mem_append.mp hx with hx | hx
    · exact h.rows x (List.mem_append_left _ hx)
    · rcases List.mem_cons.mp hx with rfl | hx
      · exact hr
      · exact h.rows x (List.mem_append_right _ hx)
  · have h1 := h.apart
    rw [blks_app] at h1
    obtain ⟨n1, n2, n3⟩ := List.nodup_append.mp h1
    rw [blks_app, blks_cons]
    cases e : r.v.ownBlock with
    | none => exact h1
    | some g =>
      have := hn g e
      rw [blks_app] at this
      have h2 : g ∉ blks A := fun hg => this (List.mem_append_left _ hg)
      have h3 : g ∉ blks B := fun hg => this (List.mem_append_right _ hg)
      refine List.nodup_append.mpr ⟨n1, List.nodup_cons.mpr ⟨h3, n2⟩, ?_⟩
      intro a ha b hb2
      rcases List.mem_cons.mp hb2 with rfl | hb2
      · intro e2; rw [e2] at ha; exact h2 ha
      · exact n3 a ha b hb2
/-- One row less. -/
theorem Own.drop {w : World} {A B : List Rw} {r : Rw} (h : Own w (A ++ r :: B)) : Own w (A ++ B) := by
  refine ⟨fun x hx => h.rows x (by rcases List.mem_append.mp hx with hx | hx; exact List.mem_append_left _ hx; exact List.mem_append_right _ (List.mem_cons_of_mem _ hx)), ?_⟩
  have h1 := h.apart
  rw [blks_app, blks_cons] at h1
  obtain ⟨n1, n2, n3⟩ := List.nodup_append.mp h1
  rw [blks_app]
  cases e : r.v.ownBlock with
  | none => rw [e] at h1; exact h1
  | some g =>
    rw [e] at n2 n3
    exact List.nodup_append.mpr ⟨n1, (List.nodup_cons.mp n2).2, fun a ha b hb => n3 a ha b (List.mem_cons_of_mem _ hb)⟩
theorem blks_drop (A B : List Rw) (r : Rw) : ∀ k ∈ blks (A ++ B), k ∈ blks (A ++ r :: B) := by
  intro k hk
  rw [blks_app] at hk ⊢
  rcases List.mem_append.mp hk with hk | hk
  · exact List.mem_append_left _ hk
  · refine List.mem_append_right _ ?_
    rw [blks_cons]
    cases r.v.ownBlock with
    | none => exact hk
    | some g => exact List.mem_cons_of_mem _ hk
end Go.Proofs.YtbpajiljfppjcaaGreat

