/- Small facts that all texts use. -/
import Derived.Test.YtopeochnoefgcaaDoorProg
import Derived.Test.YtopeochnoefgcaaDoorBase
import Derived.WalkKit
import Derived.WalkSpells
import Derived.WalkLawsBesides
namespace Go.Proofs.YtopeochnoefgcaaDoor
open Go.RowKit

theorem ret_int {k : IntKind} {a b : Int} (h : a = b) : Ending.returned (.int k a) = .returned (.int k b) := by rw [h]
theorem Tryd.infoStr : (Tryd.prog.info? 9).map (fun i => (i.zero, i.size, i.bytes)) = some (some (.string ByteArray.empty), 1, 16) := by kernel_rfl
/-- A row of the call's own that grew by an append behind a new block: what is below stays. -/
theorem below_append {B : Nat} {w wr w1 : World} {o : Obj} {e : TypeId} {size : Nat} {v : Value} {n : Nat} {xs : List Value} (hnx : Below B w wr) (hB : B ≤ wr.heap.size)
    (hown : wr.ownsRow B e size v n xs) (hgrow : (wr.alloc o).grownBy w1 v.ownBlock) : Below B w w1 :=
  (hnx.alloc hB o).grown hgrow (by simp; omega) (fun j hj => (hown.lt j hj).1)
theorem ownsRow_form {w : World} {B : Nat} {e : TypeId} {size : Nat} {v : Value} {n : Nat} {xs : List Value} (h : w.ownsRow B e size v n xs) : ∃ ad cap, v = .slice ad n cap := by
  obtain ⟨_, h⟩ := h
  rcases h with ⟨rfl, rfl⟩ | ⟨g, cap, cur, rfl, _⟩
  · exact ⟨_, _, rfl⟩
  · exact ⟨_, _, rfl⟩
theorem beqT {a b : Int} (h : (a == b) = true) : a = b := by simpa using h
theorem beqF {a b : Int} (h : (a == b) = false) : ¬ a = b := by simpa using h
theorem hide {p : Prop} (h : p) : Hid p := h
theorem unhide {p : Prop} (h : Hid p) : p := h
theorem block_lt {w : World} {N : Nat} {o : Obj} (h : w.heap[N]? = some o) : N < w.heap.size := by
  by_cases h' : N < w.heap.size
  · exact h'
  · rw [Array.getElem?_eq_none (by omega)] at h; cases h
theorem own_cell {w : World} {B : Nat} {e : TypeId} {size n : Nat} {v : Value} {xs : List Value} (h : w.ownsRow B e size v n xs) {j : Nat} {u : Value} (hj : xs[j]? = some u) :
    ∃ g cap, v = .slice (some ⟨g, 0, none⟩) n cap ∧ B ≤ g ∧ g < w.heap.size ∧ w.cell? ⟨g, j, none⟩ = some u := by
  obtain ⟨h1, h2⟩ := h
  rcases h2 with ⟨rfl, rfl⟩ | ⟨g, cap, cur, rfl, hg, hh, hn, hc, hs, ht⟩
  · have : xs = [] := List.eq_nil_of_length_eq_zero (by simpa using h1)
    subst this
    simp at hj
  · refine ⟨g, cap, rfl, hg, block_lt hh, ?_⟩
    rw [cell_of_row w g j cur e (0, 0) hh]
    rw [← ht, List.getElem?_take] at hj
    split at hj
    · simpa using hj
    · cases hj
theorem own_later {w w' : World} {B : Nat} {e : TypeId} {size n : Nat} {v : Value} {xs : List Value} (h : w.ownsRow B e size v n xs) (hb : Below w.heap.size w w') : w'.ownsRow B e size v n xs := by
  obtain ⟨h1, h2⟩ := h
  refine ⟨h1, ?_⟩
  rcases h2 with h2 | ⟨g, cap, cur, hv, hg, hh, r⟩
  · exact Or.inl h2
  · exact Or.inr ⟨g, cap, cur, hv, hg, by rw [hb.block g (block_lt hh)]; exact hh, r⟩
theorem block_later {w w' : World} {N : Nat} {o : Obj} (h : w.heap[N]? = some o) (hb : Below w.heap.size w w') : w'.heap[N]? = some o := by rw [hb.block N (block_lt h)]; exact h
theorem ret_bool {a b : Bool} (h : a = b) : Ending.returned (.bool a) = .returned (.bool b) := by rw [h]
theorem beq_eq_decide (a b : Int) : (a == b) = decide (a = b) := by rw [Bool.eq_iff_iff]; simp
theorem par_end {ps : List ByteArray} {x : ByteArray} {k : Nat} {b : Bool} (h : (ps.drop k).any (fun y => decide (y = x)) = b) (hk : ¬ k < ps.length) : b = false := by
  rw [List.drop_eq_nil_of_le (by omega)] at h
  exact h.symm
theorem par_hit {ps : List ByteArray} {x : ByteArray} {k : Nat} {b : Bool} (h : (ps.drop k).any (fun y => decide (y = x)) = b) (hk : k < ps.length) (hd : ps[k] = x) : b = true := by
  rw [List.drop_eq_getElem_cons hk, List.any_cons] at h
  rw [← h]
  simp [hd]
theorem par_miss {ps : List ByteArray} {x : ByteArray} {k : Nat} {b : Bool} (h : (ps.drop k).any (fun y => decide (y = x)) = b) (hk : k < ps.length) (hd : ¬ ps[k] = x) : (ps.drop (k + 1)).any (fun y => decide (y = x)) = b := by
  rw [List.drop_eq_getElem_cons hk, List.any_cons] at h
  rw [← h]
  simp [hd]
theorem below_of_drew {w w5 : World} (h : Below w.drew.heap.size w.drew w5) : Below w.heap.size w w5 := ⟨h.os, h.tape, h.output, h.size, h.block⟩
theorem below_to_drew (w : World) : Below w.heap.size w w.drew := ⟨rfl, rfl, rfl, Nat.le_refl _, fun _ _ => rfl⟩
theorem cell_of_block {w : World} {R : Nat} {cs : Array Value} {t : TypeId} (h : w.heap[R]? = some (.cells cs t (0, 0))) (i : Nat) (hi : i < cs.size) : w.cell? ⟨R, i, none⟩ = some cs[i] := by
  rw [cell_of_row w R i cs t (0, 0) h]; simp [hi]
theorem free_of_block {w : World} {R : Nat} {cs : Array Value} {t : TypeId} (h : w.heap[R]? = some (.cells cs t (0, 0))) (i : Nat) : w.frozen? ⟨R, i, none⟩ = false := by
  simp [World.frozen?, h]
theorem block_alloc {w : World} {N : Nat} {o : Obj} (h : w.heap[N]? = some o) (o' : Obj) : (w.alloc o').heap[N]? = some o := by
  have hlt : N < w.heap.size := by
    by_cases h' : N < w.heap.size
    · exact h'
    · rw [Array.getElem?_eq_none (by omega)] at h; cases h
  rw [Below.heap_alloc _ _ _ hlt]
  exact h
theorem set_block {w : World} {M : Nat} {cs : Array Value} {t : TypeId} (h : w.heap[M]? = some (.cells cs t (0, 0))) (i : Nat) (v : Value) : (w.setCell ⟨M, i, none⟩ v).heap[M]? = some (.cells (cs.setIfInBounds i v) t (0, 0)) := by
  show (w.heap.modify M _)[M]? = _
  rw [Array.getElem?_modify]
  simp [h]
theorem ownsRow_base {w : World} {b b' : Nat} {e : TypeId} {size : Nat} {v : Value} {n : Nat} {xs : List Value} (h : w.ownsRow b e size v n xs) (hb : ∀ g, v.ownBlock = some g → b' ≤ g) : w.ownsRow b' e size v n xs := by
  obtain ⟨h1, h2⟩ := h
  refine ⟨h1, ?_⟩
  rcases h2 with h2 | ⟨g, cap, cur, hv, hg, r⟩
  · exact Or.inl h2
  · exact Or.inr ⟨g, cap, cur, hv, hb g (by rw [hv]; rfl), r⟩
theorem ownsRow_mono {w : World} {b b' : Nat} {e : TypeId} {size : Nat} {v : Value} {n : Nat} {xs : List Value} (h : w.ownsRow b e size v n xs) (hb : b' ≤ b) : w.ownsRow b' e size v n xs :=
  ownsRow_base h (fun g hg => Nat.le_trans hb (h.lt g hg).1)
theorem alloc2_new (w : World) (o1 o2 : Obj) : ((w.alloc o1).alloc o2).drew.heap[w.heap.size + 1]? = some o2 := by
  show ((w.alloc o1).alloc o2).heap[w.heap.size + 1]? = some o2
  have := heap_alloc_new (w.alloc o1) o2
  simpa using this
theorem grown_keep {wr w1 : World} {o x : Obj} {row : Option Nat} {k : Nat} (hg : (wr.alloc o).grownBy w1 row) (hk : wr.heap[k]? = some x) (hne : row ≠ some k) : w1.heap[k]? = some x := by
  have hlt := block_lt hk
  rw [hg.block k (by simp; omega) (Ne.symm hne), Below.heap_alloc wr o k hlt]
  exact hk
theorem own_ne {w : World} {B B' : Nat} {e e' : TypeId} {size size' n n' : Nat} {v v' : Value} {xs xs' : List Value} (h : w.ownsRow B e size v n xs) (h' : w.ownsRow B' e' size' v' n' xs') (hne : e ≠ e') : ∀ g, v.ownBlock = some g → v'.ownBlock ≠ some g := by
  intro g hg hg'
  rcases h.2 with ⟨rfl, _⟩ | ⟨g1, c1, cur1, hv1, _, hh1, _⟩
  · cases hg
  · rcases h'.2 with ⟨rfl, _⟩ | ⟨g2, c2, cur2, hv2, _, hh2, _⟩
    · cases hg'
    · rw [hv1] at hg
      rw [hv2] at hg'
      simp [Value.ownBlock] at hg hg'
      subst hg
      subst hg'
      rw [hh1] at hh2
      simp at hh2
      exact hne hh2.2
theorem own_grown {w w1 : World} {o : Obj} {row : Option Nat} {B : Nat} {e : TypeId} {size n : Nat} {v : Value} {xs : List Value} (h : w.ownsRow B e size v n xs) (hg : (w.alloc o).grownBy w1 row) (hne : ∀ g, v.ownBlock = some g → row ≠ some g) : w1.ownsRow B e size v n xs := by
  obtain ⟨h1, h2⟩ := h
  refine ⟨h1, ?_⟩
  rcases h2 with h2 | ⟨g, cap, cur, hv, hgB, hh, r⟩
  · exact Or.inl h2
  · exact Or.inr ⟨g, cap, cur, hv, hgB, grown_keep hg hh (hne g (by rw [hv]; rfl)), r⟩

end Go.Proofs.YtopeochnoefgcaaDoor

