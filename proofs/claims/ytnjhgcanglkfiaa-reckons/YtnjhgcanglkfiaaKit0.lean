/- Small facts that all texts use. -/
import Derived.KernelRfl
import Derived.WalkKit
import Derived.Test.YtnjhgcanglkfiaaProg
import Derived.WalkSpells
import Derived.WalkLawsBesides
namespace Go.Proofs.Ytnjhgcanglkfiaa
namespace Rt

theorem ba_ext {a b : ByteArray} (h : a.toList = b.toList) : a = b := by
  rw [ByteArray.toList_eq, ByteArray.toList_eq] at h
  cases a; cases b
  simp at h
  simp [h]
theorem str_eq (a b : ByteArray) : (a.toList == b.toList) = decide (a = b) := by
  rw [Bool.eq_iff_iff, beq_iff_eq, decide_eq_true_iff]
  exact ⟨ba_ext, fun h => by rw [h]⟩
theorem str_lit (a : ByteArray) (l : List UInt8) : (a.toList == l) = decide (a = ⟨l.toArray⟩) := by
  have h := str_eq a ⟨l.toArray⟩
  rw [show (ByteArray.mk l.toArray).toList = l from ByteArray.toList_mk l] at h
  exact h
theorem str_ne {a b : ByteArray} (h : ¬ a = b) : (a.toList == b.toList) = false := by rw [str_eq]; simpa using h
theorem str_same {a b : ByteArray} (h : a = b) : (a.toList == b.toList) = true := by rw [str_eq]; simpa using h

/-- Is a byte from lo to hi? -/
def within (lo hi : Int) (b : UInt8) : Bool := decide (lo ≤ (b.toNat : Int) ∧ (b.toNat : Int) ≤ hi)

/-- How many bytes from place a on lie side by side from lo to hi. -/
def cw (s : ByteArray) (lo hi : Int) (a : Nat) : Nat := ((s.data.toList.drop a).takeWhile (within lo hi)).length

theorem tw_len {α : Type} (p : α → Bool) : ∀ (l : List α) (k : Nat), k ≤ l.length → (∀ j (h : j < l.length), j < k → p l[j] = true) → (∀ h : k < l.length, p l[k] = false) → (l.takeWhile p).length = k
  | [], k, hk, _, _ => by simp at hk; simp [hk]
  | x :: r, 0, _, _, h3 => by
    have := h3 (by simp)
    simp at this
    simp [this]
  | x :: r, k + 1, hk, h2, h3 => by
    have hx := h2 0 (by simp) (by omega)
    simp at hx
    have ih := tw_len p r k (by simpa using hk) (fun j h hj => by have := h2 (j + 1) (by simpa using h) (by omega); simpa using this) (fun h => by have := h3 (by simpa using h); simpa using this)
    simp [hx, ih]

theorem cw_eq (s : ByteArray) (lo hi : Int) (a e : Nat) (hae : a ≤ e) (he : e ≤ s.size)
    (h1 : ∀ j (h : j < s.size), a ≤ j → j < e → within lo hi s[j] = true) (h2 : ∀ h : e < s.size, within lo hi s[e] = false) : cw s lo hi a = e - a := by
  have hsz : s.data.toList.length = s.size := by simp
  refine tw_len _ _ _ (by simp; omega) (fun j h hj => ?_) (fun h => ?_)
  · simp at h
    have := h1 (a + j) (by omega) (by omega) (by omega)
    simp only [List.getElem_drop]
    exact this
  · simp at h
    have := h2 (by omega)
    have e1 : a + (e - a) = e := by omega
    simp only [List.getElem_drop, e1]
    exact this

theorem cw_le (s : ByteArray) (lo hi : Int) (a : Nat) (ha : a ≤ s.size) : a + cw s lo hi a ≤ s.size := by
  unfold cw
  have h := List.IsPrefix.length_le (List.takeWhile_prefix (within lo hi) (l := s.data.toList.drop a))
  simp at h
  omega

/-- Is a byte one of the signs? -/
def sign (b : Int) : Bool := decide (b ∈ [43, 45, 42, 47, 37, 60, 61, 40, 41, 91, 93, 44])

/-- The byte at a place; 0 behind the end. -/
def byteAt (s : ByteArray) (a : Nat) : Int := if h : a < s.size then (s[a].toNat : Int) else 0
theorem byteAt_lt {s : ByteArray} {a : Nat} (h : a < s.size) : byteAt s a = (s[a].toNat : Int) := by simp [byteAt, h]

/-- The kind and the size of the token at a place. -/
def measK (s : ByteArray) (a : Nat) : Int :=
  if 8 < cw s 97 122 a then 0 else if 0 < cw s 97 122 a then 1 else if 9 < cw s 48 57 a then 0 else if 0 < cw s 48 57 a then 2
  else if a < s.size ∧ sign (byteAt s a) = true then 3 else 0
def measN (s : ByteArray) (a : Nat) : Nat :=
  if 8 < cw s 97 122 a then 0 else if 0 < cw s 97 122 a then cw s 97 122 a else if 9 < cw s 48 57 a then 0 else if 0 < cw s 48 57 a then cw s 48 57 a
  else if a < s.size ∧ sign (byteAt s a) = true then 1 else 0
theorem measN_le (s : ByteArray) (a : Nat) (ha : a ≤ s.size) : a + measN s a ≤ s.size := by
  have h1 := cw_le s 97 122 a ha
  have h2 := cw_le s 48 57 a ha
  unfold measN
  repeat' split
  all_goals omega

/-- A token of the program: its kind, its text. -/
structure Tk where
  kind : Int
  text : ByteArray

def tkCells (t : Tk) : List Value := [.int .i64 t.kind, .string t.text]
def toksCells (ts : List Tk) : List Value := ts.flatMap tkCells
theorem toksCells_snoc (ts : List Tk) (t : Tk) : toksCells (ts ++ [t]) = toksCells ts ++ [.int .i64 t.kind, .string t.text] := by simp [toksCells, tkCells]
theorem toksCells_length (ts : List Tk) : (toksCells ts).length = ts.length * 2 := by
  induction ts with
  | nil => rfl
  | cons t r ih => simp only [toksCells, List.flatMap_cons, List.length_append, List.length_cons] at ih ⊢; simp [tkCells] at ih ⊢; omega

def toksFrom (s : ByteArray) : Nat → Nat → List Tk → Option (List Tk)
  | 0, _, _ => none
  | f + 1, a, acc =>
    if a < s.size then
      if byteAt s a = 32 then toksFrom s f (a + 1) acc
      else if measN s a = 0 ∨ 24 ≤ acc.length then none
      else toksFrom s f (a + measN s a) (acc ++ [⟨measK s a, s.extract a (a + measN s a)⟩])
    else some acc
def toks (s : ByteArray) : Option (List Tk) := toksFrom s (s.size + 1) 0 []

/-- The lines of a text. -/
def linesFrom (s : ByteArray) : Nat → Nat → Nat → List ByteArray → List ByteArray
  | 0, _, _, acc => acc
  | f + 1, start, i, acc =>
    if i < s.size then
      if byteAt s i = 10 then linesFrom s f (i + 1) (i + 1) (acc ++ [s.extract start i]) else linesFrom s f start (i + 1) acc
    else acc ++ [s.extract start s.size]
def lines (s : ByteArray) : List ByteArray := linesFrom s (s.size + 1) 0 0 []

/-- The reserved words. -/
def resvWords : List (List UInt8) := [[118, 97, 114], [97, 114, 114, 97, 121], [112, 114, 111, 99], [101, 110, 100], [101, 108, 115, 101], [105, 102], [119, 104, 105, 108, 101], [115, 101, 116], [116, 111], [112, 114, 105, 110, 116], [114, 101, 97, 100], [99, 97, 108, 108], [114, 101, 116, 117, 114, 110]]
def resv (s : ByteArray) : Bool := resvWords.any (fun l => s.toList == l)

/-- What a sign between two values does. -/
def opCode (s : ByteArray) : Int :=
  if s.toList == [43] then 5 else if s.toList == [45] then 6 else if s.toList == [42] then 7 else if s.toList == [47] then 8 else if s.toList == [37] then 9
  else if s.toList == [60] then 10 else if s.toList == [61] then 11 else 0

/-- How many newlines stand ahead of place k. -/
def nls (s : ByteArray) : Nat → Nat
  | 0 => 0
  | k + 1 => nls s k + (if byteAt s k = 10 then 1 else 0)
theorem nls_le (s : ByteArray) (k : Nat) : nls s k ≤ k := by
  induction k with
  | zero => simp [nls]
  | succ k ih => simp only [nls]; split <;> omega
def tooLong (s : ByteArray) : Bool := decide (40000 < s.size) || decide (100 < 1 + nls s s.size)

end Rt
end Go.Proofs.Ytnjhgcanglkfiaa

namespace Go.Proofs.Ytnjhgcanglkfiaa
open Go.RowKit

theorem ret_int {k : IntKind} {a b : Int} (h : a = b) : Ending.returned (.int k a) = .returned (.int k b) := by rw [h]
theorem Try.infoStr : (Try.prog.info? 9).map (fun i => (i.zero, i.size, i.bytes)) = some (some (.string ByteArray.empty), 1, 16) := by kernel_rfl
/-- A row of the call's own that grew by an append behind a new block: what is below stays. -/
theorem below_append {B : Nat} {w wr w1 : World} {o : Obj} {e : TypeId} {size : Nat} {v : Value} {n : Nat} {xs : List Value} (hnx : Below B w wr) (hB : B ≤ wr.heap.size)
    (hown : wr.ownsRow B e size v n xs) (hgrow : (wr.alloc o).grownBy w1 v.ownBlock) : Below B w w1 :=
  (hnx.alloc hB o).grown hgrow (by simp; omega) (fun j hj => (hown.lt j hj).1)
theorem ownsRow_form {w : World} {B : Nat} {e : TypeId} {size : Nat} {v : Value} {n : Nat} {xs : List Value} (h : w.ownsRow B e size v n xs) : ∃ ad cap, v = .slice ad n cap := by
  obtain ⟨_, h⟩ := h
  rcases h with ⟨rfl, rfl⟩ | ⟨g, cap, cur, rfl, _⟩
  · exact ⟨_, _, rfl⟩
  · exact ⟨_, _, rfl⟩
theorem beqT {a b : Int} (h : (a == b) = true) : a = b := by simpa using h
theorem beqF {a b : Int} (h : (a == b) = false) : ¬ a = b := by simpa using h
theorem hide {p : Prop} (h : p) : Hid p := h
theorem unhide {p : Prop} (h : Hid p) : p := h
theorem block_lt {w : World} {N : Nat} {o : Obj} (h : w.heap[N]? = some o) : N < w.heap.size := by
  by_cases h' : N < w.heap.size
  · exact h'
  · rw [Array.getElem?_eq_none (by omega)] at h; cases h
theorem own_cell {w : World} {B : Nat} {e : TypeId} {size n : Nat} {v : Value} {xs : List Value} (h : w.ownsRow B e size v n xs) {j : Nat} {u : Value} (hj : xs[j]? = some u) :
    ∃ g cap, v = .slice (some ⟨g, 0, none⟩) n cap ∧ B ≤ g ∧ g < w.heap.size ∧ w.cell? ⟨g, j, none⟩ = some u := by
  obtain ⟨h1, h2⟩ := h
  rcases h2 with ⟨rfl, rfl⟩ | ⟨g, cap, cur, rfl, hg, hh, hn, hc, hs, ht⟩
  · have : xs = [] := List.eq_nil_of_length_eq_zero (by simpa using h1)
    subst this
    simp at hj
  · refine ⟨g, cap, rfl, hg, block_lt hh, ?_⟩
    rw [cell_of_row w g j cur e (0, 0) hh]
    rw [← ht, List.getElem?_take] at hj
    split at hj
    · simpa using hj
    · cases hj
theorem own_later {w w' : World} {B : Nat} {e : TypeId} {size n : Nat} {v : Value} {xs : List Value} (h : w.ownsRow B e size v n xs) (hb : Below w.heap.size w w') : w'.ownsRow B e size v n xs := by
  obtain ⟨h1, h2⟩ := h
  refine ⟨h1, ?_⟩
  rcases h2 with h2 | ⟨g, cap, cur, hv, hg, hh, r⟩
  · exact Or.inl h2
  · exact Or.inr ⟨g, cap, cur, hv, hg, by rw [hb.block g (block_lt hh)]; exact hh, r⟩
theorem block_later {w w' : World} {N : Nat} {o : Obj} (h : w.heap[N]? = some o) (hb : Below w.heap.size w w') : w'.heap[N]? = some o := by rw [hb.block N (block_lt h)]; exact h
theorem ret_bool {a b : Bool} (h : a = b) : Ending.returned (.bool a) = .returned (.bool b) := by rw [h]
theorem beq_eq_decide (a b : Int) : (a == b) = decide (a = b) := by rw [Bool.eq_iff_iff]; simp
theorem par_end {ps : List ByteArray} {x : ByteArray} {k : Nat} {b : Bool} (h : (ps.drop k).any (fun y => decide (y = x)) = b) (hk : ¬ k < ps.length) : b = false := by
  rw [List.drop_eq_nil_of_le (by omega)] at h
  exact h.symm
theorem par_hit {ps : List ByteArray} {x : ByteArray} {k : Nat} {b : Bool} (h : (ps.drop k).any (fun y => decide (y = x)) = b) (hk : k < ps.length) (hd : ps[k] = x) : b = true := by
  rw [List.drop_eq_getElem_cons hk, List.any_cons] at h
  rw [← h]
  simp [hd]
theorem par_miss {ps : List ByteArray} {x : ByteArray} {k : Nat} {b : Bool} (h : (ps.drop k).any (fun y => decide (y = x)) = b) (hk : k < ps.length) (hd : ¬ ps[k] = x) : (ps.drop (k + 1)).any (fun y => decide (y = x)) = b := by
  rw [List.drop_eq_getElem_cons hk, List.any_cons] at h
  rw [← h]
  simp [hd]
theorem below_of_drew {w w5 : World} (h : Below w.drew.heap.size w.drew w5) : Below w.heap.size w w5 := ⟨h.os, h.tape, h.output, h.size, h.block⟩
theorem below_to_drew (w : World) : Below w.heap.size w w.drew := ⟨rfl, rfl, rfl, Nat.le_refl _, fun _ _ => rfl⟩
theorem cell_of_block {w : World} {R : Nat} {cs : Array Value} {t : TypeId} (h : w.heap[R]? = some (.cells cs t (0, 0))) (i : Nat) (hi : i < cs.size) : w.cell? ⟨R, i, none⟩ = some cs[i] := by
  rw [cell_of_row w R i cs t (0, 0) h]; simp [hi]
theorem free_of_block {w : World} {R : Nat} {cs : Array Value} {t : TypeId} (h : w.heap[R]? = some (.cells cs t (0, 0))) (i : Nat) : w.frozen? ⟨R, i, none⟩ = false := by
  simp [World.frozen?, h]
theorem block_alloc {w : World} {N : Nat} {o : Obj} (h : w.heap[N]? = some o) (o' : Obj) : (w.alloc o').heap[N]? = some o := by
  have hlt : N < w.heap.size := by
    by_cases h' : N < w.heap.size
    · exact h'
    · rw [Array.getElem?_eq_none (by omega)] at h; cases h
  rw [Below.heap_alloc _ _ _ hlt]
  exact h
theorem set_block {w : World} {M : Nat} {cs : Array Value} {t : TypeId} (h : w.heap[M]? = some (.cells cs t (0, 0))) (i : Nat) (v : Value) : (w.setCell ⟨M, i, none⟩ v).heap[M]? = some (.cells (cs.setIfInBounds i v) t (0, 0)) := by
  show (w.heap.modify M _)[M]? = _
  rw [Array.getElem?_modify]
  simp [h]
theorem ownsRow_base {w : World} {b b' : Nat} {e : TypeId} {size : Nat} {v : Value} {n : Nat} {xs : List Value} (h : w.ownsRow b e size v n xs) (hb : ∀ g, v.ownBlock = some g → b' ≤ g) : w.ownsRow b' e size v n xs := by
  obtain ⟨h1, h2⟩ := h
  refine ⟨h1, ?_⟩
  rcases h2 with h2 | ⟨g, cap, cur, hv, hg, r⟩
  · exact Or.inl h2
  · exact Or.inr ⟨g, cap, cur, hv, hb g (by rw [hv]; rfl), r⟩
theorem ownsRow_mono {w : World} {b b' : Nat} {e : TypeId} {size : Nat} {v : Value} {n : Nat} {xs : List Value} (h : w.ownsRow b e size v n xs) (hb : b' ≤ b) : w.ownsRow b' e size v n xs :=
  ownsRow_base h (fun g hg => Nat.le_trans hb (h.lt g hg).1)
theorem alloc2_new (w : World) (o1 o2 : Obj) : ((w.alloc o1).alloc o2).drew.heap[w.heap.size + 1]? = some o2 := by
  show ((w.alloc o1).alloc o2).heap[w.heap.size + 1]? = some o2
  have := heap_alloc_new (w.alloc o1) o2
  simpa using this
theorem grown_keep {wr w1 : World} {o x : Obj} {row : Option Nat} {k : Nat} (hg : (wr.alloc o).grownBy w1 row) (hk : wr.heap[k]? = some x) (hne : row ≠ some k) : w1.heap[k]? = some x := by
  have hlt := block_lt hk
  rw [hg.block k (by simp; omega) (Ne.symm hne), Below.heap_alloc wr o k hlt]
  exact hk
theorem own_ne {w : World} {B B' : Nat} {e e' : TypeId} {size size' n n' : Nat} {v v' : Value} {xs xs' : List Value} (h : w.ownsRow B e size v n xs) (h' : w.ownsRow B' e' size' v' n' xs') (hne : e ≠ e') : ∀ g, v.ownBlock = some g → v'.ownBlock ≠ some g := by
  intro g hg hg'
  rcases h.2 with ⟨rfl, _⟩ | ⟨g1, c1, cur1, hv1, _, hh1, _⟩
  · cases hg
  · rcases h'.2 with ⟨rfl, _⟩ | ⟨g2, c2, cur2, hv2, _, hh2, _⟩
    · cases hg'
    · rw [hv1] at hg
      rw [hv2] at hg'
      simp [Value.ownBlock] at hg hg'
      subst hg
      subst hg'
      rw [hh1] at hh2
      simp at hh2
      exact hne hh2.2
theorem own_grown {w w1 : World} {o : Obj} {row : Option Nat} {B : Nat} {e : TypeId} {size n : Nat} {v : Value} {xs : List Value} (h : w.ownsRow B e size v n xs) (hg : (w.alloc o).grownBy w1 row) (hne : ∀ g, v.ownBlock = some g → row ≠ some g) : w1.ownsRow B e size v n xs := by
  obtain ⟨h1, h2⟩ := h
  refine ⟨h1, ?_⟩
  rcases h2 with h2 | ⟨g, cap, cur, hv, hgB, hh, r⟩
  · exact Or.inl h2
  · exact Or.inr ⟨g, cap, cur, hv, hgB, grown_keep hg hh (hne g (by rw [hv]; rfl)), r⟩

end Go.Proofs.Ytnjhgcanglkfiaa

