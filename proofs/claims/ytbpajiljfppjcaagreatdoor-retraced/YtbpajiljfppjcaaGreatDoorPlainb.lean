/- Plain facts, continued. -/
import Derived.KernelRfl
import Derived.WalkKit
import Derived.Test.YtbpajiljfppjcaaGreatDoorProg
import Derived.WalkSpells
import Derived.WalkLawsBesides
namespace Go.Proofs.YtbpajiljfppjcaaGreatDoor
namespace Rt

theorem ba_ext {a b : ByteArray} (h : a.toList = b.toList) : a = b := by
  rw [ByteArray.toList_eq, ByteArray.toList_eq] at h
  cases a; cases b
  simp at h
  simp [h]
theorem str_eq (a b : ByteArray) : (a.toList == b.toList) = decide (a = b) := by
  rw [Bool.eq_iff_iff, beq_iff_eq, decide_eq_true_iff]
  exact ⟨ba_ext, fun h => by rw [h]⟩
theorem str_lit (a : ByteArray) (l : List UInt8) : (a.toList == l) = decide (a = ⟨l.toArray⟩) := by
  have h := str_eq a ⟨l.toArray⟩
  rw [show (ByteArray.mk l.toArray).toList = l from ByteArray.toList_mk l] at h
  exact h
theorem str_ne {a b : ByteArray} (h : ¬ a = b) : (a.toList == b.toList) = false := by rw [str_eq]; simpa using h
theorem str_same {a b : ByteArray} (h : a = b) : (a.toList == b.toList) = true := by rw [str_eq]; simpa using h

/-- Is a byte from lo to hi? -/
def within (lo hi : Int) (b : UInt8) : Bool := decide (lo ≤ (b.toNat : Int) ∧ (b.toNat : Int) ≤ hi)

/-- How many bytes from place a on lie side by side from lo to hi. -/
def cw (s : ByteArray) (lo hi : Int) (a : Nat) : Nat := ((s.data.toList.drop a).takeWhile (within lo hi)).length

theorem tw_len {α : Type} (p : α → Bool) : ∀ (l : List α) (k : Nat), k ≤ l.length → (∀ j (h : j < l.length), j < k → p l[j] = true) → (∀ h : k < l.length, p l[k] = false) → (l.takeWhile p).length = k
  | [], k, hk, _, _ => by simp at hk; simp [hk]
  | x :: r, 0, _, _, h3 => by
    have := h3 (by simp)
    simp at this
    simp [this]
  | x :: r, k + 1, hk, h2, h3 => by
    have hx := h2 0 (by simp) (by omega)
    simp at hx
    have ih := tw_len p r k (by simpa using hk) (fun j h hj => by have := h2 (j + 1) (by simpa using h) (by omega); simpa using this) (fun h => by have := h3 (by simpa using h); simpa using this)
    simp [hx, ih]

theorem cw_eq (s : ByteArray) (lo hi : Int) (a e : Nat) (hae : a ≤ e) (he : e ≤ s.size)
    (h1 : ∀ j (h : j < s.size), a ≤ j → j < e → within lo hi s[j] = true) (h2 : ∀ h : e < s.size, within lo hi s[e] = false) : cw s lo hi a = e - a := by
  have hsz : s.data.toList.length = s.size := by simp
  refine tw_len _ _ _ (by simp; omega) (fun j h hj => ?_) (fun h => ?_)
  · simp at h
    have := h1 (a + j) (by omega) (by omega) (by omega)
    simp only [List.getElem_drop]
    exact this
  · simp at h
    have := h2 (by omega)
    have e1 : a + (e - a) = e := by omega
    simp only [List.getElem_drop, e1]
    exact this

theorem cw_le (s : ByteArray) (lo hi : Int) (a : Nat) (ha : a ≤ s.size) : a + cw s lo hi a ≤ s.size := by
  unfold cw
  have h := List.IsPrefix.length_le (List.takeWhile_prefix (within lo hi) (l := s.data.toList.drop a))
  simp at h
  omega

/-- Is a byte one of the signs? -/
def sign (b : Int) : Bool := decide (b ∈ [43, 45, 42, 47, 37, 60, 61, 40, 41, 91, 93, 44])

/-- The byte at a place; 0 behind the end. -/
def byteAt (s : ByteArray) (a : Nat) : Int := if h : a < s.size then (s[a].toNat : Int) else 0
theorem byteAt_lt {s : ByteArray} {a : Nat} (h : a < s.size) : byteAt s a = (s[a].toNat : Int) := by simp [byteAt, h]

/-- The kind and the size of the token at a place. -/
def measK (s : ByteArray) (a : Nat) : Int :=
  if 8 < cw s 97 122 a then 0 else if 0 < cw s 97 122 a then 1 else if 9 < cw s 48 57 a then 0 else if 0 < cw s 48 57 a then 2
  else if a < s.size ∧ sign (byteAt s a) = true then 3 else 0
def measN (s : ByteArray) (a : Nat) : Nat :=
  if 8 < cw s 97 122 a then 0 else if 0 < cw s 97 122 a then cw s 97 122 a else if 9 < cw s 48 57 a then 0 else if 0 < cw s 48 57 a then cw s 48 57 a
  else if a < s.size ∧ sign (byteAt s a) = true then 1 else 0
theorem measN_le (s : ByteArray) (a : Nat) (ha : a ≤ s.size) : a + measN s a ≤ s.size := by
  have h1 := cw_le s 97 122 a ha
  have h2 := cw_le s 48 57 a ha
  unfold measN
  repeat' split
  all_goals omega

/-- A token of the program: its kind, its text. -/
structure Tk where
  kind : Int
  text : ByteArray

def tkCells (t : Tk) : List Value := [.int .i64 t.kind, .string t.text]
def toksCells (ts : List Tk) : List Value := ts.flatMap tkCells
theorem toksCells_snoc (ts : List Tk) (t : Tk) : toksCells (ts ++ [t]) = toksCells ts ++ [.int .i64 t.kind, .string t.text] := by simp [toksCells, tkCells]
theorem toksCells_length (ts : List Tk) : (toksCells ts).length = ts.length * 2 := by
  induction ts with
  | nil => rfl
  | cons t r ih => simp only [toksCells, List.flatMap_cons, List.length_append, List.length_cons] at ih ⊢; simp [tkCells] at ih ⊢; omega

def toksFrom (s : ByteArray) : Nat → Nat → List Tk → Option (List Tk)
  | 0, _, _ => none
  | f + 1, a, acc =>
    if a < s.size then
      if byteAt s a = 32 then toksFrom s f (a + 1) acc
      else if measN s a = 0 ∨ 24 ≤ acc.length then none
      else toksFrom s f (a + measN s a) (acc ++ [⟨measK s a, s.extract a (a + measN s a)⟩])
    else some acc
def toks (s : ByteArray) : Option (List Tk) := toksFrom s (s.size + 1) 0 []

/-- The lines of a text. -/
def linesFrom (s : ByteArray) : Nat → Nat → Nat → List ByteArray → List ByteArray
  | 0, _, _, acc => acc
  | f + 1, start, i, acc =>
    if i < s.size then
      if byteAt s i = 10 then linesFrom s f (i + 1) (i + 1) (acc ++ [s.extract start i]) else linesFrom s f start (i + 1) acc
    else acc ++ [s.extract start s.size]
def lines (s : ByteArray) : List ByteArray := linesFrom s (s.size + 1) 0 0 []

/-- The reserved words. -/
def resvWords : List (List UInt8) := [[118, 97, 114], [97, 114, 114, 97, 121], [112, 114, 111, 99], [101, 110, 100], [101, 108, 115, 101], [105, 102], [119, 104, 105, 108, 101], [115, 101, 116], [116, 111], [112, 114, 105, 110, 116], [114, 101, 97, 100], [99, 97, 108, 108], [114, 101, 116, 117, 114, 110]]
def resv (s : ByteArray) : Bool := resvWords.any (fun l => s.toList == l)

/-- What a sign between two values does. -/
def opCode (s : ByteArray) : Int :=
  if s.toList == [43] then 5 else if s.toList == [45] then 6 else if s.toList == [42] then 7 else if s.toList == [47] then 8 else if s.toList == [37] then 9
  else if s.toList == [60] then 10 else if s.toList == [61] then 11 else 0

/-- How many newlines stand ahead of place k. -/
def nls (s : ByteArray) : Nat → Nat
  | 0 => 0
  | k + 1 => nls s k + (if byteAt s k = 10 then 1 else 0)
theorem nls_le (s : ByteArray) (k : Nat) : nls s k ≤ k := by
  induction k with
  | zero => simp [nls]
  | succ k ih => simp only [nls]; split <;> omega
def tooLong (s : ByteArray) : Bool := decide (40000 < s.size) || decide (100 < 1 + nls s s.size)

end Rt
end Go.Proofs.YtbpajiljfppjcaaGreatDoor

namespace Go.Proofs.YtbpajiljfppjcaaGreatDoor
open Go.RowKit

theorem ret_int {k : IntKind} {a b : Int} (h : a = b) : Ending.returned (.int k a) = .returned (.int k b) := by rw [h]
theorem Tryz.infoStr : (Tryz.prog.info? 9).map (fun i => (i.zero, i.size, i.bytes)) = some (some (.string ByteArray.empty), 1, 16) := by kernel_rfl
/-- A row of the call's own that grew by an append behind a new block: what is below stays. -/
theorem below_append {B : Nat} {w wr w1 : World} {o : Obj} {e : TypeId} {size : Nat} {v : Value} {n : Nat} {xs : List Value} (hnx : Below B w wr) (hB : B ≤ wr.heap.size)
    (hown : wr.ownsRow B e size v n xs) (hgrow : (wr.alloc o).grownBy w1 v.ownBlock) : Below B w w1 :=
  (hnx.alloc hB o).grown hgrow (by simp; omega) (fun j hj => (hown.lt j hj).1)
theorem ownsRow_form {w : World} {B : Nat} {e : TypeId} {size : Nat} {v : Value} {n : Nat} {xs : List Value} (h : w.ownsRow B e size v n xs) : ∃ ad cap, v = .slice ad n cap := by
  obtain ⟨_, h⟩ := h
  rcases h with ⟨rfl, rfl⟩ | ⟨g, cap, cur, rfl, _⟩
  · exact ⟨_, _, rfl⟩
  · exact ⟨_, _, rfl⟩
theorem beqT {a b : Int} (h : (a == b) = true) : a = b := by simpa using h
theorem beqF {a b : Int} (h : (a == b) = false) : ¬ a = b := by simpa using h
theorem hide {p : Prop} (h : p) : Hid p := h
theorem unhide {p : Prop} (h : Hid p) : p := h
theorem block_lt {w : World} {N : Nat} {o : Obj} (h : w.heap[N]? = some o) : N < w.heap.size := by
  by_cases h' : N < w.heap.size
  · exact h'
  · rw [Array.getElem?_eq_none (by omega)] at h; cases h
theorem own_cell {w : World} {B : Nat} {e : TypeId} {size n : Nat} {v : Value} {xs : List Value} (h : w.ownsRow B e size v n xs) {j : Nat} {u : Value} (hj : xs[j]? = some u) :
    ∃ g cap, v = .slice (some ⟨g, 0, none⟩) n cap ∧ B ≤ g ∧ g < w.heap.size ∧ w.cell? ⟨g, j, none⟩ = some u := by
  obtain ⟨h1, h2⟩ := h
  rcases h2 with ⟨rfl, rfl⟩ | ⟨g, cap, cur, rfl, hg, hh, hn, hc, hs, ht⟩
  · have : xs = [] := List.eq_nil_of_length_eq_zero (by simpa using h1)
    subst this
    simp at hj
  · refine ⟨g, cap, rfl, hg, block_lt hh, ?_⟩
    rw [cell_of_row w g j cur e (0, 0) hh]
    rw [← ht, List.getElem?_take] at hj
    split at hj
    · simpa using hj
    · cases hj
theorem own_later {w w' : World} {B : Nat} {e : TypeId} {size n : Nat} {v : Value} {xs : List Value} (h : w.ownsRow B e size v n xs) (hb : Below w.heap.size w w') : w'.ownsRow B e size v n xs := by
  obtain ⟨h1, h2⟩ := h
  refine ⟨h1, ?_⟩
  rcases h2 with h2 | ⟨g, cap, cur, hv, hg, hh, r⟩
  · exact Or.inl h2
  · exact Or.inr ⟨g, cap, cur, hv, hg, by rw [hb.block g (block_lt hh)]; exact hh, r⟩
theorem block_later {w w' : World} {N : Nat} {o : Obj} (h : w.heap[N]? = some o) (hb : Below w.heap.size w w') : w'.heap[N]? = some o := by rw [hb.block N (block_lt h)]; exact h
theorem ret_bool {a b : Bool} (h : a = b) : Ending.returned (.bool a) = .returned (.bool b) := by rw [h]
theorem beq_eq_decide (a b : Int) : (a == b) = decide (a = b) := by rw [Bool.eq_iff_iff]; simp
theorem par_end {ps : List ByteArray} {x : ByteArray} {k : Nat} {b : Bool} (h : (ps.drop k).any (fun y => decide (y = x)) = b) (hk : ¬ k < ps.length) : b = false := by
  rw [List.drop_eq_nil_of_le (by omega)] at h
  exact h.symm
theorem par_hit {ps : List ByteArray} {x : ByteArray} {k : Nat} {b : Bool} (h : (ps.drop k).any (fun y => decide (y = x)) = b) (hk : k < ps.length) (hd : ps[k] = x) : b = true := by
  rw [List.drop_eq_getElem_cons hk, List.any_cons] at h
  rw [← h]
  simp [hd]
theorem par_miss {ps : List ByteArray} {x : ByteArray} {k : Nat} {b : Bool} (h : (ps.drop k).any (fun y => decide (y = x)) = b) (hk : k < ps.length) (hd : ¬ ps[k] = x) : (ps.drop (k + 1)).any (fun y => decide (y = x)) = b := by
  rw [List.drop_eq_getElem_cons hk, List.any_cons] at h
  rw [← h]
  simp [hd]
theorem below_of_drew {w w5 : World} (h : Below w.drew.heap.size w.drew w5) : Below w.heap.size w w5 := ⟨h.os, h.tape, h.output, h.size, h.block⟩
theorem below_to_drew (w : World) : Below w.heap.size w w.drew := ⟨rfl, rfl, rfl, Nat.le_refl _, fun _ _ => rfl⟩
theorem cell_of_block {w : World} {R : Nat} {cs : Array Value} {t : TypeId} (h : w.heap[R]? = some (.cells cs t (0, 0))) (i : Nat) (hi : i < cs.size) : w.cell? ⟨R, i, none⟩ = some cs[i] := by
  rw [cell_of_row w R i cs t (0, 0) h]; simp [hi]
theorem free_of_block {w : World} {R : Nat} {cs : Array Value} {t : TypeId} (h : w.heap[R]? = some (.cells cs t (0, 0))) (i : Nat) : w.frozen? ⟨R, i, none⟩ = false := by
  simp [World.frozen?, h]
theorem block_alloc {w : World} {N : Nat} {o : Obj} (h : w.heap[N]? = some o) (o' : Obj) : (w.alloc o').heap[N]? = some o := by
  have hlt : N < w.heap.size := by
    by_cases h' : N < w.heap.size
    · exact h'
    · rw [Array.getElem?_eq_none (by omega)] at h; cases h
  rw [Below.heap_alloc _ _ _ hlt]
  exact h
theorem set_block {w : World} {M : Nat} {cs : Array Value} {t : TypeId} (h : w.heap[M]? = some (.cells cs t (0, 0))) (i : Nat) (v : Value) : (w.setCell ⟨M, i, none⟩ v).heap[M]? = some (.cells (cs.setIfInBounds i v) t (0, 0)) := by
  show (w.heap.modify M _)[M]? = _
  rw [Array.getElem?_modify]
  simp [h]
theorem ownsRow_base {w : World} {b b' : Nat} {e : TypeId} {size : Nat} {v : Value} {n : Nat} {xs : List Value} (h : w.ownsRow b e size v n xs) (hb : ∀ g, v.ownBlock = some g → b' ≤ g) : w.ownsRow b' e size v n xs := by
  obtain ⟨h1, h2⟩ := h
  refine ⟨h1, ?_⟩
  rcases h2 with h2 | ⟨g, cap, cur, hv, hg, r⟩
  · exact Or.inl h2
  · exact Or.inr ⟨g, cap, cur, hv, hb g (by rw [hv]; rfl), r⟩
theorem ownsRow_mono {w : World} {b b' : Nat} {e : TypeId} {size : Nat} {v : Value} {n : Nat} {xs : List Value} (h : w.ownsRow b e size v n xs) (hb : b' ≤ b) : w.ownsRow b' e size v n xs :=
  ownsRow_base h (fun g hg => Nat.le_trans hb (h.lt g hg).1)
theorem alloc2_new (w : World) (o1 o2 : Obj) : ((w.alloc o1).alloc o2).drew.heap[w.heap.size + 1]? = some o2 := by
  show ((w.alloc o1).alloc o2).heap[w.heap.size + 1]? = some o2
  have := heap_alloc_new (w.alloc o1) o2
  simpa using this
theorem grown_keep {wr w1 : World} {o x : Obj} {row : Option Nat} {k : Nat} (hg : (wr.alloc o).grownBy w1 row) (hk : wr.heap[k]? = some x) (hne : row ≠ some k) : w1.heap[k]? = some x := by
  have hlt := block_lt hk
  rw [hg.block k (by simp; omega) (Ne.symm hne), Below.heap_alloc wr o k hlt]
  exact hk
theorem own_ne {w : World} {B B' : Nat} {e e' : TypeId} {size size' n n' : Nat} {v v' : Value} {xs xs' : List Value} (h : w.ownsRow B e size v n xs) (h' : w.ownsRow B' e' size' v' n' xs') (hne : e ≠ e') : ∀ g, v.ownBlock = some g → v'.ownBlock ≠ some g := by
  intro g hg hg'
  rcases h.2 with ⟨rfl, _⟩ | ⟨g1, c1, cur1, hv1, _, hh1, _⟩
  · cases hg
  · rcases h'.2 with ⟨rfl, _⟩ | ⟨g2, c2, cur2, hv2, _, hh2, _⟩
    · cases hg'
    · rw [hv1] at hg
      rw [hv2] at hg'
      simp [Value.ownBlock] at hg hg'
      subst hg
      subst hg'
      rw [hh1] at hh2
      simp at hh2
      exact hne hh2.2
theorem own_grown {w w1 : World} {o : Obj} {row : Option Nat} {B : Nat} {e : TypeId} {size n : Nat} {v : Value} {xs : List Value} (h : w.ownsRow B e size v n xs) (hg : (w.alloc o).grownBy w1 row) (hne : ∀ g, v.ownBlock = some g → row ≠ some g) : w1.ownsRow B e size v n xs := by
  obtain ⟨h1, h2⟩ := h
  refine ⟨h1, ?_⟩
  rcases h2 with h2 | ⟨g, cap, cur, hv, hgB, hh, r⟩
  · exact Or.inl h2
  · exact Or.inr ⟨g, cap, cur, hv, hgB, grown_keep hg hh (hne g (by rw [hv]; rfl)), r⟩

end Go.Proofs.YtbpajiljfppjcaaGreatDoor

namespace Go.Proofs.YtbpajiljfppjcaaGreatDoor
open Go.RowKit


theorem ret2_int {k : IntKind} {a b c d : Int} (h : a = b) (h' : c = d) : Ending.returned (.tuple #[.int k a, .int k c]) = .returned (.tuple #[.int k b, .int k d]) := by rw [h, h']


set_option maxHeartbeats 400000 in
theorem countWithin_any (s : ByteArray) (a : Nat) (lo hi : Int) (w : World) (hs : s.size ≤ maxLen) (ha : a ≤ s.size) :
    Calls Tryz.prog 137 #[.string s, .int .i64 a, .int .u8 lo, .int .u8 hi] w fun e w' => e = .returned (.int .i64 (Rt.cw s lo hi a)) ∧ w' = w := by
  unfold maxLen at hs
  go_enter Tryz.func137, Tryz.ntmps137
  go_wp2
  go_loop [9] (fun i => ∃ k : Nat, a ≤ k ∧ k ≤ s.size ∧ i = .int .i64 k ∧ ∀ j (h : j < s.size), a ≤ j → j < k → Rt.within lo hi s[j] = true) (fun i => s.size - (intOf i).toNat)
  case atStart => exact ⟨a, Nat.le_refl _, ha, rfl, fun j h h1 h2 => by omega⟩
  case round =>
    obtain ⟨k, hak, hk, rfl, hall⟩ := hrel
    have HA : Hid (∀ j (h : j < s.size), a ≤ j → j < k → Rt.within lo hi s[j] = true) := hall
    clear hall
    by_cases hlt : k < s.size
    · go_wp2
      · have h1 : lo ≤ (s[k].toNat : Int) := by assumption
        have h2 : (s[k].toNat : Int) ≤ hi := by assumption
        go_round
        case rel =>
          refine ⟨k + 1, by omega, by omega, by go_num, fun j h hj1 hj2 => ?_⟩
          by_cases e : j = k
          · subst e; simp [Rt.within, h1, h2]
          · exact HA.out j h hj1 (by omega)
        case measure => simp [intOf]; omega
      · have h2 : hi < (s[k].toNat : Int) := by assumption
        have := Rt.cw_eq s lo hi a k hak hk HA.out (fun h => by simp [Rt.within]; omega)
        go_ret
        exact ⟨ret_int (by rw [this]; omega), rfl⟩
      · have h2 : (s[k].toNat : Int) < lo := by assumption
        have := Rt.cw_eq s lo hi a k hak hk HA.out (fun h => by simp [Rt.within]; omega)
        go_ret
        exact ⟨ret_int (by rw [this]; omega), rfl⟩
    · go_wp2
      go_ret
      have := Rt.cw_eq s lo hi a k hak hk HA.out (fun h => absurd h hlt)
      exact ⟨ret_int (by rw [this]; omega), rfl⟩

set_option maxHeartbeats 400000 in
theorem isSign_any (b : Int) (w : World) :
    Calls Tryz.prog 138 #[.int .u8 b] w fun e w' => e = .returned (.bool (Rt.sign b)) ∧ w' = w := by
  go_enter Tryz.func138, Tryz.ntmps138
  go_wp2
  all_goals (go_ret; exact ⟨by simp_all [Rt.sign], rfl⟩)

set_option maxHeartbeats 400000 in
theorem measure_any (s : ByteArray) (a : Nat) (w : World) (hs : s.size ≤ maxLen) (ha : a ≤ s.size) :
    Calls Tryz.prog 115 #[.string s, .int .i64 a] w fun e w' => e = .returned (.tuple #[.int .i64 (Rt.measK s a), .int .i64 (Rt.measN s a)]) ∧ w' = w := by
  have hs' := hs
  unfold maxLen at hs'
  go_enter Tryz.func115, Tryz.ntmps115
  go_wp2_with (first | (go_at_call 137; refine (countWithin_any _ _ _ _ _ hs ha).mono ?_; rintro e w' ⟨rfl, rfl⟩) | (go_at_call 138; refine (isSign_any _ _).mono ?_; rintro e w' ⟨rfl, rfl⟩))
  · go_ret2
    exact ⟨ret2_int (by unfold Rt.measK; (repeat' split) <;> omega) (by unfold Rt.measN; (repeat' split) <;> omega), rfl⟩
  · go_ret2
    exact ⟨ret2_int (by unfold Rt.measK; (repeat' split) <;> omega) (by unfold Rt.measN; (repeat' split) <;> omega), rfl⟩
  · go_ret2
    exact ⟨ret2_int (by unfold Rt.measK; (repeat' split) <;> omega) (by unfold Rt.measN; (repeat' split) <;> omega), rfl⟩
  · go_ret2
    exact ⟨ret2_int (by unfold Rt.measK; (repeat' split) <;> omega) (by unfold Rt.measN; (repeat' split) <;> omega), rfl⟩
  · have h1 : a < s.size := by assumption
    have h2 : Rt.sign ↑s[a].toNat = true := by assumption
    have h3 : Hid (a < s.size ∧ Rt.sign (Rt.byteAt s a) = true) := ⟨h1, by rw [Rt.byteAt_lt h1]; exact h2⟩
    go_ret2
    exact ⟨ret2_int (by unfold Rt.measK; rw [if_pos h3.out]; (repeat' split) <;> omega) (by unfold Rt.measN; rw [if_pos h3.out]; (repeat' split) <;> omega), rfl⟩
  · have h1 : a < s.size := by assumption
    have h2 : Rt.sign ↑s[a].toNat = false := by assumption
    have h3 : Hid (¬ (a < s.size ∧ Rt.sign (Rt.byteAt s a) = true)) := by rintro ⟨_, h⟩; rw [Rt.byteAt_lt h1, h2] at h; cases h
    go_ret2
    exact ⟨ret2_int (by unfold Rt.measK; rw [if_neg h3.out]; (repeat' split) <;> omega) (by unfold Rt.measN; rw [if_neg h3.out]; (repeat' split) <;> omega), rfl⟩
  · go_ret2
    exact ⟨ret2_int (by unfold Rt.measK; (repeat' split) <;> omega) (by unfold Rt.measN; (repeat' split) <;> omega), rfl⟩

set_option maxHeartbeats 400000 in
theorem tooLong_any (s : ByteArray) (w : World) (hs : s.size ≤ maxLen) :
    Calls Tryz.prog 60 #[.string s] w fun e w' => e = .returned (.bool (Rt.tooLong s)) ∧ w' = w := by
  unfold maxLen at hs
  by_cases hbig : 40000 < s.size
  · go_enter Tryz.func60, Tryz.ntmps60
    go_wp2
    go_ret
    exact ⟨by simp [Rt.tooLong, hbig], rfl⟩
  · have hbig' : ¬ (40000 : Int) < (s.size : Int) := by omega
    go_enter Tryz.func60, Tryz.ntmps60
    go_wp2
    go_loop [3, 4] (fun n i => ∃ k : Nat, k ≤ s.size ∧ i = .int .i64 k ∧ n = .int .i64 (1 + Rt.nls s k : Nat)) (fun _ i => s.size - (intOf i).toNat)
    case atStart => exact ⟨0, Nat.zero_le _, rfl, rfl⟩
    case round =>
      obtain ⟨k, hk, rfl, rfl⟩ := hrel
      have hn := Rt.nls_le s k
      by_cases hlt : k < s.size
      · have HS : Hid (Rt.nls s (k + 1) = Rt.nls s k + (if (s[k].toNat : Int) = 10 then 1 else 0)) := by rw [← Rt.byteAt_lt hlt]; rfl
        go_wp2
        all_goals
          go_round
          case rel => exact ⟨k + 1, by omega, by go_num, by rw [HS.out]; first | (rw [if_pos (beqT (by assumption))]; go_num) | (rw [if_neg (beqF (by assumption))]; go_num)⟩
          case measure => simp [intOf]; omega
      · have hkk : k = s.size := by omega
        subst hkk
        go_wp2
        go_ret
        exact ⟨by simp [Rt.tooLong, hbig]; omega, rfl⟩

theorem Tryz.infoTok : (Tryz.prog.info? 154).map (fun i => (i.zero, i.size, i.bytes)) = some (some (.agg #[.int .i64 0, .string ByteArray.empty]), 2, 24) := by kernel_rfl



set_option maxHeartbeats 400000 in
set_option maxRecDepth 100000 in
theorem tokens_any (s : ByteArray) (w : World) (hs : s.size ≤ 40000) :
    Calls Tryz.prog 85 #[.string s] w fun e w' => Below w.heap.size w w' ∧
      ((Rt.toks s = none ∧ e = .returned (.tuple #[.slice none 0 0, .bool false])) ∨
       ∃ ts v, Rt.toks s = some ts ∧ e = .returned (.tuple #[v, .bool true]) ∧ w'.ownsRow w.heap.size 154 2 v ts.length (Rt.toksCells ts)) := by
  have hm : s.size ≤ maxLen := by unfold maxLen; omega
  obtain ⟨i0, hi, hz0, hz1, hz2⟩ := info_parts Tryz.infoTok
  go_enter Tryz.func85, Tryz.ntmps85
  go_wp2
  go_loopw [4, 5] (fun v i wr => ∃ (k f : Nat) (acc : List Rt.Tk), k ≤ s.size ∧ i = .int .i64 k ∧ s.size < f + k ∧ acc.length ≤ 24 ∧ Rt.toksFrom s f k acc = Rt.toks s ∧ wr.ownsRow w.heap.size 154 2 v acc.length (Rt.toksCells acc) ∧ Below w.heap.size w wr)
    (fun _ i _ => s.size - (intOf i).toNat)
  case atStart => exact ⟨0, s.size + 1, [], Nat.zero_le _, rfl, by omega, by simp, rfl, World.ownsRow_nil _ _ _ _, Below.refl _ _⟩
  case round =>
    obtain ⟨k, f, acc, hk, rfl, hf, hacc, heq, hown, hnx⟩ := hrel
    have HQ : Hid (Rt.toksFrom s f k acc = Rt.toks s) := heq
    clear heq
    have hsz := hnx.size
    obtain ⟨f, rfl⟩ : ∃ g, f = g + 1 := ⟨f - 1, by omega⟩
    obtain ⟨ad, cap, rfl⟩ := ownsRow_form hown
    by_cases hlt : k < s.size
    · have hB := Rt.byteAt_lt hlt
      by_cases hb : s[k].toNat = 32
      · have HR : Hid (Rt.toksFrom s f (k + 1) acc = Rt.toks s) := by
          have h := HQ.out
          rw [Rt.toksFrom, if_pos hlt, if_pos (by rw [hB, hb]; rfl)] at h
          exact h
        clear hB
        have hb' : ((s[k].toNat : Int) == 32) = true := by simp [hb]
        clear hb
        go_wp2_with fail
        go_roundw
        case rel => exact ⟨k + 1, f, acc, by omega, by go_num, by omega, hacc, HR.out, hown, hnx⟩
        case measure => simp [intOf]; omega
      · have hb' : ((s[k].toNat : Int) == 32) = false := by simp; omega
        have hle := Rt.measN_le s k (by omega)
        have hne : ¬ Rt.byteAt s k = 32 := by rw [hB]; omega
        clear hB
        by_cases hz : Rt.measN s k = 0
        · have HR : Hid (Rt.toks s = none) := by
            have h := HQ.out
            rw [Rt.toksFrom, if_pos hlt, if_neg hne, if_pos (Or.inl hz)] at h
            exact h.symm
          clear hne
          go_wp2_with (go_at_call 115; refine (measure_any s k _ hm (by omega)).mono ?_; rintro e w' ⟨rfl, rfl⟩; rw [hz])
          go_ret2
          exact ⟨hnx, Or.inl ⟨HR.out, rfl⟩⟩
        · by_cases h24 : 24 ≤ acc.length
          · have HR : Hid (Rt.toks s = none) := by
              have h := HQ.out
              rw [Rt.toksFrom, if_pos hlt, if_neg hne, if_pos (Or.inr h24)] at h
              exact h.symm
            clear hne
            have hz' : ((Rt.measN s k : Int) == 0) = false := by simp; omega
            go_wp2_with (go_at_call 115; refine (measure_any s k _ hm (by omega)).mono ?_; rintro e w' ⟨rfl, rfl⟩)
            go_ret2
            exact ⟨hnx, Or.inl ⟨HR.out, rfl⟩⟩
          · have HR : Hid (Rt.toksFrom s f (k + Rt.measN s k) (acc ++ [⟨Rt.measK s k, s.extract k (k + Rt.measN s k)⟩]) = Rt.toks s) := by
              have h := HQ.out
              rw [Rt.toksFrom, if_pos hlt, if_neg hne, if_neg (by omega)] at h
              exact h
            clear hne
            have hz' : ((Rt.measN s k : Int) == 0) = false := by simp; omega
            go_wp2_with (first
              | (at_builtin; refine wpList_append_own _ rfl (.tmp 31) (.tmp 40) 114 rfl w.heap.size 154 i0 _ 2 24 Tryz.underlying114 hi hz0 hz1 hz2 rfl (by decide) _ _ _ rfl (hown.alloc _) ⟨_, 0, none⟩ 1 1 [.int .i64 (Rt.measK s k), .string (s.extract k (k + Rt.measN s k))] rfl rfl (cell_two_new _ _ _ _) ?c2 ?c3 ?c4 ?c5 ?_)
              | (go_at_call 115; refine (measure_any s k _ hm (by omega)).mono ?_; rintro e w' ⟨rfl, rfl⟩))
            case c2 => intro u hu; simp at hu; rcases hu with rfl | rfl <;> rfl
            case c3 => unfold maxLen; omega
            case c4 => omega
            case c5 => simp; omega
            intro v' w1 hown' hgrow _
            have hb2 := below_append hnx hsz hown hgrow
            clear hgrow hown hnx
            go_wp2
            go_roundw
            case rel => exact ⟨k + Rt.measN s k, f, _, by omega, by go_num, by omega, by simp; omega, HR.out, by rw [Rt.toksCells_snoc]; simpa using hown', hb2⟩
            case measure => simp [intOf]; omega
    · go_wp2
      go_ret2
      have h := HQ.out
      rw [Rt.toksFrom, if_neg hlt] at h
      exact ⟨hnx, Or.inr ⟨acc, _, h.symm, rfl, hown⟩⟩

set_option maxHeartbeats 400000 in
set_option maxRecDepth 100000 in
theorem lines_any (s : ByteArray) (w : World) (hs : s.size ≤ 40000) :
    Calls Tryz.prog 84 #[.string s] w fun e w' => Below w.heap.size w w' ∧
      ∃ v, e = .returned v ∧ w'.ownsRow w.heap.size 9 1 v (Rt.lines s).length ((Rt.lines s).map Value.string) := by
  obtain ⟨i0, hi, hz0, hz1, hz2⟩ := info_parts Tryz.infoStr
  go_enter Tryz.func84, Tryz.ntmps84
  go_wp2
  go_loopw [3, 4, 5] (fun v st i wr => ∃ (k a f : Nat) (acc : List ByteArray), a ≤ k ∧ k ≤ s.size ∧ i = .int .i64 k ∧ st = .int .i64 a ∧ s.size < f + k ∧ acc.length ≤ k ∧ Rt.linesFrom s f a k acc = Rt.lines s ∧ wr.ownsRow w.heap.size 9 1 v acc.length (acc.map Value.string) ∧ Below w.heap.size w wr)
    (fun _ _ i _ => s.size - (intOf i).toNat)
  case atStart => exact ⟨0, 0, s.size + 1, [], Nat.le_refl _, Nat.zero_le _, rfl, rfl, by omega, by simp, rfl, World.ownsRow_nil _ _ _ _, Below.refl _ _⟩
  case round =>
    obtain ⟨k, a, f, acc, hak, hk, rfl, rfl, hf, hacc, heq, hown, hnx⟩ := hrel
    have HQ : Hid (Rt.linesFrom s f a k acc = Rt.lines s) := heq
    clear heq
    have hsz := hnx.size
    obtain ⟨f, rfl⟩ : ∃ g, f = g + 1 := ⟨f - 1, by omega⟩
    obtain ⟨ad, cap, rfl⟩ := ownsRow_form hown
    by_cases hlt : k < s.size
    · have hB := Rt.byteAt_lt hlt
      by_cases hb : s[k].toNat = 10
      · have HR : Hid (Rt.linesFrom s f (k + 1) (k + 1) (acc ++ [s.extract a k]) = Rt.lines s) := by
          have h := HQ.out
          rw [Rt.linesFrom, if_pos hlt, if_pos (by rw [hB, hb]; rfl)] at h
          exact h
        clear hB
        have hb' : ((s[k].toNat : Int) == 10) = true := by simp [hb]
        clear hb
        go_wp2_with (at_builtin; refine wpList_append_own _ rfl (.tmp 16) (.tmp 21) 70 rfl w.heap.size 9 i0 _ 1 16 Tryz.underlying70 hi hz0 hz1 hz2 rfl (by decide) _ _ _ rfl (hown.alloc _) ⟨_, 0, none⟩ 1 1 [.string (s.extract a k)] rfl rfl (cell_one_new _ _ _) ?c2 ?c3 ?c4 ?c5 ?_)
        case c2 => intro u hu; simp at hu; rcases hu with rfl; rfl
        case c3 => unfold maxLen; omega
        case c4 => omega
        case c5 => simp; omega
        intro v' w1 hown' hgrow _
        have hb2 := below_append hnx hsz hown hgrow
        clear hgrow hown hnx
        go_wp2
        go_roundw
        case rel => exact ⟨k + 1, k + 1, f, _, by omega, by omega, by go_num, by go_num, by omega, by simp; omega, HR.out, by simpa using hown', hb2⟩
        case measure => simp [intOf]; omega
      · have HR : Hid (Rt.linesFrom s f a (k + 1) acc = Rt.lines s) := by
          have h := HQ.out
          rw [Rt.linesFrom, if_pos hlt, if_neg (by rw [hB]; omega)] at h
          exact h
        clear hB
        have hb' : ((s[k].toNat : Int) == 10) = false := by simp; omega
        go_wp2
        go_roundw
        case rel => exact ⟨k + 1, a, f, acc, by omega, by omega, by go_num, rfl, by omega, by omega, HR.out, hown, hnx⟩
        case measure => simp [intOf]; omega
    · have HR : Hid (acc ++ [s.extract a s.size] = Rt.lines s) := by
        have h := HQ.out
        rw [Rt.linesFrom, if_neg hlt] at h
        exact h
      go_wp2_with (at_builtin; refine wpList_append_own _ rfl (.tmp 25) (.tmp 29) 70 rfl w.heap.size 9 i0 _ 1 16 Tryz.underlying70 hi hz0 hz1 hz2 rfl (by decide) _ _ _ rfl (hown.alloc _) ⟨_, 0, none⟩ 1 1 [.string (s.extract a s.size)] rfl rfl (cell_one_new _ _ _) ?d2 ?d3 ?d4 ?d5 ?_)
      case d2 => intro u hu; simp at hu; rcases hu with rfl; rfl
      case d3 => unfold maxLen; omega
      case d4 => omega
      case d5 => simp; omega
      intro v' w1 hown' hgrow _
      have hb2 := below_append hnx hsz hown hgrow
      clear hgrow hown hnx
      go_wp2
      go_ret
      exact ⟨hb2, _, rfl, by rw [← HR.out]; simpa using hown'⟩

end Go.Proofs.YtbpajiljfppjcaaGreatDoor

namespace Go.Proofs.YtbpajiljfppjcaaGreatDoor
namespace Rt
open Go.RowKit

/-- What a text of digits is worth, as Go reckons it. -/
def valTo (s : ByteArray) : Nat → Int
  | 0 => 0
  | k + 1 => wrap64 (wrap64 (valTo s k * 10) + (byteAt s k - 48) % 256)
def val (s : ByteArray) : Int := valTo s s.size

end Rt
end Go.Proofs.YtbpajiljfppjcaaGreatDoor

