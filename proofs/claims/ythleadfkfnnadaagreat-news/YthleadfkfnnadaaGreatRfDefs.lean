/- The document's answer as plain functions: no program, no walk. -/
import Derived.KernelRfl
import Derived.WalkKit
import Derived.Test.YthleadfkfnnadaaGreatProg
import Derived.WalkSpells
import Derived.WalkLawsBesides
namespace Go.Proofs.YthleadfkfnnadaaGreat
namespace Rt
theorem ba_ext {a b : ByteArray} (h : a.toList = b.toList) : a = b := by
  rw [ByteArray.toList_eq, ByteArray.toList_eq] at h
  cases a; cases b
  simp at h
  simp [h]
theorem str_eq (a b : ByteArray) : (a.toList == b.toList) = decide (a = b) := by
  rw [Bool.eq_iff_iff, beq_iff_eq, decide_eq_true_iff]
  exact ⟨ba_ext, fun h => by rw [h]⟩
theorem str_lit (a : ByteArray) (l : List UInt8) : (a.toList == l) = decide (a = ⟨l.toArray⟩) := by
  have h := str_eq a ⟨l.toArray⟩
  rw [show (ByteArray.mk l.toArray).toList = l from ByteArray.toList_mk l] at h
  exact h
theorem str_ne {a b : ByteArray} (h : ¬ a = b) : (a.toList == b.toList) = false := by rw [str_eq]; simpa using h
theorem str_same {a b : ByteArray} (h : a = b) : (a.toList == b.toList) = true := by rw [str_eq]; simpa using h
def within (lo hi : Int) (b : UInt8) : Bool := decide (lo ≤ (b.toNat : Int) ∧ (b.toNat : Int) ≤ hi)
def cw (s : ByteArray) (lo hi : Int) (a : Nat) : Nat := ((s.data.toList.drop a).takeWhile (within lo hi)).length
theorem tw_len {α : Type} (p : α → Bool) : ∀ (l : List α) (k : Nat), k ≤ l.length → (∀ j (h : j < l.length), j < k → p l[j] = true) → (∀ h : k < l.length, p l[k] = false) → (l.takeWhile p).length = k
  | [], k, hk, _, _ => by simp at hk; simp [hk]
  | x :: r, 0, _, _, h3 => by
    have := h3 (by simp)
    simp at this
    simp [this]
  | x :: r, k + 1, hk, h2, h3 => by
    have hx := h2 0 (by simp) (by omega)
    simp at hx
    have ih := tw_len p r k (by simpa using hk) (fun j h hj => by have := h2 (j + 1) (by simpa using h) (by omega); simpa using this) (fun h => by have := h3 (by simpa using h); simpa using this)
    simp [hx, ih]
theorem cw_eq (s : ByteArray) (lo hi : Int) (a e : Nat) (hae : a ≤ e) (he : e ≤ s.size)
    (h1 : ∀ j (h : j < s.size), a ≤ j → j < e → within lo hi s[j] = true) (h2 : ∀ h : e < s.size, within lo hi s[e] = false) : cw s lo hi a = e - a := by
  have hsz : s.data.toList.length = s.size := by simp
  refine tw_len _ _ _ (by simp; omega) (fun j h hj => ?_) (fun h => ?_)
  · simp at h
    have := h1 (a + j) (by omega) (by omega) (by omega)
    simp only [List.getElem_drop]
    exact this
  · simp at h
    have := h2 (by omega)
    have e1 : a + (e - a) = e := by omega
    simp only [List.getElem_drop, e1]
    exact this
theorem cw_le (s : ByteArray) (lo hi : Int) (a : Nat) (ha : a ≤ s.size) : a + cw s lo hi a ≤ s.size := by
  unfold cw
  have h := List.IsPrefix.length_le (List.takeWhile_prefix (within lo hi) (l := s.data.toList.drop a))
  simp at h
  omega
def sign (b : Int) : Bool := decide (b ∈ [43, 45, 42, 47, 37, 60, 61, 40, 41, 91, 93, 44])
def byteAt (s : ByteArray) (a : Nat) : Int := if h : a < s.size then (s[a].toNat : Int) else 0
theorem byteAt_lt {s : ByteArray} {a : Nat} (h : a < s.size) : byteAt s a = (s[a].toNat : Int) := by simp [byteAt, h]
def measK (s : ByteArray) (a : Nat) : Int :=
  if 8 < cw s 97 122 a then 0 else if 0 < cw s 97 122 a then 1 else if 9 < cw s 48 57 a then 0 else if 0 < cw s 48 57 a then 2
  else if a < s.size ∧ sign (byteAt s a) = true then 3 else 0
def measN (s : ByteArray) (a : Nat) : Nat :=
  if 8 < cw s 97 122 a then 0 else if 0 < cw s 97 122 a then cw s 97 122 a else if 9 < cw s 48 57 a then 0 else if 0 < cw s 48 57 a then cw s 48 57 a
  else if a < s.size ∧ sign (byteAt s a) = true then 1 else 0
theorem measN_le (s : ByteArray) (a : Nat) (ha : a ≤ s.size) : a + measN s a ≤ s.size := by
  have h1 := cw_le s 97 122 a ha
  have h2 := cw_le s 48 57 a ha
  unfold measN
  repeat' split
  all_goals omega
structure Tk where
  kind : Int
  text : ByteArray
def tkCells (t : Tk) : List Value := [.int .i64 t.kind, .string t.text]
def toksCells (ts : List Tk) : List Value := ts.flatMap tkCells
theorem toksCells_snoc (ts : List Tk) (t : Tk) : toksCells (ts ++ [t]) = toksCells ts ++ [.int .i64 t.kind, .string t.text] := by simp [toksCells, tkCells]
def toksFrom (s : ByteArray) : Nat → Nat → List Tk → Option (List Tk)
  | 0, _, _ => none
  | f + 1, a, acc =>
    if a < s.size then
      if byteAt s a = 32 then toksFrom s f (a + 1) acc
      else if measN s a = 0 ∨ 24 ≤ acc.length then none
      else toksFrom s f (a + measN s a) (acc ++ [⟨measK s a, s.extract a (a + measN s a)⟩])
    else some acc
def toks (s : ByteArray) : Option (List Tk) := toksFrom s (s.size + 1) 0 []
def linesFrom (s : ByteArray) : Nat → Nat → Nat → List ByteArray → List ByteArray
  | 0, _, _, acc => acc
  | f + 1, start, i, acc =>
    if i < s.size then
      if byteAt s i = 10 then linesFrom s f (i + 1) (i + 1) (acc ++ [s.extract start i]) else linesFrom s f start (i + 1) acc
    else acc ++ [s.extract start s.size]
def lines (s : ByteArray) : List ByteArray := linesFrom s (s.size + 1) 0 0 []
def resvWords : List (List UInt8) := [[118, 97, 114], [97, 114, 114, 97, 121], [112, 114, 111, 99], [101, 110, 100], [101, 108, 115, 101], [105, 102], [119, 104, 105, 108, 101], [115, 101, 116], [116, 111], [112, 114, 105, 110, 116], [114, 101, 97, 100], [99, 97, 108, 108], [114, 101, 116, 117, 114, 110]]
def resv (s : ByteArray) : Bool := resvWords.any (fun l => s.toList == l)
def opCode (s : ByteArray) : Int :=
  if s.toList == [43] then 5 else if s.toList == [45] then 6 else if s.toList == [42] then 7 else if s.toList == [47] then 8 else if s.toList == [37] then 9
  else if s.toList == [60] then 10 else if s.toList == [61] then 11 else 0
def nls (s : ByteArray) : Nat → Nat
  | 0 => 0
  | k + 1 => nls s k + (if byteAt s k = 10 then 1 else 0)
theorem nls_le (s : ByteArray) (k : Nat) : nls s k ≤ k := by
  induction k with
  | zero => simp [nls]
  | succ k ih => simp only [nls]; split <;> omega
def tooLong (s : ByteArray) : Bool := decide (40000 < s.size) || decide (100 < 1 + nls s s.size)
end Rt
end Go.Proofs.YthleadfkfnnadaaGreat
namespace Go.Proofs.YthleadfkfnnadaaGreat
open Go.RowKit
theorem ret_int {k : IntKind} {a b : Int} (h : a = b) : Ending.returned (.int k a) = .returned (.int k b) := by rw [h]
theorem Tryz.infoStr : (Tryz.prog.info? 9).map (fun i => (i.zero, i.size, i.bytes)) = some (some (.string ByteArray.empty), 1, 16) := by kernel_rfl
theorem below_append {B : Nat} {w wr w1 : World} {o : Obj} {e : TypeId} {size : Nat} {v : Value} {n : Nat} {xs : List Value} (hnx : Below B w wr) (hB : B ≤ wr.heap.size)
    (hown : wr.ownsRow B e size v n xs) (hgrow : (wr.alloc o).grownBy w1 v.ownBlock) : Below B w w1 :=
  (hnx.alloc hB o).grown hgrow (by simp; omega) (fun j hj => (hown.lt j hj).1)
theorem ownsRow_form {w : World} {B : Nat} {e : TypeId} {size : Nat} {v : Value} {n : Nat} {xs : List Value} (h : w.ownsRow B e size v n xs) : ∃ ad cap, v = .slice ad n cap := by
  obtain ⟨_, h⟩ := h
  rcases h with ⟨rfl, rfl⟩ | ⟨g, cap, cur, rfl, _⟩
  · exact ⟨_, _, rfl⟩
  · exact ⟨_, _, rfl⟩
theorem beqT {a b : Int} (h : (a == b) = true) : a = b := by simpa using h
theorem beqF {a b : Int} (h : (a == b) = false) : ¬ a = b := by simpa using h
theorem hide {p : Prop} (h : p) : Hid p := h
theorem unhide {p : Prop} (h : Hid p) : p := h
theorem block_lt {w : World} {N : Nat} {o : Obj} (h : w.heap[N]? = some o) : N < w.heap.size := by
  by_cases h' : N < w.heap.size
  · exact h'
  · rw [Array.getElem?_eq_none (by omega)] at h; cases h
theorem own_cell {w : World} {B : Nat} {e : TypeId} {size n : Nat} {v : Value} {xs : List Value} (h : w.ownsRow B e size v n xs) {j : Nat} {u : Value} (hj : xs[j]? = some u) :
    ∃ g cap, v = .slice (some ⟨g, 0, none⟩) n cap ∧ B ≤ g ∧ g < w.heap.size ∧ w.cell? ⟨g, j, none⟩ = some u := by
  obtain ⟨h1, h2⟩ := h
  rcases h2 with ⟨rfl, rfl⟩ | ⟨g, cap, cur, rfl, hg, hh, hn, hc, hs, ht⟩
  · have : xs = [] := List.eq_nil_of_length_eq_zero (by simpa using h1)
    subst this
    simp at hj
  · refine ⟨g, cap, rfl, hg, block_lt hh, ?_⟩
    rw [cell_of_row w g j cur e (0, 0) hh]
    rw [← ht, List.getElem?_take] at hj
    split at hj
    · simpa using hj
    · cases hj
theorem own_later {w w' : World} {B : Nat} {e : TypeId} {size n : Nat} {v : Value} {xs : List Value} (h : w.ownsRow B e size v n xs) (hb : Below w.heap.size w w') : w'.ownsRow B e size v n xs := by
  obtain ⟨h1, h2⟩ := h
  refine ⟨h1, ?_⟩
  rcases h2 with h2 | ⟨g, cap, cur, hv, hg, hh, r⟩
  · exact Or.inl h2
  · exact Or.inr ⟨g, cap, cur, hv, hg, by rw [hb.block g (block_lt hh)]; exact hh, r⟩
theorem block_later {w w' : World} {N : Nat} {o : Obj} (h : w.heap[N]? = some o) (hb : Below w.heap.size w w') : w'.heap[N]? = some o := by rw [hb.block N (block_lt h)]; exact h
theorem ret_bool {a b : Bool} (h : a = b) : Ending.returned (.bool a) = .returned (.bool b) := by rw [h]
theorem beq_eq_decide (a b : Int) : (a == b) = decide (a = b) := by rw [Bool.eq_iff_iff]; simp
theorem par_end {ps : List ByteArray} {x : ByteArray} {k : Nat} {b : Bool} (h : (ps.drop k).any (fun y => decide (y = x)) = b) (hk : ¬ k < ps.length) : b = false := by
  rw [List.drop_eq_nil_of_le (by omega)] at h
  exact h.symm
theorem par_hit {ps : List ByteArray} {x : ByteArray} {k : Nat} {b : Bool} (h : (ps.drop k).any (fun y => decide (y = x)) = b) (hk : k < ps.length) (hd : ps[k] = x) : b = true := by
  rw [List.drop_eq_getElem_cons hk, List.any_cons] at h
  rw [← h]
  simp [hd]
theorem par_miss {ps : List ByteArray} {x : ByteArray} {k : Nat} {b : Bool} (h : (ps.drop k).any (fun y => decide (y = x)) = b) (hk : k < ps.length) (hd : ¬ ps[k] = x) : (ps.drop (k + 1)).any (fun y => decide (y = x)) = b := by
  rw [List.drop_eq_getElem_cons hk, List.any_cons] at h
  rw [← h]
  simp [hd]
theorem below_of_drew {w w5 : World} (h : Below w.drew.heap.size w.drew w5) : Below w.heap.size w w5 := ⟨h.os, h.tape, h.output, h.size, h.block⟩
theorem below_to_drew (w : World) : Below w.heap.size w w.drew := ⟨rfl, rfl, rfl, Nat.le_refl _, fun _ _ => rfl⟩
theorem cell_of_block {w : World} {R : Nat} {cs : Array Value} {t : TypeId} (h : w.heap[R]? = some (.cells cs t (0, 0))) (i : Nat) (hi : i < cs.size) : w.cell? ⟨R, i, none⟩ = some cs[i] := by
  rw [cell_of_row w R i cs t (0, 0) h]; simp [hi]
theorem free_of_block {w : World} {R : Nat} {cs : Array Value} {t : TypeId} (h : w.heap[R]? = some (.cells cs t (0, 0))) (i : Nat) : w.frozen? ⟨R, i, none⟩ = false := by
  simp [World.frozen?, h]
theorem block_alloc {w : World} {N : Nat} {o : Obj} (h : w.heap[N]? = some o) (o' : Obj) : (w.alloc o').heap[N]? = some o := by
  have hlt : N < w.heap.size := by
    by_cases h' : N < w.heap.size
    · exact h'
    · rw [Array.getElem?_eq_none (by omega)] at h; cases h
  rw [Below.heap_alloc _ _ _ hlt]
  exact h
theorem set_block {w : World} {M : Nat} {cs : Array Value} {t : TypeId} (h : w.heap[M]? = some (.cells cs t (0, 0))) (i : Nat) (v : Value) : (w.setCell ⟨M, i, none⟩ v).heap[M]? = some (.cells (cs.setIfInBounds i v) t (0, 0)) := by
  show (w.heap.modify M _)[M]? = _
  rw [Array.getElem?_modify]
  simp [h]
theorem ownsRow_base {w : World} {b b' : Nat} {e : TypeId} {size : Nat} {v : Value} {n : Nat} {xs : List Value} (h : w.ownsRow b e size v n xs) (hb : ∀ g, v.ownBlock = some g → b' ≤ g) : w.ownsRow b' e size v n xs := by
  obtain ⟨h1, h2⟩ := h
  refine ⟨h1, ?_⟩
  rcases h2 with h2 | ⟨g, cap, cur, hv, hg, r⟩
  · exact Or.inl h2
  · exact Or.inr ⟨g, cap, cur, hv, hb g (by rw [hv]; rfl), r⟩
theorem ownsRow_mono {w : World} {b b' : Nat} {e : TypeId} {size : Nat} {v : Value} {n : Nat} {xs : List Value} (h : w.ownsRow b e size v n xs) (hb : b' ≤ b) : w.ownsRow b' e size v n xs :=
  ownsRow_base h (fun g hg => Nat.le_trans hb (h.lt g hg).1)
theorem alloc2_new (w : World) (o1 o2 : Obj) : ((w.alloc o1).alloc o2).drew.heap[w.heap.size + 1]? = some o2 := by
  show ((w.alloc o1).alloc o2).heap[w.heap.size + 1]? = some o2
  have := heap_alloc_new (w.alloc o1) o2
  simpa using this
theorem grown_keep {wr w1 : World} {o x : Obj} {row : Option Nat} {k : Nat} (hg : (wr.alloc o).grownBy w1 row) (hk : wr.heap[k]? = some x) (hne : row ≠ some k) : w1.heap[k]? = some x := by
  have hlt := block_lt hk
  rw [hg.block k (by simp; omega) (Ne.symm hne), Below.heap_alloc wr o k hlt]
  exact hk
theorem own_ne {w : World} {B B' : Nat} {e e' : TypeId} {size size' n n' : Nat} {v v' : Value} {xs xs' : List Value} (h : w.ownsRow B e size v n xs) (h' : w.ownsRow B' e' size' v' n' xs') (hne : e ≠ e') : ∀ g, v.ownBlock = some g → v'.ownBlock ≠ some g := by
  intro g hg hg'
  rcases h.2 with ⟨rfl, _⟩ | ⟨g1, c1, cur1, hv1, _, hh1, _⟩
  · cases hg
  · rcases h'.2 with ⟨rfl, _⟩ | ⟨g2, c2, cur2, hv2, _, hh2, _⟩
    · cases hg'
    · rw [hv1] at hg
      rw [hv2] at hg'
      simp [Value.ownBlock] at hg hg'
      subst hg
      subst hg'
      rw [hh1] at hh2
      simp at hh2
      exact hne hh2.2
theorem own_grown {w w1 : World} {o : Obj} {row : Option Nat} {B : Nat} {e : TypeId} {size n : Nat} {v : Value} {xs : List Value} (h : w.ownsRow B e size v n xs) (hg : (w.alloc o).grownBy w1 row) (hne : ∀ g, v.ownBlock = some g → row ≠ some g) : w1.ownsRow B e size v n xs := by
  obtain ⟨h1, h2⟩ := h
  refine ⟨h1, ?_⟩
  rcases h2 with h2 | ⟨g, cap, cur, hv, hgB, hh, r⟩
  · exact Or.inl h2
  · exact Or.inr ⟨g, cap, cur, hv, hgB, grown_keep hg hh (hne g (by rw [hv]; rfl)), r⟩
namespace Rf
def letterB (b : Int) : Bool := decide (97 ≤ b) && decide (b ≤ 122)
def digitB (b : Int) : Bool := decide (48 ≤ b) && decide (b ≤ 57)
def inB (xs : List ByteArray) (x : ByteArray) : Bool := xs.any (fun y => decide (y = x))
def resvW : List ByteArray := [⟨#[118, 97, 114]⟩, ⟨#[97, 114, 114, 97, 121]⟩, ⟨#[112, 114, 111, 99]⟩, ⟨#[101, 110, 100]⟩, ⟨#[101, 108, 115, 101]⟩, ⟨#[105, 102]⟩, ⟨#[119, 104, 105, 108, 101]⟩, ⟨#[115, 101, 116]⟩, ⟨#[116, 111]⟩, ⟨#[112, 114, 105, 110, 116]⟩, ⟨#[114, 101, 97, 100]⟩, ⟨#[99, 97, 108, 108]⟩, ⟨#[114, 101, 116, 117, 114, 110]⟩]
def signW : List ByteArray := [⟨#[43]⟩, ⟨#[45]⟩, ⟨#[42]⟩, ⟨#[47]⟩, ⟨#[37]⟩, ⟨#[60]⟩, ⟨#[61]⟩, ⟨#[40]⟩, ⟨#[41]⟩, ⟨#[91]⟩, ⟨#[93]⟩, ⟨#[44]⟩]
def nameB (x : ByteArray) : Bool := decide (0 < x.size) && letterB (Rt.byteAt x 0) && !inB resvW x
def numberB (x : ByteArray) : Bool := decide (0 < x.size) && digitB (Rt.byteAt x 0)
def cmpW : List ByteArray := [⟨#[60]⟩, ⟨#[61]⟩]
def addW : List ByteArray := [⟨#[43]⟩, ⟨#[45]⟩]
def divW : List ByteArray := [⟨#[42]⟩, ⟨#[47]⟩, ⟨#[37]⟩]
def opdB (x : ByteArray) : Bool := nameB x || numberB x || (x.toList == [41]) || (x.toList == [93])
def worthTo (s : ByteArray) : Nat → Int
  | 0 => 0
  | k + 1 => wrap64 (wrap64 (10 * worthTo s k) + (Rt.byteAt s k - 48) % 256)
def worth (s : ByteArray) : Int := worthTo s s.size
def runN (s : ByteArray) (a : Nat) : Nat := if letterB (Rt.byteAt s a) = true then Rt.cw s 97 122 a else if digitB (Rt.byteAt s a) = true then Rt.cw s 48 57 a else 0
def dch (x : ByteArray) : Int := if (x.toList == [40]) = true then 1 else if (x.toList == [91]) = true then 1 else if (x.toList == [41]) = true then -1 else if (x.toList == [93]) = true then -1 else 0
def at' (t : List ByteArray) (i : Nat) : ByteArray := t.getD i ⟨#[]⟩
def depth (t : List ByteArray) : Nat → Int
  | 0 => 0
  | i + 1 => depth t i + dch (at' t i)
def lastTo (sg t : List ByteArray) : Nat → Int
  | 0 => -1
  | i + 1 => if inB sg (at' t i) = true ∧ depth t (i + 1) = 0 ∧ 0 < i ∧ opdB (at' t (i - 1)) = true then (i : Int) else lastTo sg t i
def last (sg t : List ByteArray) : Int := lastTo sg t t.length
theorem at_lt {t : List ByteArray} {i : Nat} (h : i < t.length) : at' t i = t[i] := by simp [at', h]
theorem dch_b (x : ByteArray) : -1 ≤ dch x ∧ dch x ≤ 1 := by unfold dch; (repeat' split) <;> omega
theorem depth_b (t : List ByteArray) : ∀ i : Nat, -(i : Int) ≤ depth t i ∧ depth t i ≤ i
  | 0 => by simp [depth]
  | i + 1 => by
    have := depth_b t i
    have h := dch_b (at' t i)
    rw [depth]; omega
theorem lastTo_b (sg t : List ByteArray) : ∀ i : Nat, -1 ≤ lastTo sg t i ∧ lastTo sg t i < (i : Int) ∧ (lastTo sg t i = -1 ∨ 0 < lastTo sg t i)
  | 0 => by simp [lastTo]
  | i + 1 => by
    have := lastTo_b sg t i
    rw [lastTo]; split <;> omega
theorem dch_cases (x : ByteArray) : ((x.toList == [40]) = true ∧ dch x = 1) ∨ ((x.toList == [40]) = false ∧ (x.toList == [91]) = true ∧ dch x = 1) ∨ ((x.toList == [40]) = false ∧ (x.toList == [91]) = false ∧ (x.toList == [41]) = true ∧ dch x = -1) ∨
    ((x.toList == [40]) = false ∧ (x.toList == [91]) = false ∧ (x.toList == [41]) = false ∧ (x.toList == [93]) = true ∧ dch x = -1) ∨ ((x.toList == [40]) = false ∧ (x.toList == [91]) = false ∧ (x.toList == [41]) = false ∧ (x.toList == [93]) = false ∧ dch x = 0) := by
  unfold dch
  cases (x.toList == [40]) <;> cases (x.toList == [91]) <;> cases (x.toList == [41]) <;> cases (x.toList == [93]) <;> simp
def exprS (S : List ByteArray → Bool) (t : List ByteArray) : Bool := if last cmpW t < 0 then S t else S (t.take (last cmpW t).toNat) && S (t.drop ((last cmpW t).toNat + 1))
def sumS (S T : List ByteArray → Bool) (t : List ByteArray) : Bool := if last addW t < 0 then T t else S (t.take (last addW t).toNat) && T (t.drop ((last addW t).toNat + 1))
def termS (S T : List ByteArray → Bool) (t : List ByteArray) : Bool := if last divW t < 0 then T t else S (t.take (last divW t).toNat) && T (t.drop ((last divW t).toNat + 1))
def first (t : List ByteArray) : ByteArray := at' t 0
def final (t : List ByteArray) : ByteArray := at' t (t.length - 1)
def factorS (F E C : List ByteArray → Bool) (t : List ByteArray) : Bool :=
  if t.length = 0 then false else if t.length = 1 then nameB (first t) || numberB (first t)
  else if ((first t).toList == [45]) = true then F (t.drop 1)
  else if ((first t).toList == [40]) = true ∧ ((final t).toList == [41]) = true then E ((t.take (t.length - 1)).drop 1) else C t
def cellS (E : List ByteArray → Bool) (t : List ByteArray) : Bool :=
  if t.length < 4 ∨ ((at' t 1).toList == [91]) = false ∨ ((final t).toList == [93]) = false then false
  else nameB (first t) && E ((t.take (t.length - 1)).drop 2)
def gr : Nat → Nat → List ByteArray → Bool
  | 0, _, _ => false
  | f + 1, 0, t => exprS (gr f 1) t
  | f + 1, 1, t => sumS (gr f 1) (gr f 2) t
  | f + 1, 2, t => termS (gr f 2) (gr f 3) t
  | f + 1, 3, t => factorS (gr f 3) (gr f 0) (gr f 4) t
  | f + 1, _ + 4, t => cellS (gr f 0) t
theorem last_cases (sg t : List ByteArray) : last sg t = -1 ∨ ∃ k : Nat, last sg t = k ∧ 0 < k ∧ k < t.length := by
  obtain ⟨h1, h2, h3⟩ := lastTo_b sg t t.length
  rcases h3 with h | h
  · exact Or.inl h
  · exact Or.inr ⟨(last sg t).toNat, by unfold last; omega, by unfold last; omega, by unfold last; omega⟩
theorem exprS_at {sg t : List ByteArray} {S : List ByteArray → Bool} (hs : sg = cmpW) {k : Nat} (h : last sg t = k) : exprS S t = (S (t.take k) && S (t.drop (k + 1))) := by
  subst hs; unfold exprS; rw [h, if_neg (by omega)]; rfl
theorem exprS_no {t : List ByteArray} {S : List ByteArray → Bool} (h : last cmpW t = -1) : exprS S t = S t := by
  unfold exprS; rw [h, if_pos (by omega)]
theorem sumS_at {t : List ByteArray} {S T : List ByteArray → Bool} {k : Nat} (h : last addW t = k) : sumS S T t = (S (t.take k) && T (t.drop (k + 1))) := by
  unfold sumS; rw [h, if_neg (by omega)]; rfl
theorem sumS_no {t : List ByteArray} {S T : List ByteArray → Bool} (h : last addW t = -1) : sumS S T t = T t := by
  unfold sumS; rw [h, if_pos (by omega)]
theorem termS_at {t : List ByteArray} {S T : List ByteArray → Bool} {k : Nat} (h : last divW t = k) : termS S T t = (S (t.take k) && T (t.drop (k + 1))) := by
  unfold termS; rw [h, if_neg (by omega)]; rfl
theorem termS_no {t : List ByteArray} {S T : List ByteArray → Bool} (h : last divW t = -1) : termS S T t = T t := by
  unfold termS; rw [h, if_pos (by omega)]
theorem factorS_of {t : List ByteArray} {F E C F' E' C' : List ByteArray → Bool} (h1 : 2 ≤ t.length → F (t.drop 1) = F' (t.drop 1)) (h2 : 2 ≤ t.length → E ((t.take (t.length - 1)).drop 1) = E' ((t.take (t.length - 1)).drop 1)) (h3 : C t = C' t) : factorS F E C t = factorS F' E' C' t := by
  unfold factorS
  by_cases hz : t.length = 0
  · rw [if_pos hz, if_pos hz]
  · by_cases ho : t.length = 1
    · rw [if_neg hz, if_neg hz, if_pos ho, if_pos ho]
    · rw [h1 (by omega), h2 (by omega), h3]
theorem cellS_of {t : List ByteArray} {E E' : List ByteArray → Bool} (h : 4 ≤ t.length → E ((t.take (t.length - 1)).drop 2) = E' ((t.take (t.length - 1)).drop 2)) : cellS E t = cellS E' t := by
  unfold cellS
  by_cases hz : t.length < 4
  · rw [if_pos (Or.inl hz), if_pos (Or.inl hz)]
  · rw [h (by omega)]
theorem gr_any : ∀ (f g r : Nat) (t : List ByteArray), r ≤ 4 → 5 * t.length + 5 ≤ f + r → 5 * t.length + 5 ≤ g + r → gr f r t = gr g r t
  | 0, _, _, _, hr, hf, _ => by omega
  | _ + 1, 0, _, _, hr, _, hg => by omega
  | f + 1, g + 1, 0, t, hr, hf, hg => by
    show exprS (gr f 1) t = exprS (gr g 1) t
    rcases last_cases cmpW t with h | ⟨k, h, h0, hk⟩
    · rw [exprS_no h, exprS_no h]; exact gr_any f g 1 t (by omega) (by omega) (by omega)
    · rw [exprS_at rfl h, exprS_at rfl h, gr_any f g 1 (t.take k) (by omega) (by simp; omega) (by simp; omega), gr_any f g 1 (t.drop (k + 1)) (by omega) (by simp; omega) (by simp; omega)]
  | f + 1, g + 1, 1, t, hr, hf, hg => by
    show sumS (gr f 1) (gr f 2) t = sumS (gr g 1) (gr g 2) t
    rcases last_cases addW t with h | ⟨k, h, h0, hk⟩
    · rw [sumS_no h, sumS_no h]; exact gr_any f g 2 t (by omega) (by omega) (by omega)
    · rw [sumS_at h, sumS_at h, gr_any f g 1 (t.take k) (by omega) (by simp; omega) (by simp; omega), gr_any f g 2 (t.drop (k + 1)) (by omega) (by simp; omega) (by simp; omega)]
  | f + 1, g + 1, 2, t, hr, hf, hg => by
    show termS (gr f 2) (gr f 3) t = termS (gr g 2) (gr g 3) t
    rcases last_cases divW t with h | ⟨k, h, h0, hk⟩
    · rw [termS_no h, termS_no h]; exact gr_any f g 3 t (by omega) (by omega) (by omega)
    · rw [termS_at h, termS_at h, gr_any f g 2 (t.take k) (by omega) (by simp; omega) (by simp; omega), gr_any f g 3 (t.drop (k + 1)) (by omega) (by simp; omega) (by simp; omega)]
  | f + 1, g + 1, 3, t, hr, hf, hg => by
    show factorS (gr f 3) (gr f 0) (gr f 4) t = factorS (gr g 3) (gr g 0) (gr g 4) t
    exact factorS_of (fun _ => gr_any f g 3 _ (by omega) (by simp; omega) (by simp; omega)) (fun _ => gr_any f g 0 _ (by omega) (by simp; omega) (by simp; omega)) (gr_any f g 4 t (by omega) (by omega) (by omega))
  | f + 1, g + 1, _ + 4, t, hr, hf, hg => by
    show cellS (gr f 0) t = cellS (gr g 0) t
    exact cellS_of (fun _ => gr_any f g 0 _ (by omega) (by simp; omega) (by simp; omega))
def isExpr (t : List ByteArray) : Bool := gr (5 * t.length + 5) 0 t
def isSum (t : List ByteArray) : Bool := gr (5 * t.length + 4) 1 t
def isTerm (t : List ByteArray) : Bool := gr (5 * t.length + 3) 2 t
def isFactor (t : List ByteArray) : Bool := gr (5 * t.length + 2) 3 t
def isCell (t : List ByteArray) : Bool := gr (5 * t.length + 1) 4 t
def allNames (t : List ByteArray) : Bool := t.all nameB
def behindFrom : List ByteArray → Nat → Nat
  | [], _ => 0
  | x :: r, i => if (x.toList == [116, 111]) = true then i else behindFrom r (i + 1)
def behind (t : List ByteArray) : Nat := behindFrom t 0
theorem behind_step {t : List ByteArray} {k : Nat} (h : k < t.length) : behindFrom (t.drop k) k = if (t[k].toList == [116, 111]) = true then k else behindFrom (t.drop (k + 1)) (k + 1) := by
  rw [List.drop_eq_getElem_cons h, behindFrom]
theorem behindFrom_b : ∀ (t : List ByteArray) (i : Nat), behindFrom t i = 0 ∨ behindFrom t i < i + t.length
  | [], _ => Or.inl rfl
  | x :: r, i => by
    rw [behindFrom]
    split
    · right; simp
    · rcases behindFrom_b r (i + 1) with h | h
      · exact Or.inl h
      · right; simp; omega
theorem behind_b (t : List ByteArray) : behind t = 0 ∨ behind t < t.length := by
  have := behindFrom_b t 0; unfold behind; omega
def isSet (t : List ByteArray) : Bool :=
  if behind t < 2 then false else if behind t = 2 then nameB (at' t 1) && isExpr (t.drop 3) else isCell ((t.take (behind t)).drop 1) && isExpr (t.drop (behind t + 1))
def partsTo (t : List ByteArray) : Nat → List (List ByteArray) × Nat
  | 0 => ([], 0)
  | i + 1 => if ((at' t i).toList == [44]) = true ∧ depth t i = 0 then ((partsTo t i).1 ++ [(t.take i).drop (partsTo t i).2], i + 1) else partsTo t i
def parts (t : List ByteArray) : List (List ByteArray) := if t.length = 0 then [] else (partsTo t t.length).1 ++ [t.drop (partsTo t t.length).2]
theorem partsTo_b (t : List ByteArray) : ∀ i, (partsTo t i).2 ≤ i ∧ (partsTo t i).1.length ≤ i
  | 0 => by simp [partsTo]
  | i + 1 => by
    have := partsTo_b t i
    rw [partsTo]
    split
    · simp; omega
    · omega
def isCall (t : List ByteArray) : Bool := if t.length < 2 then false else (parts (t.drop 2)).all isExpr && nameB (at' t 1)
def isArray (t : List ByteArray) : Bool := if t.length = 3 then nameB (at' t 1) && numberB (at' t 2) && decide (1 ≤ worth (at' t 2)) && decide (worth (at' t 2) ≤ 32) else false
def isKind (t : List ByteArray) (h : List UInt8) : Bool :=
  if (h == [101, 110, 100]) = true then decide (t.length = 1) else if (h == [101, 108, 115, 101]) = true then decide (t.length = 1) else if (h == [114, 101, 116, 117, 114, 110]) = true then decide (t.length = 1) else if (h == [118, 97, 114]) = true then (decide (t.length = 2) && allNames (t.drop 1)) else if (h == [114, 101, 97, 100]) = true then (decide (t.length = 2) && allNames (t.drop 1)) else if (h == [112, 114, 111, 99]) = true then (decide (2 ≤ t.length ∧ t.length ≤ 6) && allNames (t.drop 1)) else if (h == [105, 102]) = true then isExpr (t.drop 1) else if (h == [119, 104, 105, 108, 101]) = true then isExpr (t.drop 1) else if (h == [112, 114, 105, 110, 116]) = true then isExpr (t.drop 1) else if (h == [115, 101, 116]) = true then isSet t else if (h == [99, 97, 108, 108]) = true then isCall t else if (h == [97, 114, 114, 97, 121]) = true then isArray t else false
def isLine (t : List ByteArray) : Bool := if t.length = 0 then true else isKind t (first t).toList
def topB (t : List ByteArray) : Bool := ((first t).toList == [118, 97, 114]) || ((first t).toList == [97, 114, 114, 97, 121]) || ((first t).toList == [112, 114, 111, 99])
def opensB (t : List ByteArray) : Bool := ((first t).toList == [112, 114, 111, 99]) || ((first t).toList == [105, 102]) || ((first t).toList == [119, 104, 105, 108, 101])
def declAt (t : List ByteArray) (x : ByteArray) : Bool := topB t && ((at' t 1).toList == x.toList)
def declFrom : Nat → List (List ByteArray) → ByteArray → Nat
  | _, [], _ => 0
  | n, t :: r, x => if declAt t x = true then n else declFrom (n + 1) r x
def decl (ls : List (List ByteArray)) (x : ByteArray) : Nat := declFrom 1 ls x
def lineAt (ls : List (List ByteArray)) (l : Nat) : List ByteArray := ls.getD l []
def home (ls : List (List ByteArray)) : Nat → Nat
  | 0 => 0
  | n + 1 => if ((first (lineAt ls n)).toList == [112, 114, 111, 99]) = true then n + 1 else home ls n
theorem lineAt_lt {ls : List (List ByteArray)} {l : Nat} (h : l < ls.length) : lineAt ls l = ls[l] := by simp [lineAt, h]
theorem first_nil {t : List ByteArray} (h : t.length = 0) : first t = ⟨#[]⟩ := by
  have : t = [] := List.eq_nil_of_length_eq_zero h
  subst this; rfl
theorem first_lt {t : List ByteArray} (h : 0 < t.length) : first t = t[0] := at_lt h
theorem declFrom_b : ∀ (ls : List (List ByteArray)) (n : Nat) (x : ByteArray), declFrom n ls x = 0 ∨ (n ≤ declFrom n ls x ∧ declFrom n ls x < n + ls.length)
  | [], _, _ => Or.inl rfl
  | t :: r, n, x => by
    rw [declFrom]
    split
    · right; simp
    · rcases declFrom_b r (n + 1) x with h | h
      · exact Or.inl h
      · right; simp; omega
theorem decl_b (ls : List (List ByteArray)) (x : ByteArray) : decl ls x ≤ ls.length := by
  have := declFrom_b ls 1 x
  unfold decl; omega
def tx (ts : List Rt.Tk) : List ByteArray := ts.map (·.text)
end Rf
end Go.Proofs.YthleadfkfnnadaaGreat
