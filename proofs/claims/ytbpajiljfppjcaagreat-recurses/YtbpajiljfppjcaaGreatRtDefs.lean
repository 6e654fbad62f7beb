/- The program's reader of lines as plain functions: no program, no walk. -/
import Derived.KernelRfl
import Derived.WalkKit
namespace Go.Proofs.YtbpajiljfppjcaaGreat
namespace Rt

theorem ba_ext {a b : ByteArray} (h : a.toList = b.toList) : a = b := by
  rw [ByteArray.toList_eq, ByteArray.toList_eq] at h
  cases a; cases b
  simp at h
  simp [h]
theorem str_eq (a b : ByteArray) : (a.toList == b.toList) = decide (a = b) := by
  rw [Bool.eq_iff_iff, beq_iff_eq, decide_eq_true_iff]
  exact ⟨ba_ext, fun h => by rw [h]⟩
theorem str_lit (a : ByteArray) (l : List UInt8) : (a.toList == l) = decide (a = ⟨l.toArray⟩) := by
  have h := str_eq a ⟨l.toArray⟩
  rw [show (ByteArray.mk l.toArray).toList = l from ByteArray.toList_mk l] at h
  exact h
theorem str_ne {a b : ByteArray} (h : ¬ a = b) : (a.toList == b.toList) = false := by rw [str_eq]; simpa using h
theorem str_same {a b : ByteArray} (h : a = b) : (a.toList == b.toList) = true := by rw [str_eq]; simpa using h

/-- Is a byte from lo to hi? -/
def within (lo hi : Int) (b : UInt8) : Bool := decide (lo ≤ (b.toNat : Int) ∧ (b.toNat : Int) ≤ hi)

/-- How many bytes from place a on lie side by side from lo to hi. -/
def cw (s : ByteArray) (lo hi : Int) (a : Nat) : Nat := ((s.data.toList.drop a).takeWhile (within lo hi)).length

theorem tw_len {α : Type} (p : α → Bool) : ∀ (l : List α) (k : Nat), k ≤ l.length → (∀ j (h : j < l.length), j < k → p l[j] = true) → (∀ h : k < l.length, p l[k] = false) → (l.takeWhile p).length = k
  | [], k, hk, _, _ => by simp at hk; simp [hk]
  | x :: r, 0, _, _, h3 => by
    have := h3 (by simp)
    simp at this
    simp [this]
  | x :: r, k + 1, hk, h2, h3 => by
    have hx := h2 0 (by simp) (by omega)
    simp at hx
    have ih := tw_len p r k (by simpa using hk) (fun j h hj => by have := h2 (j + 1) (by simpa using h) (by omega); simpa using this) (fun h => by have := h3 (by simpa using h); simpa using this)
    simp [hx, ih]

theorem cw_eq (s : ByteArray) (lo hi : Int) (a e : Nat) (hae : a ≤ e) (he : e ≤ s.size)
    (h1 : ∀ j (h : j < s.size), a ≤ j → j < e → within lo hi s[j] = true) (h2 : ∀ h : e < s.size, within lo hi s[e] = false) : cw s lo hi a = e - a := by
  have hsz : s.data.toList.length = s.size := by simp
  refine tw_len _ _ _ (by simp; omega) (fun j h hj => ?_) (fun h => ?_)
  · simp at h
    have := h1 (a + j) (by omega) (by omega) (by omega)
    simp only [List.getElem_drop]
    exact this
  · simp at h
    have := h2 (by omega)
    have e1 : a + (e - a) = e := by omega
    simp only [List.getElem_drop, e1]
    exact this

theorem cw_le (s : ByteArray) (lo hi : Int) (a : Nat) (ha : a ≤ s.size) : a + cw s lo hi a ≤ s.size := by
  unfold cw
  have h := List.IsPrefix.length_le (List.takeWhile_prefix (within lo hi) (l := s.data.toList.drop a))
  simp at h
  omega

/-- Is a byte one of the signs? -/
def sign (b : Int) : Bool := decide (b ∈ [43, 45, 42, 47, 37, 60, 61, 40, 41, 91, 93, 44])

/-- The byte at a place; 0 behind the end. -/
def byteAt (s : ByteArray) (a : Nat) : Int := if h : a < s.size then (s[a].toNat : Int) else 0
theorem byteAt_lt {s : ByteArray} {a : Nat} (h : a < s.size) : byteAt s a = (s[a].toNat : Int) := by simp [byteAt, h]

/-- The kind and the size of the token at a place. -/
def measK (s : ByteArray) (a : Nat) : Int :=
  if 8 < cw s 97 122 a then 0 else if 0 < cw s 97 122 a then 1 else if 9 < cw s 48 57 a then 0 else if 0 < cw s 48 57 a then 2
  else if a < s.size ∧ sign (byteAt s a) = true then 3 else 0
def measN (s : ByteArray) (a : Nat) : Nat :=
  if 8 < cw s 97 122 a then 0 else if 0 < cw s 97 122 a then cw s 97 122 a else if 9 < cw s 48 57 a then 0 else if 0 < cw s 48 57 a then cw s 48 57 a
  else if a < s.size ∧ sign (byteAt s a) = true then 1 else 0
theorem measN_le (s : ByteArray) (a : Nat) (ha : a ≤ s.size) : a + measN s a ≤ s.size := by
  have h1 := cw_le s 97 122 a ha
  have h2 := cw_le s 48 57 a ha
  unfold measN
  repeat' split
  all_goals omega

/-- A token of the program: its kind, its text. -/
structure Tk where
  kind : Int
  text : ByteArray

def tkCells (t : Tk) : List Value := [.int .i64 t.kind, .string t.text]
def toksCells (ts : List Tk) : List Value := ts.flatMap tkCells
theorem toksCells_snoc (ts : List Tk) (t : Tk) : toksCells (ts ++ [t]) = toksCells ts ++ [.int .i64 t.kind, .string t.text] := by simp [toksCells, tkCells]
theorem toksCells_length (ts : List Tk) : (toksCells ts).length = ts.length * 2 := by
  induction ts with
  | nil => rfl
  | cons t r ih => simp only [toksCells, List.flatMap_cons, List.length_append, List.length_cons] at ih ⊢; simp [tkCells] at ih ⊢; omega

def toksFrom (s : ByteArray) : Nat → Nat → List Tk → Option (List Tk)
  | 0, _, _ => none
  | f + 1, a, acc =>
    if a < s.size then
      if byteAt s a = 32 then toksFrom s f (a + 1) acc
      else if measN s a = 0 ∨ 24 ≤ acc.length then none
      else toksFrom s f (a + measN s a) (acc ++ [⟨measK s a, s.extract a (a + measN s a)⟩])
    else some acc
def toks (s : ByteArray) : Option (List Tk) := toksFrom s (s.size + 1) 0 []

/-- The lines of a text. -/
def linesFrom (s : ByteArray) : Nat → Nat → Nat → List ByteArray → List ByteArray
  | 0, _, _, acc => acc
  | f + 1, start, i, acc =>
    if i < s.size then
      if byteAt s i = 10 then linesFrom s f (i + 1) (i + 1) (acc ++ [s.extract start i]) else linesFrom s f start (i + 1) acc
    else acc ++ [s.extract start s.size]
def lines (s : ByteArray) : List ByteArray := linesFrom s (s.size + 1) 0 0 []

/-- The reserved words. -/
def resvWords : List (List UInt8) := [[118, 97, 114], [97, 114, 114, 97, 121], [112, 114, 111, 99], [101, 110, 100], [101, 108, 115, 101], [105, 102], [119, 104, 105, 108, 101], [115, 101, 116], [116, 111], [112, 114, 105, 110, 116], [114, 101, 97, 100], [99, 97, 108, 108], [114, 101, 116, 117, 114, 110]]
def resv (s : ByteArray) : Bool := resvWords.any (fun l => s.toList == l)

/-- What a sign between two values does. -/
def opCode (s : ByteArray) : Int :=
  if s.toList == [43] then 5 else if s.toList == [45] then 6 else if s.toList == [42] then 7 else if s.toList == [47] then 8 else if s.toList == [37] then 9
  else if s.toList == [60] then 10 else if s.toList == [61] then 11 else 0

/-- How many newlines stand ahead of place k. -/
def nls (s : ByteArray) : Nat → Nat
  | 0 => 0
  | k + 1 => nls s k + (if byteAt s k = 10 then 1 else 0)
theorem nls_le (s : ByteArray) (k : Nat) : nls s k ≤ k := by
  induction k with
  | zero => simp [nls]
  | succ k ih => simp only [nls]; split <;> omega
def tooLong (s : ByteArray) : Bool := decide (40000 < s.size) || decide (100 < 1 + nls s s.size)

end Rt
end Go.Proofs.YtbpajiljfppjcaaGreat

namespace Go.Proofs.YtbpajiljfppjcaaGreat
namespace Rt
open Go.RowKit

/-- What a text of digits is worth, as Go reckons it. -/
def valTo (s : ByteArray) : Nat → Int
  | 0 => 0
  | k + 1 => wrap64 (wrap64 (valTo s k * 10) + (byteAt s k - 48) % 256)
def val (s : ByteArray) : Int := valTo s s.size

end Rt
end Go.Proofs.YtbpajiljfppjcaaGreat

namespace Go.Proofs.YtbpajiljfppjcaaGreat
open Go.RowKit
/-- An operation of an expression. -/
structure Pop where
  code : Int
  number : Int
  name : ByteArray

namespace Rt

/-- What a reader of a piece gives: the ops of its work, and the tokens that are left. -/
abbrev Got := Option (List Pop × List Tk)

def pLoop (pf : List Tk → Got) (lo hi : Int) : Nat → List Tk → Got
  | 0, _ => none
  | _ + 1, [] => some ([], [])
  | g + 1, t :: r =>
    if lo ≤ opCode t.text ∧ opCode t.text ≤ hi then
      match pf r with
      | none => none
      | some (e, r') =>
        match pLoop pf lo hi g r' with
        | none => none
        | some (e', r'') => some (e ++ ⟨opCode t.text, 0, ⟨#[]⟩⟩ :: e', r'')
    else some ([], t :: r)

/-- What has been read, ahead of what comes. -/
def joinE (em : List Pop) : Got → Got
  | none => none
  | some (e, r) => some (em ++ e, r)

def pChain (pf : List Tk → Got) (lo hi : Int) (rem : List Tk) : Got :=
  match pf rem with
  | none => none
  | some (e, r) => joinE e (pLoop pf lo hi 25 r)

def pTerm (pf : List Tk → Got) : List Tk → Got := pChain pf 7 9
def pSum (pf : List Tk → Got) : List Tk → Got := pChain (pTerm pf) 5 6
def pComp (pf : List Tk → Got) (rem : List Tk) : Got :=
  match pSum pf rem with
  | none => none
  | some (e, []) => some (e, [])
  | some (e, t :: r) =>
    if 10 ≤ opCode t.text ∧ opCode t.text ≤ 11 then
      match pSum pf r with
      | none => none
      | some (e', r') => some (e ++ e' ++ [⟨opCode t.text, 0, ⟨#[]⟩⟩], r')
    else some (e, t :: r)

/-- What stands ahead of a closing sign. -/
def closed (x : ByteArray) (last : List Pop) : Got → Got
  | none => none
  | some (_, []) => none
  | some (e, t :: r) => if t.text = x then some (e ++ last, r) else none

def pVar (pc : List Tk → Got) (name : ByteArray) : List Tk → Got
  | [] => some ([⟨2, 0, name⟩], [])
  | t :: r => if t.text = ⟨#[91]⟩ then closed ⟨#[93]⟩ [⟨3, 0, name⟩] (pc r) else some ([⟨2, 0, name⟩], t :: r)

def pFactor : Nat → List Tk → Got
  | 0, _ => none
  | _ + 1, [] => none
  | f + 1, t :: r =>
    if t.text = ⟨#[45]⟩ then
      match pFactor f r with
      | none => none
      | some (e, r') => some (e ++ [⟨4, 0, ⟨#[]⟩⟩], r')
    else if t.text = ⟨#[40]⟩ then closed ⟨#[41]⟩ [] (pComp (pFactor f) r)
    else if t.kind = 2 then some ([⟨1, val t.text, ⟨#[]⟩⟩], r)
    else if t.kind = 1 ∧ resv t.text = false then pVar (pComp (pFactor f)) t.text r
    else none

def pExpr (rem : List Tk) : Got := pComp (pFactor 24) rem


/-- A line that has been read. -/
structure PForm where
  kind : Int
  name : ByteArray
  cells : Int
  params : List ByteArray
  index : List Pop
  values : List (List Pop)

def pName : List Tk → Option (ByteArray × List Tk)
  | [] => none
  | t :: r => if t.kind = 1 ∧ resv t.text = false then some (t.text, r) else none
abbrev GotF := Option (PForm × List Tk)
def pNamed (kind : Int) (rem : List Tk) : GotF :=
  match pName rem with
  | none => none
  | some (nm, r) => some (⟨kind, nm, 0, [], [], []⟩, r)
def pValued (kind : Int) (rem : List Tk) : GotF :=
  match pExpr rem with
  | none => none
  | some (e, r) => some (⟨kind, ⟨#[]⟩, 0, [], [], [e]⟩, r)

def pNumber : List Tk → Option (Int × List Tk)
  | [] => none
  | t :: r => if t.kind = 2 then some (val t.text, r) else none
def pArray (rem : List Tk) : GotF :=
  match pName rem with
  | none => none
  | some (nm, r) =>
    match pNumber r with
    | none => none
    | some (v, r') => if v < 1 ∨ 32 < v then none else some (⟨2, nm, v, [], [], []⟩, r')
def pParams (acc : List ByteArray) : List Tk → Option (List ByteArray)
  | [] => some acc
  | t :: r => if (t.kind = 1 ∧ resv t.text = false) ∧ acc.length < 4 then pParams (acc ++ [t.text]) r else none
def pProc (rem : List Tk) : GotF :=
  match pName rem with
  | none => none
  | some (nm, r) =>
    match pParams [] r with
    | none => none
    | some ps => some (⟨3, nm, 0, ps, [], []⟩, [])

def pTake (x : ByteArray) : List Tk → Option (List Tk)
  | [] => none
  | t :: r => if t.text = x then some r else none
def pTo (kind : Int) (nm : ByteArray) (ix : List Pop) (rem : List Tk) : GotF :=
  match pTake ⟨#[116, 111]⟩ rem with
  | none => none
  | some r =>
    match pExpr r with
    | none => none
    | some (e, r') => some (⟨kind, nm, 0, [], ix, [e]⟩, r')
def pSet (rem : List Tk) : GotF :=
  match pName rem with
  | none => none
  | some (nm, r) =>
    match pTake ⟨#[91]⟩ r with
    | none => pTo 8 nm [] r
    | some r1 =>
      match pExpr r1 with
      | none => none
      | some (ix, r2) =>
        match pTake ⟨#[93]⟩ r2 with
        | none => none
        | some r3 => pTo 9 nm ix r3

theorem to_none {kind : Int} {nm : ByteArray} {ix : List Pop} {rem : List Tk} (h : pTake ⟨#[116, 111]⟩ rem = none) : pTo kind nm ix rem = none := by rw [pTo, h]
theorem to_no {kind : Int} {nm : ByteArray} {ix : List Pop} {rem r : List Tk} (h : pTake ⟨#[116, 111]⟩ rem = some r) (h2 : pExpr r = none) : pTo kind nm ix rem = none := by rw [pTo, h]; simp only; rw [h2]
theorem to_ok {kind : Int} {nm : ByteArray} {ix e : List Pop} {rem r r' : List Tk} (h : pTake ⟨#[116, 111]⟩ rem = some r) (h2 : pExpr r = some (e, r')) : pTo kind nm ix rem = some (⟨kind, nm, 0, [], ix, [e]⟩, r') := by rw [pTo, h]; simp only; rw [h2]
theorem set_a {rem r : List Tk} {nm : ByteArray} {x : GotF} (h : pName rem = some (nm, r)) (h2 : pTake ⟨#[91]⟩ r = none) (h3 : pTo 8 nm [] r = x) : pSet rem = x := by rw [pSet, h]; simp only; rw [h2]; exact h3
theorem set_b {rem r r1 r2 r3 : List Tk} {nm : ByteArray} {ix : List Pop} {x : GotF} (h : pName rem = some (nm, r)) (h2 : pTake ⟨#[91]⟩ r = some r1) (h3 : pExpr r1 = some (ix, r2)) (h4 : pTake ⟨#[93]⟩ r2 = some r3) (h5 : pTo 9 nm ix r3 = x) : pSet rem = x := by
  rw [pSet, h]; simp only; rw [h2]; simp only; rw [h3]; simp only; rw [h4]; exact h5
theorem set_c {rem r r1 r2 : List Tk} {nm : ByteArray} {ix : List Pop} (h : pName rem = some (nm, r)) (h2 : pTake ⟨#[91]⟩ r = some r1) (h3 : pExpr r1 = some (ix, r2)) (h4 : pTake ⟨#[93]⟩ r2 = none) : pSet rem = none := by
  rw [pSet, h]; simp only; rw [h2]; simp only; rw [h3]; simp only; rw [h4]
theorem set_d {rem r r1 : List Tk} {nm : ByteArray} (h : pName rem = some (nm, r)) (h2 : pTake ⟨#[91]⟩ r = some r1) (h3 : pExpr r1 = none) : pSet rem = none := by
  rw [pSet, h]; simp only; rw [h2]; simp only; rw [h3]

def pArgs : Nat → List (List Pop) → List Tk → Option (List (List Pop) × List Tk)
  | 0, _, _ => none
  | f + 1, acc, rem =>
    match pExpr rem with
    | none => none
    | some (e, r) =>
      match pTake ⟨#[44]⟩ r with
      | none => some (acc ++ [e], r)
      | some r' => pArgs f (acc ++ [e]) r'
def pArgsAll (r : List Tk) : Option (List (List Pop) × List Tk) := if r = [] then some ([], r) else pArgs 25 [] r
def pCall (rem : List Tk) : GotF :=
  match pName rem with
  | none => none
  | some (nm, r) =>
    match pArgsAll r with
    | none => none
    | some (vs, r') => some (⟨12, nm, 0, [], [], vs⟩, r')
theorem args_none {f : Nat} {acc : List (List Pop)} {rem : List Tk} (h : pExpr rem = none) : pArgs (f + 1) acc rem = none := by rw [pArgs, h]
theorem args_stop {f : Nat} {acc : List (List Pop)} {rem r : List Tk} {e : List Pop} (h : pExpr rem = some (e, r)) (h2 : pTake ⟨#[44]⟩ r = none) : pArgs (f + 1) acc rem = some (acc ++ [e], r) := by rw [pArgs, h]; simp only; rw [h2]
theorem args_next {f : Nat} {acc : List (List Pop)} {rem r r' : List Tk} {e : List Pop} (h : pExpr rem = some (e, r)) (h2 : pTake ⟨#[44]⟩ r = some r') : pArgs (f + 1) acc rem = pArgs f (acc ++ [e]) r' := by rw [pArgs, h]; simp only; rw [h2]
theorem call_none {rem r : List Tk} {nm : ByteArray} (h : pName rem = some (nm, r)) (h2 : pArgsAll r = none) : pCall rem = none := by rw [pCall, h]; simp only; rw [h2]
theorem call_some {rem r r' : List Tk} {nm : ByteArray} {vs : List (List Pop)} (h : pName rem = some (nm, r)) (h2 : pArgsAll r = some (vs, r')) : pCall rem = some (⟨12, nm, 0, [], [], vs⟩, r') := by rw [pCall, h]; simp only; rw [h2]

/-- What stands behind a line's first token. -/
def pLine (first : ByteArray) (rem : List Tk) : GotF :=
  if first.toList == [118, 97, 114] then pNamed 1 rem
  else if first.toList == [97, 114, 114, 97, 121] then pArray rem
  else if first.toList == [112, 114, 111, 99] then pProc rem
  else if first.toList == [101, 110, 100] then some (⟨4, ⟨#[]⟩, 0, [], [], []⟩, rem)
  else if first.toList == [105, 102] then pValued 5 rem
  else if first.toList == [101, 108, 115, 101] then some (⟨6, ⟨#[]⟩, 0, [], [], []⟩, rem)
  else if first.toList == [119, 104, 105, 108, 101] then pValued 7 rem
  else if first.toList == [115, 101, 116] then pSet rem
  else if first.toList == [112, 114, 105, 110, 116] then pValued 10 rem
  else if first.toList == [114, 101, 97, 100] then pNamed 11 rem
  else if first.toList == [99, 97, 108, 108] then pCall rem
  else if first.toList == [114, 101, 116, 117, 114, 110] then some (⟨13, ⟨#[]⟩, 0, [], [], []⟩, rem)
  else none

def pLineAll : List Tk → Option PForm
  | [] => some ⟨0, ⟨#[]⟩, 0, [], [], []⟩
  | t :: r =>
    match pLine t.text r with
    | none => none
    | some (fm, r') => if r' = [] then some fm else none
theorem toksCells_get : ∀ (ts : List Tk) (i : Nat) (h : i < ts.length), (toksCells ts)[i * 2]? = some (.int .i64 ts[i].kind) ∧ (toksCells ts)[i * 2 + 1]? = some (.string ts[i].text)
  | [], i, h => by simp at h
  | t :: r, 0, _ => by simp [toksCells, tkCells]
  | t :: r, i + 1, h => by
    have ih := toksCells_get r i (by simpa using h)
    have e : toksCells (t :: r) = [Value.int .i64 t.kind, Value.string t.text] ++ toksCells r := by simp [toksCells, tkCells]
    have e2 : (i + 1) * 2 = i * 2 + 2 := by omega
    rw [e, e2]
    simpa using ih

theorem toksFrom_facts (s : ByteArray) (hs : s.size ≤ 40000) : ∀ (f a : Nat) (acc ts : List Tk), acc.length ≤ 24 → (∀ t ∈ acc, t.text.size ≤ 40000) → toksFrom s f a acc = some ts → ts.length ≤ 24 ∧ ∀ t ∈ ts, t.text.size ≤ 40000
  | 0, _, _, _, _, _, h => by simp [toksFrom] at h
  | f + 1, a, acc, ts, h1, h2, h => by
    rw [toksFrom] at h
    split at h
    · split at h
      · exact toksFrom_facts s hs f _ _ _ h1 h2 h
      · split at h
        · cases h
        · next hc =>
          refine toksFrom_facts s hs f _ _ _ (by simp; omega) ?_ h
          intro t ht
          simp at ht
          rcases ht with ht | rfl
          · exact h2 t ht
          · simp [ByteArray.size_extract]; omega
    · simp at h
      subst h
      exact ⟨h1, h2⟩
theorem toks_facts {s : ByteArray} {ts : List Tk} (hs : s.size ≤ 40000) (h : toks s = some ts) : ts.length ≤ 24 ∧ ∀ t ∈ ts, t.text.size ≤ 40000 :=
  toksFrom_facts s hs _ _ _ _ (by simp) (by simp) h
theorem linesFrom_facts (s : ByteArray) (hs : s.size ≤ 40000) : ∀ (f a i : Nat) (acc : List ByteArray), (∀ t ∈ acc, t.size ≤ 40000) → (∀ t ∈ linesFrom s f a i acc, t.size ≤ 40000)
  | 0, _, _, acc, h => by simpa [linesFrom] using h
  | f + 1, a, i, acc, h => by
    rw [linesFrom]
    split
    · split
      · refine linesFrom_facts s hs f _ _ _ ?_
        intro t ht
        simp at ht
        rcases ht with ht | rfl
        · exact h t ht
        · simp [ByteArray.size_extract]; omega
      · exact linesFrom_facts s hs f _ _ _ h
    · intro t ht
      simp at ht
      rcases ht with ht | rfl
      · exact h t ht
      · simp [ByteArray.size_extract]; omega
theorem lines_facts {s : ByteArray} (hs : s.size ≤ 40000) : ∀ t ∈ lines s, t.size ≤ 40000 := linesFrom_facts s hs _ _ _ _ (by simp)
theorem linesFrom_len (s : ByteArray) : ∀ (f a i : Nat) (acc : List ByteArray), i ≤ s.size → s.size < f + i → (linesFrom s f a i acc).length + nls s i = acc.length + 1 + nls s s.size
  | 0, _, _, _, h, h2 => by omega
  | f + 1, a, i, acc, h, h2 => by
    rw [linesFrom]
    split
    · next hlt =>
      have hn : nls s (i + 1) = nls s i + (if byteAt s i = 10 then 1 else 0) := rfl
      split
      · next hb =>
        have := linesFrom_len s f (i + 1) (i + 1) (acc ++ [s.extract a i]) (by omega) (by omega)
        rw [if_pos hb] at hn
        simp at this
        omega
      · next hb =>
        have := linesFrom_len s f a (i + 1) acc (by omega) (by omega)
        rw [if_neg hb] at hn
        omega
    · have : i = s.size := by omega
      subst this
      simp
theorem lines_len (s : ByteArray) : (lines s).length = 1 + nls s s.size := by
  have := linesFrom_len s (s.size + 1) 0 0 [] (by omega) (by omega)
  simp [nls] at this
  rw [lines]
  omega
end Rt
end Go.Proofs.YtbpajiljfppjcaaGreat

