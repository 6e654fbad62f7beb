/- Plain facts about bytes, tokens and lines: no program, no walk. -/
import Derived.KernelRfl
import Derived.WalkKit
namespace Go.Proofs.YtopeochnoefgcaaDoor
namespace Rt

theorem ba_ext {a b : ByteArray} (h : a.toList = b.toList) : a = b := by
  rw [ByteArray.toList_eq, ByteArray.toList_eq] at h
  cases a; cases b
  simp at h
  simp [h]
theorem str_eq (a b : ByteArray) : (a.toList == b.toList) = decide (a = b) := by
  rw [Bool.eq_iff_iff, beq_iff_eq, decide_eq_true_iff]
  exact ⟨ba_ext, fun h => by rw [h]⟩
theorem str_lit (a : ByteArray) (l : List UInt8) : (a.toList == l) = decide (a = ⟨l.toArray⟩) := by
  have h := str_eq a ⟨l.toArray⟩
  rw [show (ByteArray.mk l.toArray).toList = l from ByteArray.toList_mk l] at h
  exact h
theorem str_ne {a b : ByteArray} (h : ¬ a = b) : (a.toList == b.toList) = false := by rw [str_eq]; simpa using h
theorem str_same {a b : ByteArray} (h : a = b) : (a.toList == b.toList) = true := by rw [str_eq]; simpa using h

/-- Is a byte from lo to hi? -/
def within (lo hi : Int) (b : UInt8) : Bool := decide (lo ≤ (b.toNat : Int) ∧ (b.toNat : Int) ≤ hi)

/-- How many bytes from place a on lie side by side from lo to hi. -/
def cw (s : ByteArray) (lo hi : Int) (a : Nat) : Nat := ((s.data.toList.drop a).takeWhile (within lo hi)).length

theorem tw_len {α : Type} (p : α → Bool) : ∀ (l : List α) (k : Nat), k ≤ l.length → (∀ j (h : j < l.length), j < k → p l[j] = true) → (∀ h : k < l.length, p l[k] = false) → (l.takeWhile p).length = k
  | [], k, hk, _, _ => by simp at hk; simp [hk]
  | x :: r, 0, _, _, h3 => by
    have := h3 (by simp)
    simp at this
    simp [this]
  | x :: r, k + 1, hk, h2, h3 => by
    have hx := h2 0 (by simp) (by omega)
    simp at hx
    have ih := tw_len p r k (by simpa using hk) (fun j h hj => by have := h2 (j + 1) (by simpa using h) (by omega); simpa using this) (fun h => by have := h3 (by simpa using h); simpa using this)
    simp [hx, ih]

theorem cw_eq (s : ByteArray) (lo hi : Int) (a e : Nat) (hae : a ≤ e) (he : e ≤ s.size)
    (h1 : ∀ j (h : j < s.size), a ≤ j → j < e → within lo hi s[j] = true) (h2 : ∀ h : e < s.size, within lo hi s[e] = false) : cw s lo hi a = e - a := by
  have hsz : s.data.toList.length = s.size := by simp
  refine tw_len _ _ _ (by simp; omega) (fun j h hj => ?_) (fun h => ?_)
  · simp at h
    have := h1 (a + j) (by omega) (by omega) (by omega)
    simp only [List.getElem_drop]
    exact this
  · simp at h
    have := h2 (by omega)
    have e1 : a + (e - a) = e := by omega
    simp only [List.getElem_drop, e1]
    exact this

theorem cw_le (s : ByteArray) (lo hi : Int) (a : Nat) (ha : a ≤ s.size) : a + cw s lo hi a ≤ s.size := by
  unfold cw
  have h := List.IsPrefix.length_le (List.takeWhile_prefix (within lo hi) (l := s.data.toList.drop a))
  simp at h
  omega

/-- Is a byte one of the signs? -/
def sign (b : Int) : Bool := decide (b ∈ [43, 45, 42, 47, 37, 60, 61, 40, 41, 91, 93, 44])

/-- The byte at a place; 0 behind the end. -/
def byteAt (s : ByteArray) (a : Nat) : Int := if h : a < s.size then (s[a].toNat : Int) else 0
theorem byteAt_lt {s : ByteArray} {a : Nat} (h : a < s.size) : byteAt s a = (s[a].toNat : Int) := by simp [byteAt, h]

/-- The kind and the size of the token at a place. -/
def measK (s : ByteArray) (a : Nat) : Int :=
  if 8 < cw s 97 122 a then 0 else if 0 < cw s 97 122 a then 1 else if 9 < cw s 48 57 a then 0 else if 0 < cw s 48 57 a then 2
  else if a < s.size ∧ sign (byteAt s a) = true then 3 else 0
def measN (s : ByteArray) (a : Nat) : Nat :=
  if 8 < cw s 97 122 a then 0 else if 0 < cw s 97 122 a then cw s 97 122 a else if 9 < cw s 48 57 a then 0 else if 0 < cw s 48 57 a then cw s 48 57 a
  else if a < s.size ∧ sign (byteAt s a) = true then 1 else 0
theorem measN_le (s : ByteArray) (a : Nat) (ha : a ≤ s.size) : a + measN s a ≤ s.size := by
  have h1 := cw_le s 97 122 a ha
  have h2 := cw_le s 48 57 a ha
  unfold measN
  repeat' split
  all_goals omega

/-- A token of the program: its kind, its text. -/
structure Tk where
  kind : Int
  text : ByteArray

def tkCells (t : Tk) : List Value := [.int .i64 t.kind, .string t.text]
def toksCells (ts : List Tk) : List Value := ts.flatMap tkCells
theorem toksCells_snoc (ts : List Tk) (t : Tk) : toksCells (ts ++ [t]) = toksCells ts ++ [.int .i64 t.kind, .string t.text] := by simp [toksCells, tkCells]
theorem toksCells_length (ts : List Tk) : (toksCells ts).length = ts.length * 2 := by
  induction ts with
  | nil => rfl
  | cons t r ih => simp only [toksCells, List.flatMap_cons, List.length_append, List.length_cons] at ih ⊢; simp [tkCells] at ih ⊢; omega

def toksFrom (s : ByteArray) : Nat → Nat → List Tk → Option (List Tk)
  | 0, _, _ => none
  | f + 1, a, acc =>
    if a < s.size then
      if byteAt s a = 32 then toksFrom s f (a + 1) acc
      else if measN s a = 0 ∨ 24 ≤ acc.length then none
      else toksFrom s f (a + measN s a) (acc ++ [⟨measK s a, s.extract a (a + measN s a)⟩])
    else some acc
def toks (s : ByteArray) : Option (List Tk) := toksFrom s (s.size + 1) 0 []

/-- The lines of a text. -/
def linesFrom (s : ByteArray) : Nat → Nat → Nat → List ByteArray → List ByteArray
  | 0, _, _, acc => acc
  | f + 1, start, i, acc =>
    if i < s.size then
      if byteAt s i = 10 then linesFrom s f (i + 1) (i + 1) (acc ++ [s.extract start i]) else linesFrom s f start (i + 1) acc
    else acc ++ [s.extract start s.size]
def lines (s : ByteArray) : List ByteArray := linesFrom s (s.size + 1) 0 0 []

/-- The reserved words. -/
def resvWords : List (List UInt8) := [[118, 97, 114], [97, 114, 114, 97, 121], [112, 114, 111, 99], [101, 110, 100], [101, 108, 115, 101], [105, 102], [119, 104, 105, 108, 101], [115, 101, 116], [116, 111], [112, 114, 105, 110, 116], [114, 101, 97, 100], [99, 97, 108, 108], [114, 101, 116, 117, 114, 110]]
def resv (s : ByteArray) : Bool := resvWords.any (fun l => s.toList == l)

/-- What a sign between two values does. -/
def opCode (s : ByteArray) : Int :=
  if s.toList == [43] then 5 else if s.toList == [45] then 6 else if s.toList == [42] then 7 else if s.toList == [47] then 8 else if s.toList == [37] then 9
  else if s.toList == [60] then 10 else if s.toList == [61] then 11 else 0

/-- How many newlines stand ahead of place k. -/
def nls (s : ByteArray) : Nat → Nat
  | 0 => 0
  | k + 1 => nls s k + (if byteAt s k = 10 then 1 else 0)
theorem nls_le (s : ByteArray) (k : Nat) : nls s k ≤ k := by
  induction k with
  | zero => simp [nls]
  | succ k ih => simp only [nls]; split <;> omega
def tooLong (s : ByteArray) : Bool := decide (40000 < s.size) || decide (100 < 1 + nls s s.size)

end Rt
end Go.Proofs.YtopeochnoefgcaaDoor

namespace Go.Proofs.YtopeochnoefgcaaDoor
namespace Rt
open Go.RowKit

/-- What a text of digits is worth, as Go reckons it. -/
def valTo (s : ByteArray) : Nat → Int
  | 0 => 0
  | k + 1 => wrap64 (wrap64 (valTo s k * 10) + (byteAt s k - 48) % 256)
def val (s : ByteArray) : Int := valTo s s.size

end Rt
end Go.Proofs.YtopeochnoefgcaaDoor

namespace Go.Proofs.YtopeochnoefgcaaDoor
open Go.RowKit
/-- An operation of an expression. -/
structure Pop where
  code : Int
  number : Int
  name : ByteArray

namespace Rt

/-- What a reader of a piece gives: the ops of its work, and the tokens that are left. -/
abbrev Got := Option (List Pop × List Tk)

def pLoop (pf : List Tk → Got) (lo hi : Int) : Nat → List Tk → Got
  | 0, _ => none
  | _ + 1, [] => some ([], [])
  | g + 1, t :: r =>
    if lo ≤ opCode t.text ∧ opCode t.text ≤ hi then
      match pf r with
      | none => none
      | some (e, r') =>
        match pLoop pf lo hi g r' with
        | none => none
        | some (e', r'') => some (e ++ ⟨opCode t.text, 0, ⟨#[]⟩⟩ :: e', r'')
    else some ([], t :: r)

/-- What has been read, ahead of what comes. -/
def joinE (em : List Pop) : Got → Got
  | none => none
  | some (e, r) => some (em ++ e, r)

def pChain (pf : List Tk → Got) (lo hi : Int) (rem : List Tk) : Got :=
  match pf rem with
  | none => none
  | some (e, r) => joinE e (pLoop pf lo hi 25 r)

def pTerm (pf : List Tk → Got) : List Tk → Got := pChain pf 7 9
def pSum (pf : List Tk → Got) : List Tk → Got := pChain (pTerm pf) 5 6
def pComp (pf : List Tk → Got) (rem : List Tk) : Got :=
  match pSum pf rem with
  | none => none
  | some (e, []) => some (e, [])
  | some (e, t :: r) =>
    if 10 ≤ opCode t.text ∧ opCode t.text ≤ 11 then
      match pSum pf r with
      | none => none
      | some (e', r') => some (e ++ e' ++ [⟨opCode t.text, 0, ⟨#[]⟩⟩], r')
    else some (e, t :: r)

/-- What stands ahead of a closing sign. -/
def closed (x : ByteArray) (last : List Pop) : Got → Got
  | none => none
  | some (_, []) => none
  | some (e, t :: r) => if t.text = x then some (e ++ last, r) else none

def pVar (pc : List Tk → Got) (name : ByteArray) : List Tk → Got
  | [] => some ([⟨2, 0, name⟩], [])
  | t :: r => if t.text = ⟨#[91]⟩ then closed ⟨#[93]⟩ [⟨3, 0, name⟩] (pc r) else some ([⟨2, 0, name⟩], t :: r)

def pFactor : Nat → List Tk → Got
  | 0, _ => none
  | _ + 1, [] => none
  | f + 1, t :: r =>
    if t.text = ⟨#[45]⟩ then
      match pFactor f r with
      | none => none
      | some (e, r') => some (e ++ [⟨4, 0, ⟨#[]⟩⟩], r')
    else if t.text = ⟨#[40]⟩ then closed ⟨#[41]⟩ [] (pComp (pFactor f) r)
    else if t.kind = 2 then some ([⟨1, val t.text, ⟨#[]⟩⟩], r)
    else if t.kind = 1 ∧ resv t.text = false then pVar (pComp (pFactor f)) t.text r
    else none

def pExpr (rem : List Tk) : Got := pComp (pFactor 24) rem


/-- A line that has been read. -/
structure PForm where
  kind : Int
  name : ByteArray
  cells : Int
  params : List ByteArray
  index : List Pop
  values : List (List Pop)

def pName : List Tk → Option (ByteArray × List Tk)
  | [] => none
  | t :: r => if t.kind = 1 ∧ resv t.text = false then some (t.text, r) else none
abbrev GotF := Option (PForm × List Tk)
def pNamed (kind : Int) (rem : List Tk) : GotF :=
  match pName rem with
  | none => none
  | some (nm, r) => some (⟨kind, nm, 0, [], [], []⟩, r)
def pValued (kind : Int) (rem : List Tk) : GotF :=
  match pExpr rem with
  | none => none
  | some (e, r) => some (⟨kind, ⟨#[]⟩, 0, [], [], [e]⟩, r)

def pNumber : List Tk → Option (Int × List Tk)
  | [] => none
  | t :: r => if t.kind = 2 then some (val t.text, r) else none
def pArray (rem : List Tk) : GotF :=
  match pName rem with
  | none => none
  | some (nm, r) =>
    match pNumber r with
    | none => none
    | some (v, r') => if v < 1 ∨ 32 < v then none else some (⟨2, nm, v, [], [], []⟩, r')
def pParams (acc : List ByteArray) : List Tk → Option (List ByteArray)
  | [] => some acc
  | t :: r => if (t.kind = 1 ∧ resv t.text = false) ∧ acc.length < 4 then pParams (acc ++ [t.text]) r else none
def pProc (rem : List Tk) : GotF :=
  match pName rem with
  | none => none
  | some (nm, r) =>
    match pParams [] r with
    | none => none
    | some ps => some (⟨3, nm, 0, ps, [], []⟩, [])

def pTake (x : ByteArray) : List Tk → Option (List Tk)
  | [] => none
  | t :: r => if t.text = x then some r else none
def pTo (kind : Int) (nm : ByteArray) (ix : List Pop) (rem : List Tk) : GotF :=
  match pTake ⟨#[116, 111]⟩ rem with
  | none => none
  | some r =>
    match pExpr r with
    | none => none
    | some (e, r') => some (⟨kind, nm, 0, [], ix, [e]⟩, r')
def pSet (rem : List Tk) : GotF :=
  match pName rem with
  | none => none
  | some (nm, r) =>
    match pTake ⟨#[91]⟩ r with
    | none => pTo 8 nm [] r
    | some r1 =>
      match pExpr r1 with
      | none => none
      | some (ix, r2) =>
        match pTake ⟨#[93]⟩ r2 with
        | none => none
        | some r3 => pTo 9 nm ix r3

theorem to_none {kind : Int} {nm : ByteArray} {ix : List Pop} {rem : List Tk} (h : pTake ⟨#[116, 111]⟩ rem = none) : pTo kind nm ix rem = none := by rw [pTo, h]
theorem to_no {kind : Int} {nm : ByteArray} {ix : List Pop} {rem r : List Tk} (h : pTake ⟨#[116, 111]⟩ rem = some r) (h2 : pExpr r = none) : pTo kind nm ix rem = none := by rw [pTo, h]; simp only; rw [h2]
theorem to_ok {kind : Int} {nm : ByteArray} {ix e : List Pop} {rem r r' : List Tk} (h : pTake ⟨#[116, 111]⟩ rem = some r) (h2 : pExpr r = some (e, r')) : pTo kind nm ix rem = some (⟨kind, nm, 0, [], ix, [e]⟩, r') := by rw [pTo, h]; simp only; rw [h2]
theorem set_a {rem r : List Tk} {nm : ByteArray} {x : GotF} (h : pName rem = some (nm, r)) (h2 : pTake ⟨#[91]⟩ r = none) (h3 : pTo 8 nm [] r = x) : pSet rem = x := by rw [pSet, h]; simp only; rw [h2]; exact h3
theorem set_b {rem r r1 r2 r3 : List Tk} {nm : ByteArray} {ix : List Pop} {x : GotF} (h : pName rem = some (nm, r)) (h2 : pTake ⟨#[91]⟩ r = some r1) (h3 : pExpr r1 = some (ix, r2)) (h4 : pTake ⟨#[93]⟩ r2 = some r3) (h5 : pTo 9 nm ix r3 = x) : pSet rem = x := by
  rw [pSet, h]; simp only; rw [h2]; simp only; rw [h3]; simp only; rw [h4]; exact h5
theorem set_c {rem r r1 r2 : List Tk} {nm : ByteArray} {ix : List Pop} (h : pName rem = some (nm, r)) (h2 : pTake ⟨#[91]⟩ r = some r1) (h3 : pExpr r1 = some (ix, r2)) (h4 : pTake ⟨#[93]⟩ r2 = none) : pSet rem = none := by
  rw [pSet, h]; simp only; rw [h2]; simp only; rw [h3]; simp only; rw [h4]
theorem set_d {rem r r1 : List Tk} {nm : ByteArray} (h : pName rem = some (nm, r)) (h2 : pTake ⟨#[91]⟩ r = some r1) (h3 : pExpr r1 = none) : pSet rem = none := by
  rw [pSet, h]; simp only; rw [h2]; simp only; rw [h3]

def pArgs : Nat → List (List Pop) → List Tk → Option (List (List Pop) × List Tk)
  | 0, _, _ => none
  | f + 1, acc, rem =>
    match pExpr rem with
    | none => none
    | some (e, r) =>
      match pTake ⟨#[44]⟩ r with
      | none => some (acc ++ [e], r)
      | some r' => pArgs f (acc ++ [e]) r'
def pArgsAll (r : List Tk) : Option (List (List Pop) × List Tk) := if r = [] then some ([], r) else pArgs 25 [] r
def pCall (rem : List Tk) : GotF :=
  match pName rem with
  | none => none
  | some (nm, r) =>
    match pArgsAll r with
    | none => none
    | some (vs, r') => some (⟨12, nm, 0, [], [], vs⟩, r')
theorem args_none {f : Nat} {acc : List (List Pop)} {rem : List Tk} (h : pExpr rem = none) : pArgs (f + 1) acc rem = none := by rw [pArgs, h]
theorem args_stop {f : Nat} {acc : List (List Pop)} {rem r : List Tk} {e : List Pop} (h : pExpr rem = some (e, r)) (h2 : pTake ⟨#[44]⟩ r = none) : pArgs (f + 1) acc rem = some (acc ++ [e], r) := by rw [pArgs, h]; simp only; rw [h2]
theorem args_next {f : Nat} {acc : List (List Pop)} {rem r r' : List Tk} {e : List Pop} (h : pExpr rem = some (e, r)) (h2 : pTake ⟨#[44]⟩ r = some r') : pArgs (f + 1) acc rem = pArgs f (acc ++ [e]) r' := by rw [pArgs, h]; simp only; rw [h2]
theorem call_none {rem r : List Tk} {nm : ByteArray} (h : pName rem = some (nm, r)) (h2 : pArgsAll r = none) : pCall rem = none := by rw [pCall, h]; simp only; rw [h2]
theorem call_some {rem r r' : List Tk} {nm : ByteArray} {vs : List (List Pop)} (h : pName rem = some (nm, r)) (h2 : pArgsAll r = some (vs, r')) : pCall rem = some (⟨12, nm, 0, [], [], vs⟩, r') := by rw [pCall, h]; simp only; rw [h2]

/-- What stands behind a line's first token. -/
def pLine (first : ByteArray) (rem : List Tk) : GotF :=
  if first.toList == [118, 97, 114] then pNamed 1 rem
  else if first.toList == [97, 114, 114, 97, 121] then pArray rem
  else if first.toList == [112, 114, 111, 99] then pProc rem
  else if first.toList == [101, 110, 100] then some (⟨4, ⟨#[]⟩, 0, [], [], []⟩, rem)
  else if first.toList == [105, 102] then pValued 5 rem
  else if first.toList == [101, 108, 115, 101] then some (⟨6, ⟨#[]⟩, 0, [], [], []⟩, rem)
  else if first.toList == [119, 104, 105, 108, 101] then pValued 7 rem
  else if first.toList == [115, 101, 116] then pSet rem
  else if first.toList == [112, 114, 105, 110, 116] then pValued 10 rem
  else if first.toList == [114, 101, 97, 100] then pNamed 11 rem
  else if first.toList == [99, 97, 108, 108] then pCall rem
  else if first.toList == [114, 101, 116, 117, 114, 110] then some (⟨13, ⟨#[]⟩, 0, [], [], []⟩, rem)
  else none

def pLineAll : List Tk → Option PForm
  | [] => some ⟨0, ⟨#[]⟩, 0, [], [], []⟩
  | t :: r =>
    match pLine t.text r with
    | none => none
    | some (fm, r') => if r' = [] then some fm else none
theorem toksCells_get : ∀ (ts : List Tk) (i : Nat) (h : i < ts.length), (toksCells ts)[i * 2]? = some (.int .i64 ts[i].kind) ∧ (toksCells ts)[i * 2 + 1]? = some (.string ts[i].text)
  | [], i, h => by simp at h
  | t :: r, 0, _ => by simp [toksCells, tkCells]
  | t :: r, i + 1, h => by
    have ih := toksCells_get r i (by simpa using h)
    have e : toksCells (t :: r) = [Value.int .i64 t.kind, Value.string t.text] ++ toksCells r := by simp [toksCells, tkCells]
    have e2 : (i + 1) * 2 = i * 2 + 2 := by omega
    rw [e, e2]
    simpa using ih

theorem toksFrom_facts (s : ByteArray) (hs : s.size ≤ 40000) : ∀ (f a : Nat) (acc ts : List Tk), acc.length ≤ 24 → (∀ t ∈ acc, t.text.size ≤ 40000) → toksFrom s f a acc = some ts → ts.length ≤ 24 ∧ ∀ t ∈ ts, t.text.size ≤ 40000
  | 0, _, _, _, _, _, h => by simp [toksFrom] at h
  | f + 1, a, acc, ts, h1, h2, h => by
    rw [toksFrom] at h
    split at h
    · split at h
      · exact toksFrom_facts s hs f _ _ _ h1 h2 h
      · split at h
        · cases h
        · next hc =>
          refine toksFrom_facts s hs f _ _ _ (by simp; omega) ?_ h
          intro t ht
          simp at ht
          rcases ht with ht | rfl
          · exact h2 t ht
          · simp [ByteArray.size_extract]; omega
    · simp at h
      subst h
      exact ⟨h1, h2⟩
theorem toks_facts {s : ByteArray} {ts : List Tk} (hs : s.size ≤ 40000) (h : toks s = some ts) : ts.length ≤ 24 ∧ ∀ t ∈ ts, t.text.size ≤ 40000 :=
  toksFrom_facts s hs _ _ _ _ (by simp) (by simp) h
theorem linesFrom_facts (s : ByteArray) (hs : s.size ≤ 40000) : ∀ (f a i : Nat) (acc : List ByteArray), (∀ t ∈ acc, t.size ≤ 40000) → (∀ t ∈ linesFrom s f a i acc, t.size ≤ 40000)
  | 0, _, _, acc, h => by simpa [linesFrom] using h
  | f + 1, a, i, acc, h => by
    rw [linesFrom]
    split
    · split
      · refine linesFrom_facts s hs f _ _ _ ?_
        intro t ht
        simp at ht
        rcases ht with ht | rfl
        · exact h t ht
        · simp [ByteArray.size_extract]; omega
      · exact linesFrom_facts s hs f _ _ _ h
    · intro t ht
      simp at ht
      rcases ht with ht | rfl
      · exact h t ht
      · simp [ByteArray.size_extract]; omega
theorem lines_facts {s : ByteArray} (hs : s.size ≤ 40000) : ∀ t ∈ lines s, t.size ≤ 40000 := linesFrom_facts s hs _ _ _ _ (by simp)
theorem linesFrom_len (s : ByteArray) : ∀ (f a i : Nat) (acc : List ByteArray), i ≤ s.size → s.size < f + i → (linesFrom s f a i acc).length + nls s i = acc.length + 1 + nls s s.size
  | 0, _, _, _, h, h2 => by omega
  | f + 1, a, i, acc, h, h2 => by
    rw [linesFrom]
    split
    · next hlt =>
      have hn : nls s (i + 1) = nls s i + (if byteAt s i = 10 then 1 else 0) := rfl
      split
      · next hb =>
        have := linesFrom_len s f (i + 1) (i + 1) (acc ++ [s.extract a i]) (by omega) (by omega)
        rw [if_pos hb] at hn
        simp at this
        omega
      · next hb =>
        have := linesFrom_len s f a (i + 1) acc (by omega) (by omega)
        rw [if_neg hb] at hn
        omega
    · have : i = s.size := by omega
      subst this
      simp
theorem lines_len (s : ByteArray) : (lines s).length = 1 + nls s s.size := by
  have := linesFrom_len s (s.size + 1) 0 0 [] (by omega) (by omega)
  simp [nls] at this
  rw [lines]
  omega
end Rt
end Go.Proofs.YtopeochnoefgcaaDoor

namespace Go.Proofs.YtopeochnoefgcaaDoor
open Go.RowKit
namespace Rt
/-- A line of the program. -/
structure PL where
  toks : List Tk
  form : PForm
  depth : Int
  opener : Int
  proc : Int
def zPL : PL := ⟨[], ⟨0, ⟨#[]⟩, 0, [], [], []⟩, 0, 0, 0⟩
def rdLine (s : ByteArray) : Option PL :=
  match toks s with
  | none => none
  | some ts =>
    match pLineAll ts with
    | none => none
    | some fm => some ⟨ts, fm, 0, 0, 0⟩
/-- The line at fault, or 0; the lines. -/
def rForms : Nat → List ByteArray → List PL → Nat × List PL
  | _, [], acc => (0, acc)
  | i, s :: r, acc =>
    match rdLine s with
    | none => (i + 1, acc)
    | some pl => rForms (i + 1) r (acc ++ [pl])



/-- A block that is open. -/
structure Blk where
  line : Nat
  kind : Int
  els : Bool
def blkCells (b : Blk) : List Value := [.int .i64 b.line, .int .i64 b.kind, .bool b.els]
def blksCells (bs : List Blk) : List Value := bs.flatMap blkCells
theorem blksCells_snoc (bs : List Blk) (b : Blk) : blksCells (bs ++ [b]) = blksCells bs ++ [.int .i64 b.line, .int .i64 b.kind, .bool b.els] := by simp [blksCells, blkCells]
theorem blksCells_length (bs : List Blk) : (blksCells bs).length = bs.length * 3 := by
  induction bs with
  | nil => rfl
  | cons t r ih => simp only [blksCells, List.flatMap_cons, List.length_append, List.length_cons] at ih ⊢; simp [blkCells] at ih ⊢; omega

def lastOr (bs : List Blk) : Blk := bs.getLastD ⟨0, 0, false⟩
def adm (bs : List Blk) (kind : Int) : Bool :=
  if kind = 0 then true
  else if kind = 1 ∨ kind = 2 ∨ kind = 3 then decide (bs = [])
  else if bs = [] then false
  else if kind = 6 then decide ((lastOr bs).kind = 5) && !(lastOr bs).els
  else true
def passed (bs : List Blk) (n : Nat) (kind : Int) : List Blk :=
  if kind = 3 ∨ kind = 5 ∨ kind = 7 then bs ++ [⟨n, kind, false⟩]
  else if kind = 6 then (if bs = [] then [] else bs.dropLast ++ [⟨(lastOr bs).line, (lastOr bs).kind, true⟩])
  else if kind = 4 then bs.dropLast
  else bs

def firstOr (bs : List Blk) : Blk := bs.headD ⟨0, 0, false⟩
/-- A line, placed among the blocks that are open. -/
def placed (bs : List Blk) (pl : PL) : PL :=
  if bs = [] then pl
  else if pl.form.kind = 6 ∨ pl.form.kind = 4 then ⟨pl.toks, pl.form, (bs.length : Int) - 1, (lastOr bs).line, (firstOr bs).line⟩
  else ⟨pl.toks, pl.form, bs.length, pl.opener, (firstOr bs).line⟩

/-- The line at fault, or 0; the lines; the blocks that are open at the end. -/
def nestFrom : List PL → Nat → List Blk → List PL → Nat × List PL × List Blk
  | [], _, bs, acc => (0, acc, bs)
  | p :: r, n, bs, acc => if adm bs p.form.kind = true then nestFrom r (n + 1) (passed bs n p.form.kind) (acc ++ [placed bs p]) else (n, acc ++ p :: r, bs)
theorem placed_same (bs : List Blk) (p : PL) : (placed bs p).toks = p.toks ∧ (placed bs p).form = p.form := by
  unfold placed
  split
  · exact ⟨rfl, rfl⟩
  · split <;> exact ⟨rfl, rfl⟩
theorem passed_len (bs : List Blk) (n : Nat) (kind : Int) : (passed bs n kind).length ≤ bs.length + 1 := by
  unfold passed
  split
  · simp
  · split
    · split
      · simp
      · simp <;> omega
    · split
      · simp <;> omega
      · omega

def zF : PForm := ⟨0, ⟨#[]⟩, 0, [], [], []⟩
def isDecl (p : PL) (x : ByteArray) : Bool := (decide (p.form.kind = 1) || decide (p.form.kind = 2) || decide (p.form.kind = 3)) && decide (p.form.name = x)
def declFrom : Nat → List PL → ByteArray → Nat
  | _, [], _ => 0
  | n, p :: r, x => if isDecl p x = true then n else declFrom (n + 1) r x
def declP (pls : List PL) (x : ByteArray) : Nat := declFrom 1 (pls.drop 1) x
def formAt (pls : List PL) (n : Int) : PForm := if n < 0 then zF else (pls[n.toNat]?.map (·.form)).getD zF
def declForm (pls : List PL) (x : ByteArray) : PForm := formAt pls (declP pls x)
def isPar (pls : List PL) (proc : Int) (x : ByteArray) : Bool := (formAt pls proc).params.any (fun y => decide (y = x))
def isVar (pls : List PL) (proc : Int) (x : ByteArray) : Bool := isPar pls proc x || decide ((declForm pls x).kind = 1)
def isArr (pls : List PL) (proc : Int) (x : ByteArray) : Bool := !isPar pls proc x && decide ((declForm pls x).kind = 2)

def opFit (pls : List PL) (proc : Int) (o : Pop) : Bool := if o.code = 2 then isVar pls proc o.name else if o.code = 3 then isArr pls proc o.name else true
def exFit (pls : List PL) (proc : Int) (ops : List Pop) : Bool := ops.all (opFit pls proc)

def exsFit (pls : List PL) (p : PL) : Bool := exFit pls p.proc p.form.index && p.form.values.all (exFit pls p.proc)
/-- The bounds that all walks over a form want. -/
structure Small (fm : PForm) : Prop where
  params : fm.params.length ≤ 1000
  index : fm.index.length ≤ 1000
  values : fm.values.length ≤ 1000
  each : ∀ o ∈ fm.values, o.length ≤ 1000

def callFit (pls : List PL) (fm : PForm) : Bool := decide ((declForm pls fm.name).kind = 3) && decide ((declForm pls fm.name).params.length = fm.values.length)
def NoDup (ps : List ByteArray) (k : Nat) : Prop := ∀ i j, j < i → i < k → i < ps.length → ¬ ps[i]? = ps[j]?
def mainWord : List UInt8 := [109, 97, 105, 110]
open Classical in
noncomputable def parFit (fm : PForm) : Bool := !((fm.name.toList == mainWord) && decide (0 < fm.params.length)) && decide (NoDup fm.params fm.params.length)

noncomputable def namFit (pls : List PL) (n : Nat) (p : PL) : Bool :=
  if p.form.kind = 1 ∨ p.form.kind = 2 then decide (declP pls p.form.name = n)
  else if p.form.kind = 3 then decide (declP pls p.form.name = n) && parFit p.form
  else if p.form.kind = 8 ∨ p.form.kind = 11 then isVar pls p.proc p.form.name && exsFit pls p
  else if p.form.kind = 9 then isArr pls p.proc p.form.name && exsFit pls p
  else if p.form.kind = 12 then callFit pls p.form && exsFit pls p
  else exsFit pls p

noncomputable def nameErr (pls : List PL) : Nat → List PL → Nat
  | _, [] => 0
  | n, p :: r => if namFit pls n p = true then nameErr pls (n + 1) r else n
def mainName : ByteArray := ⟨#[109, 97, 105, 110]⟩
theorem small_formAt {pls : List PL} (h : ∀ p ∈ pls, Small p.form) (n : Int) : (formAt pls n).params.length ≤ 1000 := by
  unfold formAt
  split
  · simp [zF]
  · cases e : pls[n.toNat]? with
    | none => simp [zF]
    | some p => simpa using (h p (List.mem_of_getElem? e)).params

def stopKind (k : Int) : Bool := decide (k = 8) || decide (k = 9) || decide (k = 10) || decide (k = 11) || decide (k = 5) || decide (k = 7) || decide (k = 12) || decide (k = 13)
def isStopP (pls : List PL) (p : PL) : Bool := if stopKind p.form.kind = true then true else if p.form.kind = 4 then decide ((formAt pls p.opener).kind = 3) else false
def stopsFrom (pls : List PL) : Nat → List PL → List Int → List Int
  | _, [], acc => acc
  | n, p :: r, acc => stopsFrom pls (n + 1) r (if isStopP pls p = true then acc ++ [(n : Int)] else acc)
def stopsP (pls : List PL) : List Int := stopsFrom pls 1 (pls.drop 1) []


def Dec (pf : List Tk → Got) : Prop := ∀ rem em r, pf rem = some (em, r) → em.length + r.length ≤ rem.length

theorem loop_dec {pf : List Tk → Got} (h : Dec pf) (lo hi : Int) : ∀ g, Dec (pLoop pf lo hi g)
  | 0, rem, em, r, e => by simp [pLoop] at e
  | g + 1, [], em, r, e => by simp [pLoop] at e; obtain ⟨rfl, rfl⟩ := e; simp
  | g + 1, t :: rem, em, r, e => by
    rw [pLoop] at e
    split at e
    · cases h1 : pf rem with
      | none => rw [h1] at e; simp at e
      | some x =>
        obtain ⟨e1, r1⟩ := x
        rw [h1] at e
        simp only at e
        cases h2 : pLoop pf lo hi g r1 with
        | none => rw [h2] at e; simp at e
        | some y =>
          obtain ⟨e2, r2⟩ := y
          rw [h2] at e
          simp at e
          have a := h _ _ _ h1
          have b := loop_dec h lo hi g _ _ _ h2
          rw [← e.1, ← e.2]
          simp
          omega
    · simp at e
      obtain ⟨rfl, rfl⟩ := e
      simp
theorem chain_dec {pf : List Tk → Got} (h : Dec pf) (lo hi : Int) : Dec (pChain pf lo hi) := by
  intro rem em r e
  rw [pChain] at e
  cases h1 : pf rem with
  | none => rw [h1] at e; simp at e
  | some x =>
    obtain ⟨e1, r1⟩ := x
    rw [h1] at e
    simp only at e
    cases h2 : pLoop pf lo hi 25 r1 with
    | none => rw [h2] at e; simp [joinE] at e
    | some y =>
      obtain ⟨e2, r2⟩ := y
      rw [h2] at e
      simp [joinE] at e
      have a := h _ _ _ h1
      have b := loop_dec h lo hi 25 _ _ _ h2
      rw [← e.1, ← e.2]
      simp
      omega
theorem comp_dec {pf : List Tk → Got} (h : Dec pf) : Dec (pComp pf) := by
  have hs : Dec (pSum pf) := chain_dec (chain_dec h 7 9) 5 6
  intro rem em r e
  rw [pComp] at e
  cases h1 : pSum pf rem with
  | none => rw [h1] at e; simp at e
  | some x =>
    obtain ⟨e1, r1⟩ := x
    have a := hs _ _ _ h1
    rw [h1] at e
    cases r1 with
    | nil => simp at e; obtain ⟨rfl, rfl⟩ := e; exact a
    | cons t r1 =>
      simp only at e
      split at e
      · cases h2 : pSum pf r1 with
        | none => rw [h2] at e; simp at e
        | some y =>
          obtain ⟨e2, r2⟩ := y
          rw [h2] at e
          simp at e
          have b := hs _ _ _ h2
          rw [← e.1, ← e.2]
          simp at a ⊢
          omega
      · simp at e; rw [← e.1, ← e.2]; exact a
theorem closed_dec {x : ByteArray} {last : List Pop} {y : Got} {em : List Pop} {r : List Tk} (h : closed x last y = some (em, r)) : ∃ e t, y = some (e, t :: r) ∧ em = e ++ last := by
  cases y with
  | none => simp [closed] at h
  | some z =>
    obtain ⟨e, r1⟩ := z
    cases r1 with
    | nil => simp [closed] at h
    | cons t r1 =>
      rw [closed] at h
      split at h
      · simp at h
        exact ⟨e, t, by rw [h.2], h.1.symm⟩
      · cases h
theorem factor_dec : ∀ f, Dec (pFactor f)
  | 0, rem, em, r, e => by simp [pFactor] at e
  | f + 1, [], em, r, e => by simp [pFactor] at e
  | f + 1, t :: rem, em, r, e => by
    have hc : Dec (pComp (pFactor f)) := comp_dec (factor_dec f)
    rw [pFactor] at e
    split at e
    · cases h1 : pFactor f rem with
      | none => rw [h1] at e; simp at e
      | some x =>
        obtain ⟨e1, r1⟩ := x
        rw [h1] at e
        simp at e
        have a := factor_dec f _ _ _ h1
        rw [← e.1, ← e.2]
        simp
        omega
    · split at e
      · obtain ⟨e1, t1, h1, h2⟩ := closed_dec e
        have a := hc _ _ _ h1
        rw [h2]
        simp at a ⊢
        omega
      · split at e
        · simp at e
          rw [← e.1, ← e.2]
          simp
          omega
        · split at e
          · cases rem with
            | nil => simp [pVar] at e; obtain ⟨rfl, rfl⟩ := e; simp
            | cons t1 rem =>
              rw [pVar] at e
              split at e
              · obtain ⟨e1, t2, h1, h2⟩ := closed_dec e
                have a := hc _ _ _ h1
                rw [h2]
                simp at a ⊢
                omega
              · simp at e
                rw [← e.1, ← e.2]
                simp
                omega
          · cases e
theorem expr_dec : Dec pExpr := comp_dec (factor_dec 24)

theorem args_dec : ∀ (f : Nat) (acc : List (List Pop)) (rem : List Tk) (vs : List (List Pop)) (r : List Tk), pArgs f acc rem = some (vs, r) → rem.length ≤ 24 → acc.length + f ≤ 25 → (∀ o ∈ acc, o.length ≤ 1000) → vs.length ≤ 25 ∧ ∀ o ∈ vs, o.length ≤ 1000
  | 0, _, _, _, _, h, _, _, _ => by simp [pArgs] at h
  | f + 1, acc, rem, vs, r, h, h1, h2, h3 => by
    rw [pArgs] at h
    cases e : pExpr rem with
    | none => rw [e] at h; simp at h
    | some x =>
      obtain ⟨em, r1⟩ := x
      rw [e] at h
      simp only at h
      have a := expr_dec _ _ _ e
      have h3' : ∀ o ∈ acc ++ [em], o.length ≤ 1000 := by
        intro o ho
        simp at ho
        rcases ho with ho | rfl
        · exact h3 o ho
        · omega
      cases e2 : pTake ⟨#[44]⟩ r1 with
      | none =>
        rw [e2] at h
        simp at h
        rw [← h.1]
        exact ⟨by simp; omega, h3'⟩
      | some r2 =>
        rw [e2] at h
        simp only at h
        have hr2 : r2.length ≤ r1.length := by
          cases r1 with
          | nil => simp [pTake] at e2
          | cons t r1 => simp [pTake] at e2; rw [e2.2]; simp
        exact args_dec f (acc ++ [em]) r2 vs r h (by omega) (by simp; omega) h3'
theorem params_dec : ∀ (rem : List Tk) (acc ps : List ByteArray), pParams acc rem = some ps → acc.length ≤ 4 → ps.length ≤ 4
  | [], acc, ps, h, h1 => by simp [pParams] at h; rw [← h]; exact h1
  | t :: r, acc, ps, h, h1 => by
    rw [pParams] at h
    split at h
    · next hc => exact params_dec r (acc ++ [t.text]) ps h (by simp; omega)
    · cases h

theorem name_len {rem r : List Tk} {nm : ByteArray} (h : pName rem = some (nm, r)) : r.length ≤ rem.length := by
  cases rem with
  | nil => simp [pName] at h
  | cons t rem =>
    rw [pName] at h
    split at h
    · simp at h; rw [← h.2]; simp
    · cases h
theorem take_len {x : ByteArray} {rem r : List Tk} (h : pTake x rem = some r) : r.length ≤ rem.length := by
  cases rem with
  | nil => simp [pTake] at h
  | cons t rem =>
    rw [pTake] at h
    split at h
    · simp at h; rw [← h]; simp
    · cases h

theorem small_plain (k : Int) (nm : ByteArray) (c : Int) : Small ⟨k, nm, c, [], [], []⟩ := ⟨by simp, by simp, by simp, by simp⟩
theorem to_small {kind : Int} {nm : ByteArray} {ix : List Pop} {rem r : List Tk} {fm : PForm} (h : pTo kind nm ix rem = some (fm, r)) (hl : rem.length ≤ 24) (hi : ix.length ≤ 1000) : Small fm := by
  rw [pTo] at h
  cases e : pTake ⟨#[116, 111]⟩ rem with
  | none => rw [e] at h; simp at h
  | some r1 =>
    rw [e] at h
    simp only at h
    have a := take_len e
    cases e2 : pExpr r1 with
    | none => rw [e2] at h; simp at h
    | some y =>
      obtain ⟨em, r2⟩ := y
      rw [e2] at h
      simp at h
      have b := expr_dec _ _ _ e2
      rw [← h.1]
      exact ⟨by simp, hi, by simp, by simp; omega⟩

theorem line_small {first : ByteArray} {rem r : List Tk} {fm : PForm} (h : pLine first rem = some (fm, r)) (hl : rem.length ≤ 24) : Small fm := by
  have named : ∀ k, pNamed k rem = some (fm, r) → Small fm := by
    intro k h
    rw [pNamed] at h
    cases e : pName rem with
    | none => rw [e] at h; simp at h
    | some x => obtain ⟨nm, r1⟩ := x; rw [e] at h; simp at h; rw [← h.1]; exact small_plain _ _ _
  have valued : ∀ k, pValued k rem = some (fm, r) → Small fm := by
    intro k h
    rw [pValued] at h
    cases e : pExpr rem with
    | none => rw [e] at h; simp at h
    | some x =>
      obtain ⟨em, r1⟩ := x
      rw [e] at h
      simp at h
      have b := expr_dec _ _ _ e
      rw [← h.1]
      exact ⟨by simp, by simp, by simp, by simp; omega⟩
  have plain : ∀ k : Int, (some ((⟨k, ⟨#[]⟩, 0, [], [], []⟩ : PForm), rem) : GotF) = some (fm, r) → Small fm := by
    intro k h
    simp at h
    rw [← h.1]
    exact small_plain _ _ _
  rw [pLine] at h
  by_cases h1 : (first.toList == [118, 97, 114]) = true
  · rw [if_pos h1] at h; exact named _ h
  rw [if_neg h1] at h
  by_cases h2 : (first.toList == [97, 114, 114, 97, 121]) = true
  · rw [if_pos h2, pArray] at h
    cases e : pName rem with
    | none => rw [e] at h; simp at h
    | some x =>
      obtain ⟨nm, r1⟩ := x
      rw [e] at h
      simp only at h
      cases e2 : pNumber r1 with
      | none => rw [e2] at h; simp at h
      | some y =>
        obtain ⟨v, r2⟩ := y
        rw [e2] at h
        simp only at h
        split at h
        · cases h
        · simp at h; rw [← h.1]; exact small_plain _ _ _
  rw [if_neg h2] at h
  by_cases h3 : (first.toList == [112, 114, 111, 99]) = true
  · rw [if_pos h3, pProc] at h
    cases e : pName rem with
    | none => rw [e] at h; simp at h
    | some x =>
      obtain ⟨nm, r1⟩ := x
      rw [e] at h
      simp only at h
      cases e2 : pParams [] r1 with
      | none => rw [e2] at h; simp at h
      | some ps =>
        rw [e2] at h
        simp at h
        have b := params_dec _ _ _ e2 (by simp)
        rw [← h.1]
        exact ⟨by simp; omega, by simp, by simp, by simp⟩
  rw [if_neg h3] at h
  by_cases h4 : (first.toList == [101, 110, 100]) = true
  · rw [if_pos h4] at h; exact plain _ h
  rw [if_neg h4] at h
  by_cases h5 : (first.toList == [105, 102]) = true
  · rw [if_pos h5] at h; exact valued _ h
  rw [if_neg h5] at h
  by_cases h6 : (first.toList == [101, 108, 115, 101]) = true
  · rw [if_pos h6] at h; exact plain _ h
  rw [if_neg h6] at h
  by_cases h7 : (first.toList == [119, 104, 105, 108, 101]) = true
  · rw [if_pos h7] at h; exact valued _ h
  rw [if_neg h7] at h
  by_cases h8 : (first.toList == [115, 101, 116]) = true
  · rw [if_pos h8, pSet] at h
    cases e : pName rem with
    | none => rw [e] at h; simp at h
    | some x =>
      obtain ⟨nm, r1⟩ := x
      rw [e] at h
      simp only at h
      have a := name_len e
      cases e2 : pTake ⟨#[91]⟩ r1 with
      | none => rw [e2] at h; exact to_small h (by omega) (by simp)
      | some r2 =>
        rw [e2] at h
        simp only at h
        have b := take_len e2
        cases e3 : pExpr r2 with
        | none => rw [e3] at h; simp at h
        | some y =>
          obtain ⟨ix, r3⟩ := y
          rw [e3] at h
          simp only at h
          have c := expr_dec _ _ _ e3
          cases e4 : pTake ⟨#[93]⟩ r3 with
          | none => rw [e4] at h; simp at h
          | some r4 =>
            rw [e4] at h
            have d := take_len e4
            exact to_small h (by omega) (by omega)
  rw [if_neg h8] at h
  by_cases h9 : (first.toList == [112, 114, 105, 110, 116]) = true
  · rw [if_pos h9] at h; exact valued _ h
  rw [if_neg h9] at h
  by_cases h10 : (first.toList == [114, 101, 97, 100]) = true
  · rw [if_pos h10] at h; exact named _ h
  rw [if_neg h10] at h
  by_cases h11 : (first.toList == [99, 97, 108, 108]) = true
  · rw [if_pos h11, pCall] at h
    cases e : pName rem with
    | none => rw [e] at h; simp at h
    | some x =>
      obtain ⟨nm, r1⟩ := x
      rw [e] at h
      simp only at h
      have a := name_len e
      cases e2 : pArgsAll r1 with
      | none => rw [e2] at h; simp at h
      | some y =>
        obtain ⟨vs, r2⟩ := y
        rw [e2] at h
        simp at h
        rw [← h.1]
        rw [pArgsAll] at e2
        split at e2
        · simp at e2; obtain ⟨rfl, _⟩ := e2; exact small_plain _ _ _
        · obtain ⟨g1, g2⟩ := args_dec _ _ _ _ _ e2 (by omega) (by simp) (by simp)
          exact ⟨by simp, by simp, by simp; omega, g2⟩
  rw [if_neg h11] at h
  by_cases h12 : (first.toList == [114, 101, 116, 117, 114, 110]) = true
  · rw [if_pos h12] at h; exact plain _ h
  rw [if_neg h12] at h
  cases h

theorem rdLine_small {s : ByteArray} {p : PL} (hs : s.size ≤ 40000) (h : rdLine s = some p) : Small p.form := by
  rw [rdLine] at h
  cases e : toks s with
  | none => rw [e] at h; simp at h
  | some ts =>
    rw [e] at h
    simp only at h
    have hf := (toks_facts hs e).1
    cases e2 : pLineAll ts with
    | none => rw [e2] at h; simp at h
    | some fm =>
      rw [e2] at h
      simp at h
      rw [← h]
      cases ts with
      | nil => simp [pLineAll] at e2; rw [← e2]; exact small_plain _ _ _
      | cons t r =>
        rw [pLineAll] at e2
        cases e3 : pLine t.text r with
        | none => rw [e3] at e2; simp at e2
        | some y =>
          obtain ⟨fm', r'⟩ := y
          rw [e3] at e2
          simp only at e2
          split at e2
          · simp at e2; rw [← e2]; exact line_small e3 (by simp at hf; omega)
          · cases e2

theorem rForms_facts : ∀ (texts : List ByteArray) (i : Nat) (acc pls : List PL), (∀ t ∈ texts, t.size ≤ 40000) → (∀ p ∈ acc, Small p.form) → rForms i texts acc = (0, pls) → pls.length = acc.length + texts.length ∧ (∀ p ∈ pls, Small p.form) ∧ ∃ rest, pls = acc ++ rest
  | [], _, acc, pls, _, h2, h => by simp [rForms] at h; rw [← h]; exact ⟨by simp, h2, [], by simp⟩
  | s :: r, i, acc, pls, h1, h2, h => by
    rw [rForms] at h
    cases e : rdLine s with
    | none => rw [e] at h; simp at h
    | some p =>
      rw [e] at h
      simp only at h
      obtain ⟨a, b, rest, c⟩ := rForms_facts r (i + 1) (acc ++ [p]) pls (fun t ht => h1 t (by simp [ht])) (fun q hq => by
        simp at hq
        rcases hq with hq | rfl
        · exact h2 q hq
        · exact rdLine_small (h1 s (by simp)) e) h
      exact ⟨by simp at a ⊢; omega, b, p :: rest, by rw [c]; simp⟩

theorem nest_facts : ∀ (rem : List PL) (n : Nat) (bs : List Blk) (acc : List PL) (ls : List PL) (b2 : List Blk), (∀ p ∈ acc, Small p.form) → (∀ p ∈ rem, Small p.form) → nestFrom rem n bs acc = (0, ls, b2) → 0 < n → ls.length = acc.length + rem.length ∧ ∀ p ∈ ls, Small p.form
  | [], _, _, acc, ls, _, h1, _, h, _ => by simp [nestFrom] at h; rw [← h.1]; exact ⟨by simp, h1⟩
  | p :: r, n, bs, acc, ls, b2, h1, h2, h, hn => by
    rw [nestFrom] at h
    split at h
    · obtain ⟨a, b⟩ := nest_facts r (n + 1) _ (acc ++ [placed bs p]) ls b2 (fun q hq => by
        simp at hq
        rcases hq with hq | rfl
        · exact h1 q hq
        · rw [(placed_same bs p).2]; exact h2 p (by simp)) (fun q hq => h2 q (by simp [hq])) h (by omega)
      exact ⟨by simp at a ⊢; omega, b⟩
    · simp at h; omega


/-- What reading a source comes to: the error, its line, the lines. -/
noncomputable def readNames (ls : List PL) : Int × Int × List PL :=
  if ¬ nameErr ls 1 (ls.drop 1) = 0 then (4, nameErr ls 1 (ls.drop 1), [])
  else if ¬ (declForm ls mainName).kind = 3 then (4, 0, [])
  else (0, 0, ls)
noncomputable def readNest (er : Nat) (ls : List PL) (bs : List Blk) (len : Nat) : Int × Int × List PL :=
  if ¬ er = 0 then (3, er, []) else if ¬ bs = [] then (3, len, []) else readNames ls
noncomputable def readForms (ln : Nat) (pls : List PL) (len : Nat) : Int × Int × List PL :=
  if ¬ ln = 0 then (2, ln, [])
  else readNest (nestFrom (pls.drop 1) 1 [] [zPL]).1 (nestFrom (pls.drop 1) 1 [] [zPL]).2.1 (nestFrom (pls.drop 1) 1 [] [zPL]).2.2 len
noncomputable def readS (s : ByteArray) : Int × Int × List PL :=
  if tooLong s = true then (1, 0, []) else readForms (rForms 0 (lines s) [zPL]).1 (rForms 0 (lines s) [zPL]).2 (lines s).length

end Rt
end Go.Proofs.YtopeochnoefgcaaDoor

namespace Go.Proofs.YtopeochnoefgcaaDoor
open Go.RowKit
namespace Rf
def letterB (b : Int) : Bool := decide (97 ≤ b) && decide (b ≤ 122)
def digitB (b : Int) : Bool := decide (48 ≤ b) && decide (b ≤ 57)
def inB (xs : List ByteArray) (x : ByteArray) : Bool := xs.any (fun y => decide (y = x))
def resvW : List ByteArray := [⟨#[118, 97, 114]⟩, ⟨#[97, 114, 114, 97, 121]⟩, ⟨#[112, 114, 111, 99]⟩, ⟨#[101, 110, 100]⟩, ⟨#[101, 108, 115, 101]⟩, ⟨#[105, 102]⟩, ⟨#[119, 104, 105, 108, 101]⟩, ⟨#[115, 101, 116]⟩, ⟨#[116, 111]⟩, ⟨#[112, 114, 105, 110, 116]⟩, ⟨#[114, 101, 97, 100]⟩, ⟨#[99, 97, 108, 108]⟩, ⟨#[114, 101, 116, 117, 114, 110]⟩]
def signW : List ByteArray := [⟨#[43]⟩, ⟨#[45]⟩, ⟨#[42]⟩, ⟨#[47]⟩, ⟨#[37]⟩, ⟨#[60]⟩, ⟨#[61]⟩, ⟨#[40]⟩, ⟨#[41]⟩, ⟨#[91]⟩, ⟨#[93]⟩, ⟨#[44]⟩]
def nameB (x : ByteArray) : Bool := decide (0 < x.size) && letterB (Rt.byteAt x 0) && !inB resvW x
def numberB (x : ByteArray) : Bool := decide (0 < x.size) && digitB (Rt.byteAt x 0)

def cmpW : List ByteArray := [⟨#[60]⟩, ⟨#[61]⟩]
def addW : List ByteArray := [⟨#[43]⟩, ⟨#[45]⟩]
def divW : List ByteArray := [⟨#[42]⟩, ⟨#[47]⟩, ⟨#[37]⟩]
def opdB (x : ByteArray) : Bool := nameB x || numberB x || (x.toList == [41]) || (x.toList == [93])
/-- What a text of digits is worth, as the reference reckons it. -/
def worthTo (s : ByteArray) : Nat → Int
  | 0 => 0
  | k + 1 => wrap64 (wrap64 (10 * worthTo s k) + (Rt.byteAt s k - 48) % 256)
def worth (s : ByteArray) : Int := worthTo s s.size
/-- How many bytes from place a on are letters, or digits. -/
def runN (s : ByteArray) (a : Nat) : Nat := if letterB (Rt.byteAt s a) = true then Rt.cw s 97 122 a else if digitB (Rt.byteAt s a) = true then Rt.cw s 48 57 a else 0

/-- How a token turns the depth of the brackets. -/
def dch (x : ByteArray) : Int := if (x.toList == [40]) = true then 1 else if (x.toList == [91]) = true then 1 else if (x.toList == [41]) = true then -1 else if (x.toList == [93]) = true then -1 else 0
/-- The token at a place. -/
def at' (t : List ByteArray) (i : Nat) : ByteArray := t.getD i ⟨#[]⟩
/-- The depth behind the first i tokens. -/
def depth (t : List ByteArray) : Nat → Int
  | 0 => 0
  | i + 1 => depth t i + dch (at' t i)
/-- The place of the last sign between operands outside all brackets, among the first i tokens. -/
def lastTo (sg t : List ByteArray) : Nat → Int
  | 0 => -1
  | i + 1 => if inB sg (at' t i) = true ∧ depth t (i + 1) = 0 ∧ 0 < i ∧ opdB (at' t (i - 1)) = true then (i : Int) else lastTo sg t i
def last (sg t : List ByteArray) : Int := lastTo sg t t.length
theorem at_lt {t : List ByteArray} {i : Nat} (h : i < t.length) : at' t i = t[i] := by simp [at', h]
theorem dch_b (x : ByteArray) : -1 ≤ dch x ∧ dch x ≤ 1 := by unfold dch; (repeat' split) <;> omega
theorem depth_b (t : List ByteArray) : ∀ i : Nat, -(i : Int) ≤ depth t i ∧ depth t i ≤ i
  | 0 => by simp [depth]
  | i + 1 => by
    have := depth_b t i
    have h := dch_b (at' t i)
    rw [depth]; omega
theorem lastTo_b (sg t : List ByteArray) : ∀ i : Nat, -1 ≤ lastTo sg t i ∧ lastTo sg t i < (i : Int) ∧ (lastTo sg t i = -1 ∨ 0 < lastTo sg t i)
  | 0 => by simp [lastTo]
  | i + 1 => by
    have := lastTo_b sg t i
    rw [lastTo]; split <;> omega
theorem dch_cases (x : ByteArray) : ((x.toList == [40]) = true ∧ dch x = 1) ∨ ((x.toList == [40]) = false ∧ (x.toList == [91]) = true ∧ dch x = 1) ∨ ((x.toList == [40]) = false ∧ (x.toList == [91]) = false ∧ (x.toList == [41]) = true ∧ dch x = -1) ∨
    ((x.toList == [40]) = false ∧ (x.toList == [91]) = false ∧ (x.toList == [41]) = false ∧ (x.toList == [93]) = true ∧ dch x = -1) ∨ ((x.toList == [40]) = false ∧ (x.toList == [91]) = false ∧ (x.toList == [41]) = false ∧ (x.toList == [93]) = false ∧ dch x = 0) := by
  unfold dch
  cases (x.toList == [40]) <;> cases (x.toList == [91]) <;> cases (x.toList == [41]) <;> cases (x.toList == [93]) <;> simp

def exprS (S : List ByteArray → Bool) (t : List ByteArray) : Bool := if last cmpW t < 0 then S t else S (t.take (last cmpW t).toNat) && S (t.drop ((last cmpW t).toNat + 1))
def sumS (S T : List ByteArray → Bool) (t : List ByteArray) : Bool := if last addW t < 0 then T t else S (t.take (last addW t).toNat) && T (t.drop ((last addW t).toNat + 1))
def termS (S T : List ByteArray → Bool) (t : List ByteArray) : Bool := if last divW t < 0 then T t else S (t.take (last divW t).toNat) && T (t.drop ((last divW t).toNat + 1))

def first (t : List ByteArray) : ByteArray := at' t 0
def final (t : List ByteArray) : ByteArray := at' t (t.length - 1)
def factorS (F E C : List ByteArray → Bool) (t : List ByteArray) : Bool :=
  if t.length = 0 then false else if t.length = 1 then nameB (first t) || numberB (first t)
  else if ((first t).toList == [45]) = true then F (t.drop 1)
  else if ((first t).toList == [40]) = true ∧ ((final t).toList == [41]) = true then E ((t.take (t.length - 1)).drop 1) else C t
def cellS (E : List ByteArray → Bool) (t : List ByteArray) : Bool :=
  if t.length < 4 ∨ ((at' t 1).toList == [91]) = false ∨ ((final t).toList == [93]) = false then false
  else nameB (first t) && E ((t.take (t.length - 1)).drop 2)

/-- The five functions of expressions (0: EXPR, 1: sums, 2: terms, 3: factors, 4: cells), with fuel. -/
def gr : Nat → Nat → List ByteArray → Bool
  | 0, _, _ => false
  | f + 1, 0, t => exprS (gr f 1) t
  | f + 1, 1, t => sumS (gr f 1) (gr f 2) t
  | f + 1, 2, t => termS (gr f 2) (gr f 3) t
  | f + 1, 3, t => factorS (gr f 3) (gr f 0) (gr f 4) t
  | f + 1, _ + 4, t => cellS (gr f 0) t
theorem last_cases (sg t : List ByteArray) : last sg t = -1 ∨ ∃ k : Nat, last sg t = k ∧ 0 < k ∧ k < t.length := by
  obtain ⟨h1, h2, h3⟩ := lastTo_b sg t t.length
  rcases h3 with h | h
  · exact Or.inl h
  · exact Or.inr ⟨(last sg t).toNat, by unfold last; omega, by unfold last; omega, by unfold last; omega⟩
theorem exprS_at {sg t : List ByteArray} {S : List ByteArray → Bool} (hs : sg = cmpW) {k : Nat} (h : last sg t = k) : exprS S t = (S (t.take k) && S (t.drop (k + 1))) := by
  subst hs; unfold exprS; rw [h, if_neg (by omega)]; rfl
theorem exprS_no {t : List ByteArray} {S : List ByteArray → Bool} (h : last cmpW t = -1) : exprS S t = S t := by
  unfold exprS; rw [h, if_pos (by omega)]
theorem sumS_at {t : List ByteArray} {S T : List ByteArray → Bool} {k : Nat} (h : last addW t = k) : sumS S T t = (S (t.take k) && T (t.drop (k + 1))) := by
  unfold sumS; rw [h, if_neg (by omega)]; rfl
theorem sumS_no {t : List ByteArray} {S T : List ByteArray → Bool} (h : last addW t = -1) : sumS S T t = T t := by
  unfold sumS; rw [h, if_pos (by omega)]
theorem termS_at {t : List ByteArray} {S T : List ByteArray → Bool} {k : Nat} (h : last divW t = k) : termS S T t = (S (t.take k) && T (t.drop (k + 1))) := by
  unfold termS; rw [h, if_neg (by omega)]; rfl
theorem termS_no {t : List ByteArray} {S T : List ByteArray → Bool} (h : last divW t = -1) : termS S T t = T t := by
  unfold termS; rw [h, if_pos (by omega)]
theorem factorS_of {t : List ByteArray} {F E C F' E' C' : List ByteArray → Bool} (h1 : 2 ≤ t.length → F (t.drop 1) = F' (t.drop 1)) (h2 : 2 ≤ t.length → E ((t.take (t.length - 1)).drop 1) = E' ((t.take (t.length - 1)).drop 1)) (h3 : C t = C' t) : factorS F E C t = factorS F' E' C' t := by
  unfold factorS
  by_cases hz : t.length = 0
  · rw [if_pos hz, if_pos hz]
  · by_cases ho : t.length = 1
    · rw [if_neg hz, if_neg hz, if_pos ho, if_pos ho]
    · rw [h1 (by omega), h2 (by omega), h3]
theorem cellS_of {t : List ByteArray} {E E' : List ByteArray → Bool} (h : 4 ≤ t.length → E ((t.take (t.length - 1)).drop 2) = E' ((t.take (t.length - 1)).drop 2)) : cellS E t = cellS E' t := by
  unfold cellS
  by_cases hz : t.length < 4
  · rw [if_pos (Or.inl hz), if_pos (Or.inl hz)]
  · rw [h (by omega)]
/-- Enough fuel is as good as more. -/
theorem gr_any : ∀ (f g r : Nat) (t : List ByteArray), r ≤ 4 → 5 * t.length + 5 ≤ f + r → 5 * t.length + 5 ≤ g + r → gr f r t = gr g r t
  | 0, _, _, _, hr, hf, _ => by omega
  | _ + 1, 0, _, _, hr, _, hg => by omega
  | f + 1, g + 1, 0, t, hr, hf, hg => by
    show exprS (gr f 1) t = exprS (gr g 1) t
    rcases last_cases cmpW t with h | ⟨k, h, h0, hk⟩
    · rw [exprS_no h, exprS_no h]; exact gr_any f g 1 t (by omega) (by omega) (by omega)
    · rw [exprS_at rfl h, exprS_at rfl h, gr_any f g 1 (t.take k) (by omega) (by simp; omega) (by simp; omega), gr_any f g 1 (t.drop (k + 1)) (by omega) (by simp; omega) (by simp; omega)]
  | f + 1, g + 1, 1, t, hr, hf, hg => by
    show sumS (gr f 1) (gr f 2) t = sumS (gr g 1) (gr g 2) t
    rcases last_cases addW t with h | ⟨k, h, h0, hk⟩
    · rw [sumS_no h, sumS_no h]; exact gr_any f g 2 t (by omega) (by omega) (by omega)
    · rw [sumS_at h, sumS_at h, gr_any f g 1 (t.take k) (by omega) (by simp; omega) (by simp; omega), gr_any f g 2 (t.drop (k + 1)) (by omega) (by simp; omega) (by simp; omega)]
  | f + 1, g + 1, 2, t, hr, hf, hg => by
    show termS (gr f 2) (gr f 3) t = termS (gr g 2) (gr g 3) t
    rcases last_cases divW t with h | ⟨k, h, h0, hk⟩
    · rw [termS_no h, termS_no h]; exact gr_any f g 3 t (by omega) (by omega) (by omega)
    · rw [termS_at h, termS_at h, gr_any f g 2 (t.take k) (by omega) (by simp; omega) (by simp; omega), gr_any f g 3 (t.drop (k + 1)) (by omega) (by simp; omega) (by simp; omega)]
  | f + 1, g + 1, 3, t, hr, hf, hg => by
    show factorS (gr f 3) (gr f 0) (gr f 4) t = factorS (gr g 3) (gr g 0) (gr g 4) t
    exact factorS_of (fun _ => gr_any f g 3 _ (by omega) (by simp; omega) (by simp; omega)) (fun _ => gr_any f g 0 _ (by omega) (by simp; omega) (by simp; omega)) (gr_any f g 4 t (by omega) (by omega) (by omega))
  | f + 1, g + 1, _ + 4, t, hr, hf, hg => by
    show cellS (gr f 0) t = cellS (gr g 0) t
    exact cellS_of (fun _ => gr_any f g 0 _ (by omega) (by simp; omega) (by simp; omega))
def isExpr (t : List ByteArray) : Bool := gr (5 * t.length + 5) 0 t
def isSum (t : List ByteArray) : Bool := gr (5 * t.length + 4) 1 t
def isTerm (t : List ByteArray) : Bool := gr (5 * t.length + 3) 2 t
def isFactor (t : List ByteArray) : Bool := gr (5 * t.length + 2) 3 t
def isCell (t : List ByteArray) : Bool := gr (5 * t.length + 1) 4 t

def allNames (t : List ByteArray) : Bool := t.all nameB
def behindFrom : List ByteArray → Nat → Nat
  | [], _ => 0
  | x :: r, i => if (x.toList == [116, 111]) = true then i else behindFrom r (i + 1)
def behind (t : List ByteArray) : Nat := behindFrom t 0
theorem behind_step {t : List ByteArray} {k : Nat} (h : k < t.length) : behindFrom (t.drop k) k = if (t[k].toList == [116, 111]) = true then k else behindFrom (t.drop (k + 1)) (k + 1) := by
  rw [List.drop_eq_getElem_cons h, behindFrom]
theorem behindFrom_b : ∀ (t : List ByteArray) (i : Nat), behindFrom t i = 0 ∨ behindFrom t i < i + t.length
  | [], _ => Or.inl rfl
  | x :: r, i => by
    rw [behindFrom]
    split
    · right; simp
    · rcases behindFrom_b r (i + 1) with h | h
      · exact Or.inl h
      · right; simp; omega
theorem behind_b (t : List ByteArray) : behind t = 0 ∨ behind t < t.length := by
  have := behindFrom_b t 0; unfold behind; omega
def isSet (t : List ByteArray) : Bool :=
  if behind t < 2 then false else if behind t = 2 then nameB (at' t 1) && isExpr (t.drop 3) else isCell ((t.take (behind t)).drop 1) && isExpr (t.drop (behind t + 1))

/-- The parts among the first i tokens, and where the next begins. -/
def partsTo (t : List ByteArray) : Nat → List (List ByteArray) × Nat
  | 0 => ([], 0)
  | i + 1 => if ((at' t i).toList == [44]) = true ∧ depth t i = 0 then ((partsTo t i).1 ++ [(t.take i).drop (partsTo t i).2], i + 1) else partsTo t i
def parts (t : List ByteArray) : List (List ByteArray) := if t.length = 0 then [] else (partsTo t t.length).1 ++ [t.drop (partsTo t t.length).2]
theorem partsTo_b (t : List ByteArray) : ∀ i, (partsTo t i).2 ≤ i ∧ (partsTo t i).1.length ≤ i
  | 0 => by simp [partsTo]
  | i + 1 => by
    have := partsTo_b t i
    rw [partsTo]
    split
    · simp; omega
    · omega

def isCall (t : List ByteArray) : Bool := if t.length < 2 then false else (parts (t.drop 2)).all isExpr && nameB (at' t 1)

def isArray (t : List ByteArray) : Bool := if t.length = 3 then nameB (at' t 1) && numberB (at' t 2) && decide (1 ≤ worth (at' t 2)) && decide (worth (at' t 2) ≤ 32) else false
def isKind (t : List ByteArray) (h : List UInt8) : Bool :=
  if (h == [101, 110, 100]) = true then decide (t.length = 1) else if (h == [101, 108, 115, 101]) = true then decide (t.length = 1) else if (h == [114, 101, 116, 117, 114, 110]) = true then decide (t.length = 1) else if (h == [118, 97, 114]) = true then (decide (t.length = 2) && allNames (t.drop 1)) else if (h == [114, 101, 97, 100]) = true then (decide (t.length = 2) && allNames (t.drop 1)) else if (h == [112, 114, 111, 99]) = true then (decide (2 ≤ t.length ∧ t.length ≤ 6) && allNames (t.drop 1)) else if (h == [105, 102]) = true then isExpr (t.drop 1) else if (h == [119, 104, 105, 108, 101]) = true then isExpr (t.drop 1) else if (h == [112, 114, 105, 110, 116]) = true then isExpr (t.drop 1) else if (h == [115, 101, 116]) = true then isSet t else if (h == [99, 97, 108, 108]) = true then isCall t else if (h == [97, 114, 114, 97, 121]) = true then isArray t else false
def isLine (t : List ByteArray) : Bool := if t.length = 0 then true else isKind t (first t).toList

def varW : List UInt8 := [118, 97, 114]
def arrayW : List UInt8 := [97, 114, 114, 97, 121]
def procW : List UInt8 := [112, 114, 111, 99]
def ifW : List UInt8 := [105, 102]
def whileW : List UInt8 := [119, 104, 105, 108, 101]
/-- Does a line declare? -/
def topB (t : List ByteArray) : Bool := ((first t).toList == [118, 97, 114]) || ((first t).toList == [97, 114, 114, 97, 121]) || ((first t).toList == [112, 114, 111, 99])
/-- Does a line open a block? -/
def opensB (t : List ByteArray) : Bool := ((first t).toList == [112, 114, 111, 99]) || ((first t).toList == [105, 102]) || ((first t).toList == [119, 104, 105, 108, 101])
def declAt (t : List ByteArray) (x : ByteArray) : Bool := topB t && ((at' t 1).toList == x.toList)
def declFrom : Nat → List (List ByteArray) → ByteArray → Nat
  | _, [], _ => 0
  | n, t :: r, x => if declAt t x = true then n else declFrom (n + 1) r x
/-- The first line that declares a name, or 0. -/
def decl (ls : List (List ByteArray)) (x : ByteArray) : Nat := declFrom 1 ls x
/-- The line with a number. -/
def lineAt (ls : List (List ByteArray)) (l : Nat) : List ByteArray := ls.getD l []
/-- The last proc line at or ahead of line n, or 0. -/
def home (ls : List (List ByteArray)) : Nat → Nat
  | 0 => 0
  | n + 1 => if ((first (lineAt ls n)).toList == [112, 114, 111, 99]) = true then n + 1 else home ls n
theorem lineAt_lt {ls : List (List ByteArray)} {l : Nat} (h : l < ls.length) : lineAt ls l = ls[l] := by simp [lineAt, h]
theorem first_nil {t : List ByteArray} (h : t.length = 0) : first t = ⟨#[]⟩ := by
  have : t = [] := List.eq_nil_of_length_eq_zero h
  subst this; rfl
theorem first_lt {t : List ByteArray} (h : 0 < t.length) : first t = t[0] := at_lt h
theorem declFrom_b : ∀ (ls : List (List ByteArray)) (n : Nat) (x : ByteArray), declFrom n ls x = 0 ∨ (n ≤ declFrom n ls x ∧ declFrom n ls x < n + ls.length)
  | [], _, _ => Or.inl rfl
  | t :: r, n, x => by
    rw [declFrom]
    split
    · right; simp
    · rcases declFrom_b r (n + 1) x with h | h
      · exact Or.inl h
      · right; simp; omega
theorem decl_b (ls : List (List ByteArray)) (x : ByteArray) : decl ls x ≤ ls.length := by
  have := declFrom_b ls 1 x
  unfold decl; omega

/-- The texts of tokens. -/
def tx (ts : List Rt.Tk) : List ByteArray := ts.map (·.text)
end Rf
end Go.Proofs.YtopeochnoefgcaaDoor

