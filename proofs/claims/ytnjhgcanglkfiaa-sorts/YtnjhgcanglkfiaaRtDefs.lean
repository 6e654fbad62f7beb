/- The program's reader of lines as plain functions: no program, no walk. -/
import Derived.Test.YtnjhgcanglkfiaaPlainb
namespace Go.Proofs.Ytnjhgcanglkfiaa
open Go.RowKit
/-- An operation of an expression. -/
structure Pop where
  code : Int
  number : Int
  name : ByteArray

namespace Rt

/-- What a reader of a piece gives: the ops of its work, and the tokens that are left. -/
abbrev Got := Option (List Pop × List Tk)

def pLoop (pf : List Tk → Got) (lo hi : Int) : Nat → List Tk → Got
  | 0, _ => none
  | _ + 1, [] => some ([], [])
  | g + 1, t :: r =>
    if lo ≤ opCode t.text ∧ opCode t.text ≤ hi then
      match pf r with
      | none => none
      | some (e, r') =>
        match pLoop pf lo hi g r' with
        | none => none
        | some (e', r'') => some (e ++ ⟨opCode t.text, 0, ⟨#[]⟩⟩ :: e', r'')
    else some ([], t :: r)

/-- What has been read, ahead of what comes. -/
def joinE (em : List Pop) : Got → Got
  | none => none
  | some (e, r) => some (em ++ e, r)

def pChain (pf : List Tk → Got) (lo hi : Int) (rem : List Tk) : Got :=
  match pf rem with
  | none => none
  | some (e, r) => joinE e (pLoop pf lo hi 25 r)

def pTerm (pf : List Tk → Got) : List Tk → Got := pChain pf 7 9
def pSum (pf : List Tk → Got) : List Tk → Got := pChain (pTerm pf) 5 6
def pComp (pf : List Tk → Got) (rem : List Tk) : Got :=
  match pSum pf rem with
  | none => none
  | some (e, []) => some (e, [])
  | some (e, t :: r) =>
    if 10 ≤ opCode t.text ∧ opCode t.text ≤ 11 then
      match pSum pf r with
      | none => none
      | some (e', r') => some (e ++ e' ++ [⟨opCode t.text, 0, ⟨#[]⟩⟩], r')
    else some (e, t :: r)

/-- What stands ahead of a closing sign. -/
def closed (x : ByteArray) (last : List Pop) : Got → Got
  | none => none
  | some (_, []) => none
  | some (e, t :: r) => if t.text = x then some (e ++ last, r) else none

def pVar (pc : List Tk → Got) (name : ByteArray) : List Tk → Got
  | [] => some ([⟨2, 0, name⟩], [])
  | t :: r => if t.text = ⟨#[91]⟩ then closed ⟨#[93]⟩ [⟨3, 0, name⟩] (pc r) else some ([⟨2, 0, name⟩], t :: r)

def pFactor : Nat → List Tk → Got
  | 0, _ => none
  | _ + 1, [] => none
  | f + 1, t :: r =>
    if t.text = ⟨#[45]⟩ then
      match pFactor f r with
      | none => none
      | some (e, r') => some (e ++ [⟨4, 0, ⟨#[]⟩⟩], r')
    else if t.text = ⟨#[40]⟩ then closed ⟨#[41]⟩ [] (pComp (pFactor f) r)
    else if t.kind = 2 then some ([⟨1, val t.text, ⟨#[]⟩⟩], r)
    else if t.kind = 1 ∧ resv t.text = false then pVar (pComp (pFactor f)) t.text r
    else none

def pExpr (rem : List Tk) : Got := pComp (pFactor 24) rem


/-- A line that has been read. -/
structure PForm where
  kind : Int
  name : ByteArray
  cells : Int
  params : List ByteArray
  index : List Pop
  values : List (List Pop)

def pName : List Tk → Option (ByteArray × List Tk)
  | [] => none
  | t :: r => if t.kind = 1 ∧ resv t.text = false then some (t.text, r) else none
abbrev GotF := Option (PForm × List Tk)
def pNamed (kind : Int) (rem : List Tk) : GotF :=
  match pName rem with
  | none => none
  | some (nm, r) => some (⟨kind, nm, 0, [], [], []⟩, r)
def pValued (kind : Int) (rem : List Tk) : GotF :=
  match pExpr rem with
  | none => none
  | some (e, r) => some (⟨kind, ⟨#[]⟩, 0, [], [], [e]⟩, r)

def pNumber : List Tk → Option (Int × List Tk)
  | [] => none
  | t :: r => if t.kind = 2 then some (val t.text, r) else none
def pArray (rem : List Tk) : GotF :=
  match pName rem with
  | none => none
  | some (nm, r) =>
    match pNumber r with
    | none => none
    | some (v, r') => if v < 1 ∨ 32 < v then none else some (⟨2, nm, v, [], [], []⟩, r')
def pParams (acc : List ByteArray) : List Tk → Option (List ByteArray)
  | [] => some acc
  | t :: r => if (t.kind = 1 ∧ resv t.text = false) ∧ acc.length < 4 then pParams (acc ++ [t.text]) r else none
def pProc (rem : List Tk) : GotF :=
  match pName rem with
  | none => none
  | some (nm, r) =>
    match pParams [] r with
    | none => none
    | some ps => some (⟨3, nm, 0, ps, [], []⟩, [])

def pTake (x : ByteArray) : List Tk → Option (List Tk)
  | [] => none
  | t :: r => if t.text = x then some r else none
def pTo (kind : Int) (nm : ByteArray) (ix : List Pop) (rem : List Tk) : GotF :=
  match pTake ⟨#[116, 111]⟩ rem with
  | none => none
  | some r =>
    match pExpr r with
    | none => none
    | some (e, r') => some (⟨kind, nm, 0, [], ix, [e]⟩, r')
def pSet (rem : List Tk) : GotF :=
  match pName rem with
  | none => none
  | some (nm, r) =>
    match pTake ⟨#[91]⟩ r with
    | none => pTo 8 nm [] r
    | some r1 =>
      match pExpr r1 with
      | none => none
      | some (ix, r2) =>
        match pTake ⟨#[93]⟩ r2 with
        | none => none
        | some r3 => pTo 9 nm ix r3

theorem to_none {kind : Int} {nm : ByteArray} {ix : List Pop} {rem : List Tk} (h : pTake ⟨#[116, 111]⟩ rem = none) : pTo kind nm ix rem = none := by rw [pTo, h]
theorem to_no {kind : Int} {nm : ByteArray} {ix : List Pop} {rem r : List Tk} (h : pTake ⟨#[116, 111]⟩ rem = some r) (h2 : pExpr r = none) : pTo kind nm ix rem = none := by rw [pTo, h]; simp only; rw [h2]
theorem to_ok {kind : Int} {nm : ByteArray} {ix e : List Pop} {rem r r' : List Tk} (h : pTake ⟨#[116, 111]⟩ rem = some r) (h2 : pExpr r = some (e, r')) : pTo kind nm ix rem = some (⟨kind, nm, 0, [], ix, [e]⟩, r') := by rw [pTo, h]; simp only; rw [h2]
theorem set_a {rem r : List Tk} {nm : ByteArray} {x : GotF} (h : pName rem = some (nm, r)) (h2 : pTake ⟨#[91]⟩ r = none) (h3 : pTo 8 nm [] r = x) : pSet rem = x := by rw [pSet, h]; simp only; rw [h2]; exact h3
theorem set_b {rem r r1 r2 r3 : List Tk} {nm : ByteArray} {ix : List Pop} {x : GotF} (h : pName rem = some (nm, r)) (h2 : pTake ⟨#[91]⟩ r = some r1) (h3 : pExpr r1 = some (ix, r2)) (h4 : pTake ⟨#[93]⟩ r2 = some r3) (h5 : pTo 9 nm ix r3 = x) : pSet rem = x := by
  rw [pSet, h]; simp only; rw [h2]; simp only; rw [h3]; simp only; rw [h4]; exact h5
theorem set_c {rem r r1 r2 : List Tk} {nm : ByteArray} {ix : List Pop} (h : pName rem = some (nm, r)) (h2 : pTake ⟨#[91]⟩ r = some r1) (h3 : pExpr r1 = some (ix, r2)) (h4 : pTake ⟨#[93]⟩ r2 = none) : pSet rem = none := by
  rw [pSet, h]; simp only; rw [h2]; simp only; rw [h3]; simp only; rw [h4]
theorem set_d {rem r r1 : List Tk} {nm : ByteArray} (h : pName rem = some (nm, r)) (h2 : pTake ⟨#[91]⟩ r = some r1) (h3 : pExpr r1 = none) : pSet rem = none := by
  rw [pSet, h]; simp only; rw [h2]; simp only; rw [h3]

def pArgs : Nat → List (List Pop) → List Tk → Option (List (List Pop) × List Tk)
  | 0, _, _ => none
  | f + 1, acc, rem =>
    match pExpr rem with
    | none => none
    | some (e, r) =>
      match pTake ⟨#[44]⟩ r with
      | none => some (acc ++ [e], r)
      | some r' => pArgs f (acc ++ [e]) r'
def pArgsAll (r : List Tk) : Option (List (List Pop) × List Tk) := if r = [] then some ([], r) else pArgs 25 [] r
def pCall (rem : List Tk) : GotF :=
  match pName rem with
  | none => none
  | some (nm, r) =>
    match pArgsAll r with
    | none => none
    | some (vs, r') => some (⟨12, nm, 0, [], [], vs⟩, r')
theorem args_none {f : Nat} {acc : List (List Pop)} {rem : List Tk} (h : pExpr rem = none) : pArgs (f + 1) acc rem = none := by rw [pArgs, h]
theorem args_stop {f : Nat} {acc : List (List Pop)} {rem r : List Tk} {e : List Pop} (h : pExpr rem = some (e, r)) (h2 : pTake ⟨#[44]⟩ r = none) : pArgs (f + 1) acc rem = some (acc ++ [e], r) := by rw [pArgs, h]; simp only; rw [h2]
theorem args_next {f : Nat} {acc : List (List Pop)} {rem r r' : List Tk} {e : List Pop} (h : pExpr rem = some (e, r)) (h2 : pTake ⟨#[44]⟩ r = some r') : pArgs (f + 1) acc rem = pArgs f (acc ++ [e]) r' := by rw [pArgs, h]; simp only; rw [h2]
theorem call_none {rem r : List Tk} {nm : ByteArray} (h : pName rem = some (nm, r)) (h2 : pArgsAll r = none) : pCall rem = none := by rw [pCall, h]; simp only; rw [h2]
theorem call_some {rem r r' : List Tk} {nm : ByteArray} {vs : List (List Pop)} (h : pName rem = some (nm, r)) (h2 : pArgsAll r = some (vs, r')) : pCall rem = some (⟨12, nm, 0, [], [], vs⟩, r') := by rw [pCall, h]; simp only; rw [h2]

/-- What stands behind a line's first token. -/
def pLine (first : ByteArray) (rem : List Tk) : GotF :=
  if first.toList == [118, 97, 114] then pNamed 1 rem
  else if first.toList == [97, 114, 114, 97, 121] then pArray rem
  else if first.toList == [112, 114, 111, 99] then pProc rem
  else if first.toList == [101, 110, 100] then some (⟨4, ⟨#[]⟩, 0, [], [], []⟩, rem)
  else if first.toList == [105, 102] then pValued 5 rem
  else if first.toList == [101, 108, 115, 101] then some (⟨6, ⟨#[]⟩, 0, [], [], []⟩, rem)
  else if first.toList == [119, 104, 105, 108, 101] then pValued 7 rem
  else if first.toList == [115, 101, 116] then pSet rem
  else if first.toList == [112, 114, 105, 110, 116] then pValued 10 rem
  else if first.toList == [114, 101, 97, 100] then pNamed 11 rem
  else if first.toList == [99, 97, 108, 108] then pCall rem
  else if first.toList == [114, 101, 116, 117, 114, 110] then some (⟨13, ⟨#[]⟩, 0, [], [], []⟩, rem)
  else none

def pLineAll : List Tk → Option PForm
  | [] => some ⟨0, ⟨#[]⟩, 0, [], [], []⟩
  | t :: r =>
    match pLine t.text r with
    | none => none
    | some (fm, r') => if r' = [] then some fm else none
theorem toksCells_get : ∀ (ts : List Tk) (i : Nat) (h : i < ts.length), (toksCells ts)[i * 2]? = some (.int .i64 ts[i].kind) ∧ (toksCells ts)[i * 2 + 1]? = some (.string ts[i].text)
  | [], i, h => by simp at h
  | t :: r, 0, _ => by simp [toksCells, tkCells]
  | t :: r, i + 1, h => by
    have ih := toksCells_get r i (by simpa using h)
    have e : toksCells (t :: r) = [Value.int .i64 t.kind, Value.string t.text] ++ toksCells r := by simp [toksCells, tkCells]
    have e2 : (i + 1) * 2 = i * 2 + 2 := by omega
    rw [e, e2]
    simpa using ih

theorem toksFrom_facts (s : ByteArray) (hs : s.size ≤ 40000) : ∀ (f a : Nat) (acc ts : List Tk), acc.length ≤ 24 → (∀ t ∈ acc, t.text.size ≤ 40000) → toksFrom s f a acc = some ts → ts.length ≤ 24 ∧ ∀ t ∈ ts, t.text.size ≤ 40000
  | 0, _, _, _, _, _, h => by simp [toksFrom] at h
  | f + 1, a, acc, ts, h1, h2, h => by
    rw [toksFrom] at h
    split at h
    · split at h
      · exact toksFrom_facts s hs f _ _ _ h1 h2 h
      · split at h
        · cases h
        · next hc =>
          refine toksFrom_facts s hs f _ _ _ (by simp; omega) ?_ h
          intro t ht
          simp at ht
          rcases ht with ht | rfl
          · exact h2 t ht
          · simp [ByteArray.size_extract]; omega
    · simp at h
      subst h
      exact ⟨h1, h2⟩
theorem toks_facts {s : ByteArray} {ts : List Tk} (hs : s.size ≤ 40000) (h : toks s = some ts) : ts.length ≤ 24 ∧ ∀ t ∈ ts, t.text.size ≤ 40000 :=
  toksFrom_facts s hs _ _ _ _ (by simp) (by simp) h
theorem linesFrom_facts (s : ByteArray) (hs : s.size ≤ 40000) : ∀ (f a i : Nat) (acc : List ByteArray), (∀ t ∈ acc, t.size ≤ 40000) → (∀ t ∈ linesFrom s f a i acc, t.size ≤ 40000)
  | 0, _, _, acc, h => by simpa [linesFrom] using h
  | f + 1, a, i, acc, h => by
    rw [linesFrom]
    split
    · split
      · refine linesFrom_facts s hs f _ _ _ ?_
        intro t ht
        simp at ht
        rcases ht with ht | rfl
        · exact h t ht
        · simp [ByteArray.size_extract]; omega
      · exact linesFrom_facts s hs f _ _ _ h
    · intro t ht
      simp at ht
      rcases ht with ht | rfl
      · exact h t ht
      · simp [ByteArray.size_extract]; omega
theorem lines_facts {s : ByteArray} (hs : s.size ≤ 40000) : ∀ t ∈ lines s, t.size ≤ 40000 := linesFrom_facts s hs _ _ _ _ (by simp)
theorem linesFrom_len (s : ByteArray) : ∀ (f a i : Nat) (acc : List ByteArray), i ≤ s.size → s.size < f + i → (linesFrom s f a i acc).length + nls s i = acc.length + 1 + nls s s.size
  | 0, _, _, _, h, h2 => by omega
  | f + 1, a, i, acc, h, h2 => by
    rw [linesFrom]
    split
    · next hlt =>
      have hn : nls s (i + 1) = nls s i + (if byteAt s i = 10 then 1 else 0) := rfl
      split
      · next hb =>
        have := linesFrom_len s f (i + 1) (i + 1) (acc ++ [s.extract a i]) (by omega) (by omega)
        rw [if_pos hb] at hn
        simp at this
        omega
      · next hb =>
        have := linesFrom_len s f a (i + 1) acc (by omega) (by omega)
        rw [if_neg hb] at hn
        omega
    · have : i = s.size := by omega
      subst this
      simp
theorem lines_len (s : ByteArray) : (lines s).length = 1 + nls s s.size := by
  have := linesFrom_len s (s.size + 1) 0 0 [] (by omega) (by omega)
  simp [nls] at this
  rw [lines]
  omega
end Rt
end Go.Proofs.Ytnjhgcanglkfiaa

