/- The walks of the reader's small methods, continued: operator, name, number, emit. -/
import Derived.Test.YtbpajiljfppjcaaGreatDoorPlainb
import Derived.Deep.QuietTactic
import Derived.BigQuiet
import Derived.Deep.RegionHeld3
import Derived.Deep.AppendLies
import Derived.Deep.DrawnRows
namespace Go.Proofs.YtbpajiljfppjcaaGreatDoor
open Go.RowKit
/-- An operation of an expression. -/
structure Pop where
  code : Int
  number : Int
  name : ByteArray

namespace Rt

/-- What a reader of a piece gives: the ops of its work, and the tokens that are left. -/
abbrev Got := Option (List Pop × List Tk)

def pLoop (pf : List Tk → Got) (lo hi : Int) : Nat → List Tk → Got
  | 0, _ => none
  | _ + 1, [] => some ([], [])
  | g + 1, t :: r =>
    if lo ≤ opCode t.text ∧ opCode t.text ≤ hi then
      match pf r with
      | none => none
      | some (e, r') =>
        match pLoop pf lo hi g r' with
        | none => none
        | some (e', r'') => some (e ++ ⟨opCode t.text, 0, ⟨#[]⟩⟩ :: e', r'')
    else some ([], t :: r)

/-- What has been read, ahead of what comes. -/
def joinE (em : List Pop) : Got → Got
  | none => none
  | some (e, r) => some (em ++ e, r)

def pChain (pf : List Tk → Got) (lo hi : Int) (rem : List Tk) : Got :=
  match pf rem with
  | none => none
  | some (e, r) => joinE e (pLoop pf lo hi 25 r)

def pTerm (pf : List Tk → Got) : List Tk → Got := pChain pf 7 9
def pSum (pf : List Tk → Got) : List Tk → Got := pChain (pTerm pf) 5 6
def pComp (pf : List Tk → Got) (rem : List Tk) : Got :=
  match pSum pf rem with
  | none => none
  | some (e, []) => some (e, [])
  | some (e, t :: r) =>
    if 10 ≤ opCode t.text ∧ opCode t.text ≤ 11 then
      match pSum pf r with
      | none => none
      | some (e', r') => some (e ++ e' ++ [⟨opCode t.text, 0, ⟨#[]⟩⟩], r')
    else some (e, t :: r)

/-- What stands ahead of a closing sign. -/
def closed (x : ByteArray) (last : List Pop) : Got → Got
  | none => none
  | some (_, []) => none
  | some (e, t :: r) => if t.text = x then some (e ++ last, r) else none

def pVar (pc : List Tk → Got) (name : ByteArray) : List Tk → Got
  | [] => some ([⟨2, 0, name⟩], [])
  | t :: r => if t.text = ⟨#[91]⟩ then closed ⟨#[93]⟩ [⟨3, 0, name⟩] (pc r) else some ([⟨2, 0, name⟩], t :: r)

def pFactor : Nat → List Tk → Got
  | 0, _ => none
  | _ + 1, [] => none
  | f + 1, t :: r =>
    if t.text = ⟨#[45]⟩ then
      match pFactor f r with
      | none => none
      | some (e, r') => some (e ++ [⟨4, 0, ⟨#[]⟩⟩], r')
    else if t.text = ⟨#[40]⟩ then closed ⟨#[41]⟩ [] (pComp (pFactor f) r)
    else if t.kind = 2 then some ([⟨1, val t.text, ⟨#[]⟩⟩], r)
    else if t.kind = 1 ∧ resv t.text = false then pVar (pComp (pFactor f)) t.text r
    else none

def pExpr (rem : List Tk) : Got := pComp (pFactor 24) rem


/-- A line that has been read. -/
structure PForm where
  kind : Int
  name : ByteArray
  cells : Int
  params : List ByteArray
  index : List Pop
  values : List (List Pop)

def pName : List Tk → Option (ByteArray × List Tk)
  | [] => none
  | t :: r => if t.kind = 1 ∧ resv t.text = false then some (t.text, r) else none
abbrev GotF := Option (PForm × List Tk)
def pNamed (kind : Int) (rem : List Tk) : GotF :=
  match pName rem with
  | none => none
  | some (nm, r) => some (⟨kind, nm, 0, [], [], []⟩, r)
def pValued (kind : Int) (rem : List Tk) : GotF :=
  match pExpr rem with
  | none => none
  | some (e, r) => some (⟨kind, ⟨#[]⟩, 0, [], [], [e]⟩, r)

def pNumber : List Tk → Option (Int × List Tk)
  | [] => none
  | t :: r => if t.kind = 2 then some (val t.text, r) else none
def pArray (rem : List Tk) : GotF :=
  match pName rem with
  | none => none
  | some (nm, r) =>
    match pNumber r with
    | none => none
    | some (v, r') => if v < 1 ∨ 32 < v then none else some (⟨2, nm, v, [], [], []⟩, r')
def pParams (acc : List ByteArray) : List Tk → Option (List ByteArray)
  | [] => some acc
  | t :: r => if (t.kind = 1 ∧ resv t.text = false) ∧ acc.length < 4 then pParams (acc ++ [t.text]) r else none
def pProc (rem : List Tk) : GotF :=
  match pName rem with
  | none => none
  | some (nm, r) =>
    match pParams [] r with
    | none => none
    | some ps => some (⟨3, nm, 0, ps, [], []⟩, [])

def pTake (x : ByteArray) : List Tk → Option (List Tk)
  | [] => none
  | t :: r => if t.text = x then some r else none
def pTo (kind : Int) (nm : ByteArray) (ix : List Pop) (rem : List Tk) : GotF :=
  match pTake ⟨#[116, 111]⟩ rem with
  | none => none
  | some r =>
    match pExpr r with
    | none => none
    | some (e, r') => some (⟨kind, nm, 0, [], ix, [e]⟩, r')
def pSet (rem : List Tk) : GotF :=
  match pName rem with
  | none => none
  | some (nm, r) =>
    match pTake ⟨#[91]⟩ r with
    | none => pTo 8 nm [] r
    | some r1 =>
      match pExpr r1 with
      | none => none
      | some (ix, r2) =>
        match pTake ⟨#[93]⟩ r2 with
        | none => none
        | some r3 => pTo 9 nm ix r3

theorem to_none {kind : Int} {nm : ByteArray} {ix : List Pop} {rem : List Tk} (h : pTake ⟨#[116, 111]⟩ rem = none) : pTo kind nm ix rem = none := by rw [pTo, h]
theorem to_no {kind : Int} {nm : ByteArray} {ix : List Pop} {rem r : List Tk} (h : pTake ⟨#[116, 111]⟩ rem = some r) (h2 : pExpr r = none) : pTo kind nm ix rem = none := by rw [pTo, h]; simp only; rw [h2]
theorem to_ok {kind : Int} {nm : ByteArray} {ix e : List Pop} {rem r r' : List Tk} (h : pTake ⟨#[116, 111]⟩ rem = some r) (h2 : pExpr r = some (e, r')) : pTo kind nm ix rem = some (⟨kind, nm, 0, [], ix, [e]⟩, r') := by rw [pTo, h]; simp only; rw [h2]
theorem set_a {rem r : List Tk} {nm : ByteArray} {x : GotF} (h : pName rem = some (nm, r)) (h2 : pTake ⟨#[91]⟩ r = none) (h3 : pTo 8 nm [] r = x) : pSet rem = x := by rw [pSet, h]; simp only; rw [h2]; exact h3
theorem set_b {rem r r1 r2 r3 : List Tk} {nm : ByteArray} {ix : List Pop} {x : GotF} (h : pName rem = some (nm, r)) (h2 : pTake ⟨#[91]⟩ r = some r1) (h3 : pExpr r1 = some (ix, r2)) (h4 : pTake ⟨#[93]⟩ r2 = some r3) (h5 : pTo 9 nm ix r3 = x) : pSet rem = x := by
  rw [pSet, h]; simp only; rw [h2]; simp only; rw [h3]; simp only; rw [h4]; exact h5
theorem set_c {rem r r1 r2 : List Tk} {nm : ByteArray} {ix : List Pop} (h : pName rem = some (nm, r)) (h2 : pTake ⟨#[91]⟩ r = some r1) (h3 : pExpr r1 = some (ix, r2)) (h4 : pTake ⟨#[93]⟩ r2 = none) : pSet rem = none := by
  rw [pSet, h]; simp only; rw [h2]; simp only; rw [h3]; simp only; rw [h4]
theorem set_d {rem r r1 : List Tk} {nm : ByteArray} (h : pName rem = some (nm, r)) (h2 : pTake ⟨#[91]⟩ r = some r1) (h3 : pExpr r1 = none) : pSet rem = none := by
  rw [pSet, h]; simp only; rw [h2]; simp only; rw [h3]

def pArgs : Nat → List (List Pop) → List Tk → Option (List (List Pop) × List Tk)
  | 0, _, _ => none
  | f + 1, acc, rem =>
    match pExpr rem with
    | none => none
    | some (e, r) =>
      match pTake ⟨#[44]⟩ r with
      | none => some (acc ++ [e], r)
      | some r' => pArgs f (acc ++ [e]) r'
def pArgsAll (r : List Tk) : Option (List (List Pop) × List Tk) := if r = [] then some ([], r) else pArgs 25 [] r
def pCall (rem : List Tk) : GotF :=
  match pName rem with
  | none => none
  | some (nm, r) =>
    match pArgsAll r with
    | none => none
    | some (vs, r') => some (⟨12, nm, 0, [], [], vs⟩, r')
theorem args_none {f : Nat} {acc : List (List Pop)} {rem : List Tk} (h : pExpr rem = none) : pArgs (f + 1) acc rem = none := by rw [pArgs, h]
theorem args_stop {f : Nat} {acc : List (List Pop)} {rem r : List Tk} {e : List Pop} (h : pExpr rem = some (e, r)) (h2 : pTake ⟨#[44]⟩ r = none) : pArgs (f + 1) acc rem = some (acc ++ [e], r) := by rw [pArgs, h]; simp only; rw [h2]
theorem args_next {f : Nat} {acc : List (List Pop)} {rem r r' : List Tk} {e : List Pop} (h : pExpr rem = some (e, r)) (h2 : pTake ⟨#[44]⟩ r = some r') : pArgs (f + 1) acc rem = pArgs f (acc ++ [e]) r' := by rw [pArgs, h]; simp only; rw [h2]
theorem call_none {rem r : List Tk} {nm : ByteArray} (h : pName rem = some (nm, r)) (h2 : pArgsAll r = none) : pCall rem = none := by rw [pCall, h]; simp only; rw [h2]
theorem call_some {rem r r' : List Tk} {nm : ByteArray} {vs : List (List Pop)} (h : pName rem = some (nm, r)) (h2 : pArgsAll r = some (vs, r')) : pCall rem = some (⟨12, nm, 0, [], [], vs⟩, r') := by rw [pCall, h]; simp only; rw [h2]

/-- What stands behind a line's first token. -/
def pLine (first : ByteArray) (rem : List Tk) : GotF :=
  if first.toList == [118, 97, 114] then pNamed 1 rem
  else if first.toList == [97, 114, 114, 97, 121] then pArray rem
  else if first.toList == [112, 114, 111, 99] then pProc rem
  else if first.toList == [101, 110, 100] then some (⟨4, ⟨#[]⟩, 0, [], [], []⟩, rem)
  else if first.toList == [105, 102] then pValued 5 rem
  else if first.toList == [101, 108, 115, 101] then some (⟨6, ⟨#[]⟩, 0, [], [], []⟩, rem)
  else if first.toList == [119, 104, 105, 108, 101] then pValued 7 rem
  else if first.toList == [115, 101, 116] then pSet rem
  else if first.toList == [112, 114, 105, 110, 116] then pValued 10 rem
  else if first.toList == [114, 101, 97, 100] then pNamed 11 rem
  else if first.toList == [99, 97, 108, 108] then pCall rem
  else if first.toList == [114, 101, 116, 117, 114, 110] then some (⟨13, ⟨#[]⟩, 0, [], [], []⟩, rem)
  else none

def pLineAll : List Tk → Option PForm
  | [] => some ⟨0, ⟨#[]⟩, 0, [], [], []⟩
  | t :: r =>
    match pLine t.text r with
    | none => none
    | some (fm, r') => if r' = [] then some fm else none
theorem toksCells_get : ∀ (ts : List Tk) (i : Nat) (h : i < ts.length), (toksCells ts)[i * 2]? = some (.int .i64 ts[i].kind) ∧ (toksCells ts)[i * 2 + 1]? = some (.string ts[i].text)
  | [], i, h => by simp at h
  | t :: r, 0, _ => by simp [toksCells, tkCells]
  | t :: r, i + 1, h => by
    have ih := toksCells_get r i (by simpa using h)
    have e : toksCells (t :: r) = [Value.int .i64 t.kind, Value.string t.text] ++ toksCells r := by simp [toksCells, tkCells]
    have e2 : (i + 1) * 2 = i * 2 + 2 := by omega
    rw [e, e2]
    simpa using ih

theorem toksFrom_facts (s : ByteArray) (hs : s.size ≤ 40000) : ∀ (f a : Nat) (acc ts : List Tk), acc.length ≤ 24 → (∀ t ∈ acc, t.text.size ≤ 40000) → toksFrom s f a acc = some ts → ts.length ≤ 24 ∧ ∀ t ∈ ts, t.text.size ≤ 40000
  | 0, _, _, _, _, _, h => by simp [toksFrom] at h
  | f + 1, a, acc, ts, h1, h2, h => by
    rw [toksFrom] at h
    split at h
    · split at h
      · exact toksFrom_facts s hs f _ _ _ h1 h2 h
      · split at h
        · cases h
        · next hc =>
          refine toksFrom_facts s hs f _ _ _ (by simp; omega) ?_ h
          intro t ht
          simp at ht
          rcases ht with ht | rfl
          · exact h2 t ht
          · simp [ByteArray.size_extract]; omega
    · simp at h
      subst h
      exact ⟨h1, h2⟩
theorem toks_facts {s : ByteArray} {ts : List Tk} (hs : s.size ≤ 40000) (h : toks s = some ts) : ts.length ≤ 24 ∧ ∀ t ∈ ts, t.text.size ≤ 40000 :=
  toksFrom_facts s hs _ _ _ _ (by simp) (by simp) h
theorem linesFrom_facts (s : ByteArray) (hs : s.size ≤ 40000) : ∀ (f a i : Nat) (acc : List ByteArray), (∀ t ∈ acc, t.size ≤ 40000) → (∀ t ∈ linesFrom s f a i acc, t.size ≤ 40000)
  | 0, _, _, acc, h => by simpa [linesFrom] using h
  | f + 1, a, i, acc, h => by
    rw [linesFrom]
    split
    · split
      · refine linesFrom_facts s hs f _ _ _ ?_
        intro t ht
        simp at ht
        rcases ht with ht | rfl
        · exact h t ht
        · simp [ByteArray.size_extract]; omega
      · exact linesFrom_facts s hs f _ _ _ h
    · intro t ht
      simp at ht
      rcases ht with ht | rfl
      · exact h t ht
      · simp [ByteArray.size_extract]; omega
theorem lines_facts {s : ByteArray} (hs : s.size ≤ 40000) : ∀ t ∈ lines s, t.size ≤ 40000 := linesFrom_facts s hs _ _ _ _ (by simp)
theorem linesFrom_len (s : ByteArray) : ∀ (f a i : Nat) (acc : List ByteArray), i ≤ s.size → s.size < f + i → (linesFrom s f a i acc).length + nls s i = acc.length + 1 + nls s s.size
  | 0, _, _, _, h, h2 => by omega
  | f + 1, a, i, acc, h, h2 => by
    rw [linesFrom]
    split
    · next hlt =>
      have hn : nls s (i + 1) = nls s i + (if byteAt s i = 10 then 1 else 0) := rfl
      split
      · next hb =>
        have := linesFrom_len s f (i + 1) (i + 1) (acc ++ [s.extract a i]) (by omega) (by omega)
        rw [if_pos hb] at hn
        simp at this
        omega
      · next hb =>
        have := linesFrom_len s f a (i + 1) acc (by omega) (by omega)
        rw [if_neg hb] at hn
        omega
    · have : i = s.size := by omega
      subst this
      simp
theorem lines_len (s : ByteArray) : (lines s).length = 1 + nls s s.size := by
  have := linesFrom_len s (s.size + 1) 0 0 [] (by omega) (by omega)
  simp [nls] at this
  rw [lines]
  omega
end Rt
end Go.Proofs.YtbpajiljfppjcaaGreatDoor

namespace Go.Proofs.YtbpajiljfppjcaaGreatDoor
open Go.RowKit

/-- The program's tokens lie in a row below block R. -/
def TokR (w : World) (R : Nat) (tv : Value) (ts : List Rt.Tk) : Prop :=
  ∃ b cap, tv = .slice (some ⟨b, 0, none⟩) ts.length cap ∧ b < R ∧
    ∀ i (h : i < ts.length), w.cell? ⟨b, i * 2, none⟩ = some (.int .i64 ts[i].kind) ∧ w.cell? ⟨b, i * 2 + 1, none⟩ = some (.string ts[i].text)

/-- The frame of what a reader's method does: nothing but the reader's block and the row of its ops is written. -/
structure RFr (R : Nat) (ov ov' : Value) (w w' : World) : Prop where
  os : w'.os = w.os
  tape : w'.tape = w.tape
  output : w'.output = w.output
  size : w.heap.size ≤ w'.heap.size
  block : ∀ k, k < w.heap.size → k ≠ R → some k ≠ ov.ownBlock → w'.heap[k]? = w.heap[k]?
  own : ∀ g, ov'.ownBlock = some g → ov.ownBlock = some g ∨ w.heap.size ≤ g

theorem RFr.refl (R : Nat) (ov : Value) (w : World) : RFr R ov ov w w := ⟨rfl, rfl, rfl, Nat.le_refl _, fun _ _ _ _ => rfl, fun _ h => Or.inl h⟩
theorem RFr.trans {R : Nat} {a b c : Value} {w w1 w2 : World} (h : RFr R a b w w1) (k : RFr R b c w1 w2) : RFr R a c w w2 :=
  ⟨k.os.trans h.os, k.tape.trans h.tape, k.output.trans h.output, Nat.le_trans h.size k.size,
    fun i hi hR ha => (k.block i (Nat.lt_of_lt_of_le hi h.size) hR (fun e => by rcases h.own i e.symm with x | x; exact ha x.symm; omega)).trans (h.block i hi hR ha),
    fun g hg => by
      rcases k.own g hg with x | x
      · rcases h.own g x with y | y
        · exact Or.inl y
        · exact Or.inr y
      · exact Or.inr (Nat.le_trans h.size x)⟩
theorem RFr.drewN (R : Nat) (ov : Value) (w : World) (n : Nat) : RFr R ov ov w (w.drewN n) := ⟨rfl, rfl, rfl, Nat.le_refl _, fun _ _ _ _ => rfl, fun _ h => Or.inl h⟩

theorem RFr.below {R : Nat} {a b : Value} {w w' : World} (h : RFr R a b w w') (ha : ∀ g, a.ownBlock = some g → R < g) (hR : R < w.heap.size) : Below R w w' :=
  ⟨h.os, h.tape, h.output, h.size, fun k hk => h.block k (by omega) (by omega) (fun e => by have := ha k e.symm; omega)⟩

def popCells (o : Pop) : List Value := [.int .i64 o.code, .int .i64 o.number, .string o.name]
def popsCells (os : List Pop) : List Value := os.flatMap popCells
theorem popsCells_snoc (os : List Pop) (o : Pop) : popsCells (os ++ [o]) = popsCells os ++ [.int .i64 o.code, .int .i64 o.number, .string o.name] := by simp [popsCells, popCells]

/-- The reader at block R: its tokens, how many of them it has gone behind, the ops of the present expression. -/
structure RdS (w : World) (R : Nat) (tv : Value) (ts : List Rt.Tk) (n : Nat) (ov : Value) (ops : List Pop) : Prop where
  le : n ≤ ts.length
  few : ts.length ≤ 24
  fewOps : ops.length ≤ n
  block : w.heap[R]? = some (.cells #[tv, .int .i64 n, ov] 169 (0, 0))
  toks : TokR w R tv ts
  own : w.ownsRow (R + 1) 200 3 ov ops.length (popsCells ops)


set_option maxHeartbeats 400000 in
theorem more_any (w : World) (R : Nat) (tv : Value) (ts : List Rt.Tk) (n : Nat) (ov : Value) (ops : List Pop) (hr : RdS w R tv ts n ov ops) :
    Calls Tryz.prog 117 #[.pointer (some ⟨R, 0, none⟩)] w fun e w' => e = .returned (.bool (decide (n < ts.length))) ∧ ∃ q, w' = w.drewN q := by
  obtain ⟨b, cap, rfl, hb, hc⟩ := hr.toks
  have c0 := cell_of_block hr.block 0 (by simp)
  have c1 := cell_of_block hr.block 1 (by simp)
  simp at c0 c1
  clear hc
  go_enter Tryz.func117, Tryz.ntmps117
  go_wp2_with fail
  go_quiet (fail)
  go_wp2
  go_ret
  exact ⟨by simp, _, rfl⟩

/-- The reader goes one token on. -/
theorem RdS.bump {w : World} {R : Nat} {tv : Value} {ts : List Rt.Tk} {n : Nat} {ov : Value} {ops : List Pop} (hr : RdS w R tv ts n ov ops) (h : n < ts.length) (q : Nat) :
    RdS ((w.drewN q).setCell ⟨R, 1, none⟩ (.int .i64 ((n : Int) + 1))) R tv ts (n + 1) ov ops ∧ RFr R ov ov w ((w.drewN q).setCell ⟨R, 1, none⟩ (.int .i64 ((n : Int) + 1))) := by
  have hlt : R < w.heap.size := World.block_lt_of_cell? w _ (cell_of_block hr.block 0 (by simp))
  have hother : ∀ k, k ≠ R → ((w.drewN q).setCell ⟨R, 1, none⟩ (.int .i64 ((n : Int) + 1))).heap[k]? = w.heap[k]? := fun k hk => Below.heap_setCell (w.drewN q) ⟨R, 1, none⟩ _ k hk
  have hown := hr.own
  refine ⟨⟨by omega, hr.few, by have := hr.fewOps; omega, ?_, ?_, ?_⟩, ⟨rfl, rfl, rfl, by simp [World.setCell], fun k _ hk _ => hother k hk, fun _ h => Or.inl h⟩⟩
  · have := hr.block
    show ((w.drewN q).heap.modify R _)[R]? = _
    rw [Array.getElem?_modify]
    simp [World.drewN, this]
  · obtain ⟨b, cap, rfl, hb, hc⟩ := hr.toks
    exact ⟨b, cap, rfl, hb, fun i h => ⟨by rw [World.cell?_of_block (w := w) (hother b (by omega))]; exact (hc i h).1, by rw [World.cell?_of_block (w := w) (hother b (by omega))]; exact (hc i h).2⟩⟩
  · obtain ⟨h1, h2⟩ := hr.own
    refine ⟨h1, ?_⟩
    rcases h2 with h2 | ⟨g, cap, cur, hv, hg, hh, r⟩
    · exact Or.inl h2
    · exact Or.inr ⟨g, cap, cur, hv, hg, by rw [hother g (by omega)]; exact hh, r⟩

set_option maxHeartbeats 400000 in
theorem take_end (w : World) (R : Nat) (tv : Value) (ts : List Rt.Tk) (n : Nat) (ov : Value) (ops : List Pop) (x : ByteArray) (hr : RdS w R tv ts n ov ops) (hn : ¬ n < ts.length) :
    Calls Tryz.prog 156 #[.pointer (some ⟨R, 0, none⟩), .string x] w fun e w' => e = .returned (.bool false) ∧ ∃ q, w' = w.drewN q := by
  obtain ⟨b, cap, rfl, hb, hc⟩ := hr.toks
  have c0 := cell_of_block hr.block 0 (by simp)
  have c1 := cell_of_block hr.block 1 (by simp)
  simp at c0 c1
  clear hc
  have hd : decide ((ts.length : Int) ≤ (n : Int)) = true := by simp; omega
  go_enter Tryz.func156, Tryz.ntmps156
  go_wp2_with fail
  go_quiet (fail)
  go_wp2
  go_ret
  exact ⟨by simp, _, rfl⟩

set_option maxHeartbeats 400000 in
theorem take_no (w : World) (R : Nat) (tv : Value) (ts : List Rt.Tk) (n : Nat) (ov : Value) (ops : List Pop) (x : ByteArray) (hr : RdS w R tv ts n ov ops) (hn : n < ts.length) (hx : ¬ ts[n].text = x) :
    Calls Tryz.prog 156 #[.pointer (some ⟨R, 0, none⟩), .string x] w fun e w' => e = .returned (.bool false) ∧ ∃ q, w' = w.drewN q := by
  obtain ⟨b, cap, rfl, hb, hc⟩ := hr.toks
  have c0 := cell_of_block hr.block 0 (by simp)
  have c1 := cell_of_block hr.block 1 (by simp)
  simp at c0 c1
  have ct := (hc n hn).2
  have hx' := Rt.str_ne hx
  clear hx
  generalize ts[n].text = tx at *
  clear hc
  have hd : decide ((ts.length : Int) ≤ (n : Int)) = false := by simp; omega
  have hn' : (n : Int) < (ts.length : Int) := by omega
  go_enter Tryz.func156, Tryz.ntmps156
  go_wp2_with fail
  go_quiet (fail)
  go_wp2
  go_ret
  exact ⟨by simp, _, rfl⟩

set_option maxHeartbeats 400000 in
theorem take_yes (w : World) (R : Nat) (tv : Value) (ts : List Rt.Tk) (n : Nat) (ov : Value) (ops : List Pop) (x : ByteArray) (hr : RdS w R tv ts n ov ops) (hn : n < ts.length) (hx : ts[n].text = x) :
    Calls Tryz.prog 156 #[.pointer (some ⟨R, 0, none⟩), .string x] w fun e w' => e = .returned (.bool true) ∧ RdS w' R tv ts (n + 1) ov ops ∧ RFr R ov ov w w' := by
  have hbump := hr.bump hn
  obtain ⟨b, cap, rfl, hb, hc⟩ := hr.toks
  have c0 := cell_of_block hr.block 0 (by simp)
  have c1 := cell_of_block hr.block 1 (by simp)
  have f1 := free_of_block hr.block 1
  simp at c0 c1
  have ct := (hc n hn).2
  rw [hx] at ct
  clear hc hx
  have hfew := hr.few
  have HB : Hid (∀ q : Nat, RdS ((w.drewN q).setCell ⟨R, 1, none⟩ (.int .i64 ((n : Int) + 1))) R (Value.slice (some { block := b, off := 0 }) ts.length cap) ts (n + 1) ov ops ∧ RFr R ov ov w ((w.drewN q).setCell ⟨R, 1, none⟩ (.int .i64 ((n : Int) + 1)))) := hbump
  clear hbump
  have hd : decide ((ts.length : Int) ≤ (n : Int)) = false := by simp; omega
  have hn' : (n : Int) < (ts.length : Int) := by omega
  go_enter Tryz.func156, Tryz.ntmps156
  go_wp2_with fail
  go_quiet (fail)
  go_wp2
  go_ret
  exact ⟨by simp, HB.out _⟩

end Go.Proofs.YtbpajiljfppjcaaGreatDoor

namespace Go.Proofs.YtbpajiljfppjcaaGreatDoor
open Go.RowKit
attribute [local go_sem ↓] Go.wp_at_zero Go.wp_at_succ

theorem RdS.later {w w' : World} {R : Nat} {tv : Value} {ts : List Rt.Tk} {n : Nat} {ov : Value} {ops : List Pop} (hr : RdS w R tv ts n ov ops) (hb : Below w.heap.size w w') :
    RdS w' R tv ts n ov ops ∧ RFr R ov ov w w' := by
  have hlt : R < w.heap.size := World.block_lt_of_cell? w _ (cell_of_block hr.block 0 (by simp))
  refine ⟨⟨hr.le, hr.few, hr.fewOps, by rw [hb.block R hlt]; exact hr.block, ?_, ?_⟩, ⟨hb.os, hb.tape, hb.output, hb.size, fun k h _ _ => hb.block k h, fun _ h => Or.inl h⟩⟩
  · obtain ⟨b, cap, rfl, hbR, hc⟩ := hr.toks
    exact ⟨b, cap, rfl, hbR, fun i h => ⟨cell_later hb (hc i h).1, cell_later hb (hc i h).2⟩⟩
  · obtain ⟨h1, h2⟩ := hr.own
    refine ⟨h1, ?_⟩
    rcases h2 with h2 | ⟨g, cap, cur, hv, hg, hh, r⟩
    · exact Or.inl h2
    · have hgl : g < w.heap.size := by
        by_cases h : g < w.heap.size
        · exact h
        · rw [Array.getElem?_eq_none (by omega)] at hh; cases hh
      exact Or.inr ⟨g, cap, cur, hv, hg, by rw [hb.block g hgl]; exact hh, r⟩

theorem below_drewN (w : World) (q : Nat) : Below w.heap.size w (w.drewN q) := ⟨rfl, rfl, rfl, Nat.le_refl _, fun _ _ => rfl⟩

theorem fresh3 {w : World} {a b c : Addr} {x y z : Option Value} (q : Nat) (h1 : w.cell? a = x) (h2 : w.cell? b = y) (h3 : w.cell? c = z) : ∃ w1, w1 = w.drewN q ∧ w1.cell? a = x ∧ w1.cell? b = y ∧ w1.cell? c = z := ⟨_, rfl, h1, h2, h3⟩
theorem drew_two {w w1 : World} {q m : Nat} (h : w1 = w.drewN q) : w1.drewN m = w.drewN (q + m) := by
  subst h
  simp [World.drewN, Nat.add_assoc]

set_option maxHeartbeats 400000 in
theorem reserved_any (s : ByteArray) (w : World) :
    Calls Tryz.prog 161 #[.string s] w fun e w' => e = .returned (.bool (Rt.resv s)) ∧ w' = w := by
  go_enter Tryz.func161, Tryz.ntmps161
  go_wp2
  all_goals (go_ret; exact ⟨by simp_all [Rt.resv, Rt.resvWords], rfl⟩)

set_option maxHeartbeats 400000 in
theorem operatorCode_any (s : ByteArray) (w : World) :
    Calls Tryz.prog 169 #[.string s] w fun e w' => e = .returned (.int .i64 (Rt.opCode s)) ∧ w' = w := by
  go_enter Tryz.func169, Tryz.ntmps169
  go_wp2
  all_goals (go_ret; exact ⟨by simp_all [Rt.opCode], rfl⟩)

set_option maxHeartbeats 400000 in
theorem operator_end (w : World) (R : Nat) (tv : Value) (ts : List Rt.Tk) (n : Nat) (ov : Value) (ops : List Pop) (lo hi : Int) (hr : RdS w R tv ts n ov ops) (hn : ¬ n < ts.length) :
    Calls Tryz.prog 166 #[.pointer (some ⟨R, 0, none⟩), .int .i64 lo, .int .i64 hi] w fun e w' => e = .returned (.int .i64 0) ∧ ∃ q, w' = w.drewN q := by
  obtain ⟨b, cap, rfl, hb, hc⟩ := hr.toks
  have c0 := cell_of_block hr.block 0 (by simp)
  have c1 := cell_of_block hr.block 1 (by simp)
  simp at c0 c1
  clear hc
  have hd : ¬ ((n : Int) < (ts.length : Int)) := by omega
  go_enter Tryz.func166, Tryz.ntmps166
  go_wp2_with fail
  go_quiet (fail)
  go_wp2_with fail
  go_ret
  exact ⟨by simp, _, rfl⟩

set_option maxHeartbeats 400000 in
theorem operator_no (w : World) (R : Nat) (tv : Value) (ts : List Rt.Tk) (n : Nat) (ov : Value) (ops : List Pop) (lo hi : Int) (hr : RdS w R tv ts n ov ops) (hn : n < ts.length)
    (hx : Rt.opCode ts[n].text < lo ∨ hi < Rt.opCode ts[n].text) :
    Calls Tryz.prog 166 #[.pointer (some ⟨R, 0, none⟩), .int .i64 lo, .int .i64 hi] w fun e w' => e = .returned (.int .i64 0) ∧ ∃ q, w' = w.drewN q := by
  obtain ⟨b, cap, rfl, hb, hc⟩ := hr.toks
  have c0 := cell_of_block hr.block 0 (by simp)
  have c1 := cell_of_block hr.block 1 (by simp)
  simp at c0 c1
  have ct := (hc n hn).2
  clear hc
  have hn' : (n : Int) < (ts.length : Int) := by omega
  generalize ts[n].text = tx at *
  by_cases h1 : Rt.opCode tx < lo
  · go_enter Tryz.func166, Tryz.ntmps166
    go_wp2_with fail
    go_quiet (fail)
    go_wp2_with fail
    obtain ⟨w1, hw1, c0', c1', ct'⟩ := fresh3 nq c0 c1 ct
    rw [← hw1]
    have HW : Hid (w1 = w.drewN nq) := hw1
    clear hw1
    go_quiet ((go_at_call 169; exact Calls.quiet_of_same (operatorCode_any _ _)))
    go_wp2
    go_ret
    exact ⟨by simp, _, drew_two HW.out⟩
  · have h2 : hi < Rt.opCode tx := by omega
    have h1' : ¬ Rt.opCode tx < lo := h1
    clear hx
    go_enter Tryz.func166, Tryz.ntmps166
    go_wp2_with fail
    go_quiet (fail)
    go_wp2_with fail
    obtain ⟨w1, hw1, c0', c1', ct'⟩ := fresh3 nq c0 c1 ct
    rw [← hw1]
    have HW : Hid (w1 = w.drewN nq) := hw1
    clear hw1
    go_quiet ((go_at_call 169; exact Calls.quiet_of_same (operatorCode_any _ _)))
    go_wp2
    go_ret
    exact ⟨by simp, _, drew_two HW.out⟩

end Go.Proofs.YtbpajiljfppjcaaGreatDoor

namespace Go.Proofs.YtbpajiljfppjcaaGreatDoor
open Go.RowKit
attribute [local go_sem ↓] Go.wp_at_zero Go.wp_at_succ

theorem RdS.same {w w' : World} {R : Nat} {tv : Value} {ts : List Rt.Tk} {n : Nat} {ov : Value} {ops : List Pop} (hr : RdS w R tv ts n ov ops) (hh : w'.heap = w.heap) : RdS w' R tv ts n ov ops := by
  refine ⟨hr.le, hr.few, hr.fewOps, by rw [hh]; exact hr.block, ?_, ?_⟩
  · obtain ⟨b, cap, rfl, hbR, hc⟩ := hr.toks
    exact ⟨b, cap, rfl, hbR, fun i h => ⟨by rw [World.cell?_of_block (w := w) (by rw [hh])]; exact (hc i h).1, by rw [World.cell?_of_block (w := w) (by rw [hh])]; exact (hc i h).2⟩⟩
  · obtain ⟨h1, h2⟩ := hr.own
    refine ⟨h1, ?_⟩
    rcases h2 with h2 | ⟨g, cap, cur, hv, hg, hh2, r⟩
    · exact Or.inl h2
    · exact Or.inr ⟨g, cap, cur, hv, hg, by rw [hh]; exact hh2, r⟩
theorem RFr.same {R : Nat} {a b : Value} {w w1 w2 : World} (h : RFr R a b w w1) (hh : w2.heap = w1.heap) (ho : w2.os = w1.os) (ht : w2.tape = w1.tape) (hu : w2.output = w1.output) : RFr R a b w w2 :=
  ⟨ho.trans h.os, ht.trans h.tape, hu.trans h.output, by rw [hh]; exact h.size, fun k h1 h2 h3 => by rw [hh]; exact h.block k h1 h2 h3, h.own⟩

/-- One token on, in a world that has grown. -/
theorem RdS.bumpTo {w : World} {R : Nat} {tv : Value} {ts : List Rt.Tk} {n : Nat} {ov : Value} {ops : List Pop} (hr : RdS w R tv ts n ov ops) (h : n < ts.length) (wx w' : World) (hb : Below w.heap.size w wx)
    (hh : w'.heap = (wx.setCell ⟨R, 1, none⟩ (.int .i64 ((n : Int) + 1))).heap) (ho : w'.os = wx.os) (ht : w'.tape = wx.tape) (hu : w'.output = wx.output) : RdS w' R tv ts (n + 1) ov ops ∧ RFr R ov ov w w' := by
  obtain ⟨h1, h2⟩ := hr.later hb
  obtain ⟨h3, h4⟩ := h1.bump h 0
  exact ⟨h3.same hh, (h2.trans h4).same hh ho ht hu⟩

set_option maxHeartbeats 400000 in
theorem operator_yes (w : World) (R : Nat) (tv : Value) (ts : List Rt.Tk) (n : Nat) (ov : Value) (ops : List Pop) (lo hi : Int) (hr : RdS w R tv ts n ov ops) (hn : n < ts.length)
    (h1 : lo ≤ Rt.opCode ts[n].text) (h2 : Rt.opCode ts[n].text ≤ hi) :
    Calls Tryz.prog 166 #[.pointer (some ⟨R, 0, none⟩), .int .i64 lo, .int .i64 hi] w fun e w' => e = .returned (.int .i64 (Rt.opCode ts[n].text)) ∧ RdS w' R tv ts (n + 1) ov ops ∧ RFr R ov ov w w' := by
  have HB : Hid (∀ q : Nat, RdS ((w.drewN q).setCell ⟨R, 1, none⟩ (.int .i64 ((n : Int) + 1))) R tv ts (n + 1) ov ops ∧ RFr R ov ov w ((w.drewN q).setCell ⟨R, 1, none⟩ (.int .i64 ((n : Int) + 1)))) := hr.bump hn
  obtain ⟨b, cap, rfl, hb, hc⟩ := hr.toks
  have c0 := cell_of_block hr.block 0 (by simp)
  have c1 := cell_of_block hr.block 1 (by simp)
  have f1 := free_of_block hr.block 1
  simp at c0 c1
  have ct := (hc n hn).2
  clear hc
  have hfew := hr.few
  have hn' : (n : Int) < (ts.length : Int) := by omega
  generalize ts[n].text = tx at *
  go_enter Tryz.func166, Tryz.ntmps166
  go_wp2_with fail
  go_quiet (fail)
  go_wp2_with fail
  obtain ⟨w1, hw1, c0', c1', ct'⟩ := fresh3 nq c0 c1 ct
  rw [← hw1]
  have f1' : w1.frozen? ⟨R, 1, none⟩ = false := by rw [hw1]; exact f1
  have HW : Hid (w1 = w.drewN nq) := hw1
  clear hw1
  go_quiet ((go_at_call 169; exact Calls.quiet_of_same (operatorCode_any _ _)))
  go_wp2
  go_ret
  refine ⟨by simp, ?_⟩
  rw [drew_two HW.out]
  exact HB.out _

set_option maxHeartbeats 400000 in
theorem name_end (w : World) (R : Nat) (tv : Value) (ts : List Rt.Tk) (n : Nat) (ov : Value) (ops : List Pop) (hr : RdS w R tv ts n ov ops) (hn : ¬ n < ts.length) :
    Calls Tryz.prog 153 #[.pointer (some ⟨R, 0, none⟩)] w fun e w' => e = .returned (.tuple #[.string ⟨#[]⟩, .bool false]) ∧ ∃ q, w' = w.drewN q := by
  obtain ⟨b, cap, rfl, hb, hc⟩ := hr.toks
  have c0 := cell_of_block hr.block 0 (by simp)
  have c1 := cell_of_block hr.block 1 (by simp)
  simp at c0 c1
  clear hc
  have hd : ¬ ((n : Int) < (ts.length : Int)) := by omega
  go_enter Tryz.func153, Tryz.ntmps153
  go_wp2_with fail
  go_quiet (fail)
  go_wp2_with fail
  go_ret2
  exact ⟨by simp, _, rfl⟩

set_option maxHeartbeats 1000000 in
theorem name_some (w : World) (R : Nat) (tv : Value) (ts : List Rt.Tk) (n : Nat) (ov : Value) (ops : List Pop) (hr : RdS w R tv ts n ov ops) (hn : n < ts.length) :
    Calls Tryz.prog 153 #[.pointer (some ⟨R, 0, none⟩)] w fun e w' =>
      (ts[n].kind = 1 ∧ Rt.resv ts[n].text = false ∧ e = .returned (.tuple #[.string ts[n].text, .bool true]) ∧ RdS w' R tv ts (n + 1) ov ops ∧ RFr R ov ov w w') ∨
      (¬ (ts[n].kind = 1 ∧ Rt.resv ts[n].text = false) ∧ e = .returned (.tuple #[.string ⟨#[]⟩, .bool false]) ∧ RdS w' R tv ts n ov ops ∧ RFr R ov ov w w') := by
  have hr0 := hr
  obtain ⟨b, cap, rfl, hb, hc⟩ := hr.toks
  have c0 := cell_of_block hr.block 0 (by simp)
  have c1 := cell_of_block hr.block 1 (by simp)
  have f1 := free_of_block hr.block 1
  simp at c0 c1
  obtain ⟨ck, ct⟩ := hc n hn
  clear hc
  have hfew := hr.few
  have hn' : (n : Int) < (ts.length : Int) := by omega
  generalize ts[n].text = tx at *
  generalize ts[n].kind = kx at *
  have hlt : R < w.heap.size := World.block_lt_of_cell? w _ c0
  go_enter Tryz.func153, Tryz.ntmps153
  go_wp2_with fail
  go_quiet (fail)
  go_wp2_with fail
  obtain ⟨w1, hw1, c0', c1', ct'⟩ := fresh3 nq c0 c1 ct
  rw [← hw1]
  have ck' : w1.cell? ⟨b, n * 2, none⟩ = some (.int .i64 kx) := by rw [hw1]; exact ck
  have f1' : w1.frozen? ⟨R, 1, none⟩ = false := by rw [hw1]; exact f1
  have hs1 : R < w1.heap.size := by rw [hw1]; exact hlt
  have HW : Hid (w1 = w.drewN nq) := hw1
  clear hw1
  go_region_held3 (fun w' => w'.cell? ⟨R, 0, none⟩ = some (.slice (some ⟨b, 0, none⟩) ts.length cap) ∧ w'.cell? ⟨R, 1, none⟩ = some (.int .i64 n) ∧ w'.cell? ⟨b, n * 2, none⟩ = some (.int .i64 kx) ∧ w'.cell? ⟨b, n * 2 + 1, none⟩ = some (.string tx)) (go_keep) (fail)
  go_wp2_with (go_at_call 161; refine (reserved_any _ _).mono ?_; rintro e w' ⟨rfl, rfl⟩)
  · have h1 : Rt.resv tx = true := by assumption
    go_ret2
    refine Or.inr ⟨by simp [h1], by simp, ?_⟩
    exact hr0.later (by rw [HW.out]; exact ((below_drewN w nq).alloc (Nat.le_refl _) _).drew)
  · have h1 : kx = 1 := by assumption
    have h2 : Rt.resv tx = false := by assumption
    go_ret2
    refine Or.inl ⟨h1, h2, by simp, ?_⟩
    have hb1 := hr0.bump hn nq
    rw [← HW.out] at hb1
    obtain ⟨a1, a2⟩ := hb1
    obtain ⟨a3, a4⟩ := a1.later (((Below.refl _ _).alloc (Nat.le_refl _) (.cells #[.int .i64 1, .string tx] 154)).drew)
    exact ⟨a3, a2.trans a4⟩
  · have h1 : ¬ kx = 1 := by assumption
    go_ret2
    refine Or.inr ⟨by simp [h1], by simp, ?_⟩
    exact hr0.later (by rw [HW.out]; exact ((below_drewN w nq).alloc (Nat.le_refl _) _).drew)

end Go.Proofs.YtbpajiljfppjcaaGreatDoor

