/- The machine's run as plain functions: no program, no walk. -/
import Derived.Test.YtbpajiljfppjcaaGreatDoorRtLink
namespace Go.Proofs.YtbpajiljfppjcaaGreatDoor
open Go.RowKit
namespace Rt
/-- Which parameter a name is, counted from i on; -1, if it is none. -/
def parNo (i : Nat) : List ByteArray → ByteArray → Int
  | [], _ => -1
  | p :: r, x => if p = x then (i : Int) else parNo (i + 1) r x
/-- A line by its number; an empty one, if there is none. -/
def lnAt (pls : List PL) (n : Int) : PL := if n < 0 then zPL else (pls[n.toNat]?).getD zPL
def lkAt (lk : Lks) (n : Int) : Int × Int := if n < 0 then (0, 0) else (lk[n.toNat]?).getD (0, 0)

/-- The stop that going on from a line comes to; 0, if there is none. -/
def goOn (pls : List PL) (lk : Lks) : Nat → Int → Int
  | 0, _ => 0
  | f + 1, n =>
    if 0 < n ∧ n < pls.length then
      if isStopP pls (lnAt pls n) = true then n
      else if (lnAt pls n).form.kind = 4 ∧ (formAt pls (lnAt pls n).opener).kind = 7 then (lnAt pls n).opener
      else if (lnAt pls n).form.kind = 6 then goOn pls lk f (wrap64 ((lkAt lk (lnAt pls n).opener).2 + 1))
      else goOn pls lk f (wrap64 (n + 1))
    else 0
def otherwise (lk : Lks) (n : Int) : Int := if 0 < (lkAt lk n).1 then wrap64 ((lkAt lk n).1 + 1) else wrap64 ((lkAt lk n).2 + 1)

structure Fm where
  params : List Int
  call : Int
structure Mc where
  frames : List Fm
  values : List (List Int)
  taken : Int
  output : List Int
  line : Int
  fin : Int
/-- What a run keeps to: its lines, their links, its input. -/
structure Src where
  pls : List PL
  lk : Lks
  input : List Int
structure Spot where
  line : Int
  cell : Int
def noFm : Fm := ⟨[], 0⟩
def cellsOf (m : Mc) (l : Int) : List Int :=
  if 0 < l ∧ l < m.values.length then (m.values[l.toNat]?).getD []
  else if l = 0 ∧ 0 < m.frames.length then (m.frames.getLastD noFm).params
  else []
def hasS (m : Mc) (s : Spot) : Bool := decide (0 ≤ s.cell ∧ s.cell < (cellsOf m s.line).length)
def getS (m : Mc) (s : Spot) : Int := if s.cell < 0 then 0 else ((cellsOf m s.line)[s.cell.toNat]?).getD 0
def setL {α : Type} (l : List α) (i : Nat) (f : α → α) : List α := l.modify i f
def putS (m : Mc) (s : Spot) (v : Int) : Mc :=
  if hasS m s = true then
    if 0 < s.line then { m with values := m.values.modify s.line.toNat (fun c => c.set s.cell.toNat v) }
    else { m with frames := m.frames.modify (m.frames.length - 1) (fun f => ⟨f.params.set s.cell.toNat v, f.call⟩) }
  else m
def procOf (S : Src) (m : Mc) : Int := (lnAt S.pls m.line).proc
def varS (S : Src) (m : Mc) (x : ByteArray) : Spot :=
  let i := parNo 0 (formAt S.pls (procOf S m)).params x
  if 0 ≤ i then ⟨0, i⟩ else ⟨declP S.pls x, 0⟩
def cellS (S : Src) (m : Mc) (x : ByteArray) (n : Int) : Option Spot :=
  if hasS m ⟨declP S.pls x, n⟩ = true then some ⟨declP S.pls x, n⟩ else none

def truthI (b : Bool) : Int := if b then 1 else 0
/-- What a sign makes of two values: the value, and the trap. -/
def combineI (code l r : Int) : Int × Int :=
  if code = 5 then (wrap64 (l + r), 0)
  else if code = 6 then (wrap64 (l - r), 0)
  else if code = 7 then (wrap64 (l * r), 0)
  else if code = 10 then (truthI (decide (l < r)), 0)
  else if code = 11 then (truthI (decide (l = r)), 0)
  else if r = 0 then (0, 2)
  else if code = 8 then (wrap64 (l.tdiv r), 0)
  else (l.tmod r, 0)
/-- One piece of the work: the values at hand (the last one last), and the trap. -/
def workI (S : Src) (m : Mc) (st : List Int) (o : Pop) : List Int × Int :=
  if o.code = 1 then (st ++ [o.number], 0)
  else if o.code = 2 then (st ++ [getS m (varS S m o.name)], 0)
  else if o.code = 3 then
    match cellS S m o.name (st.getLastD 0) with
    | none => (st.dropLast, 3)
    | some s => (st.dropLast ++ [getS m s], 0)
  else if o.code = 4 then (st.dropLast ++ [wrap64 (-(st.getLastD 0))], 0)
  else
    let r := st.getLastD 0
    let st1 := st.dropLast
    let l := st1.getLastD 0
    let st2 := st1.dropLast
    if (combineI o.code l r).2 = 0 then (st2 ++ [(combineI o.code l r).1], 0) else (st2, (combineI o.code l r).2)
def evalI (S : Src) (m : Mc) : List Pop → List Int → Int × Int
  | [], st => (st.getLastD 0, 0)
  | o :: r, st => if (workI S m st o).2 = 0 then evalI S m r (workI S m st o).1 else (0, (workI S m st o).2)
def evalE (S : Src) (m : Mc) (e : List Pop) : Int × Int := evalI S m e []
def valueF (S : Src) (m : Mc) (f : PForm) : Int × Int := match f.values with
  | [] => (0, 0)
  | e :: _ => evalE S m e

/-- A record of a step. -/
structure Rec where
  kind : Int
  line : Int
  at_ : Spot
  value : Int
def recCells (r : Rec) : List Value := [.int .i64 r.kind, .int .i64 r.line, .int .i64 r.at_.line, .int .i64 r.at_.cell, .int .i64 r.value]
def stay (n : Int) : Rec := ⟨1, n, ⟨0, 0⟩, 0⟩
/-- What a line comes to: the end, the line to go on from, the records; the machine. -/
structure Out where
  fin : Int
  next : Int
  recs : List Rec
  m : Mc
def stored (m : Mc) (s : Spot) : Rec := ⟨4, 0, s, getS m s⟩
def argsI (S : Src) (m : Mc) : List (List Pop) → List Int → List Int × Int
  | [], acc => (acc, 0)
  | e :: r, acc => if (evalE S m e).2 = 0 then argsI S m r (acc ++ [(evalE S m e).1]) else (acc, (evalE S m e).2)
def ended (m : Mc) (t : Int) : Out := ⟨t, 0, [], m⟩
def perform (S : Src) (m : Mc) (f : PForm) : Out :=
  let v := valueF S m f
  let nx := wrap64 (m.line + 1)
  if f.kind = 8 then
    if v.2 = 0 then ⟨0, nx, [stay m.line, stored m (varS S m f.name)], putS m (varS S m f.name) v.1⟩ else ended m v.2
  else if f.kind = 9 then
    if (evalE S m f.index).2 = 0 then
      if v.2 = 0 then
        match cellS S m f.name (evalE S m f.index).1 with
        | none => ended m 3
        | some s => ⟨0, nx, [stay m.line, stored m s], putS m s v.1⟩
      else ended m v.2
    else ended m (evalE S m f.index).2
  else if f.kind = 10 then
    if v.2 = 0 then
      if 50 ≤ m.output.length then ended m 6 else ⟨0, nx, [stay m.line, ⟨5, 0, ⟨0, 0⟩, 0⟩], { m with output := m.output ++ [v.1] }⟩
    else ended m v.2
  else if f.kind = 11 then
    if m.taken < 0 ∨ S.input.length ≤ m.taken then ended m 4
    else ⟨0, nx, [stay m.line, stored m (varS S m f.name), ⟨6, 0, ⟨0, 0⟩, 0⟩], { putS m (varS S m f.name) ((S.input[m.taken.toNat]?).getD 0) with taken := wrap64 (m.taken + 1) }⟩
  else if f.kind = 5 ∨ f.kind = 7 then
    if v.2 = 0 then ⟨0, if v.1 = 0 then otherwise S.lk m.line else nx, [stay m.line], m⟩ else ended m v.2
  else if f.kind = 12 then
    if (argsI S m f.values []).2 = 0 then
      if 6 ≤ m.frames.length then ended m 5
      else ⟨0, wrap64 (declP S.pls f.name + 1), [⟨2, m.line, ⟨0, 0⟩, 0⟩], { m with frames := m.frames ++ [⟨(argsI S m f.values []).1, m.line⟩] }⟩
    else ended m (argsI S m f.values []).2
  else if m.frames.length < 2 then ended m 1
  else
    let g := m.frames.getLastD noFm
    ⟨0, wrap64 (g.call + 1), ⟨3, m.line, ⟨0, 0⟩, g.call⟩ :: g.params.map (fun v => ⟨7, 0, ⟨0, 0⟩, v⟩), { m with frames := m.frames.dropLast }⟩
/-- A step: the machine behind it, and its records. -/
def stepM (S : Src) (m : Mc) : Mc × List Rec :=
  if m.fin = 0 then
    let o := perform S m (formAt S.pls m.line)
    if o.fin = 0 then ({ o.m with line := goOn S.pls S.lk 102 o.next }, o.recs)
    else ({ m with fin := o.fin }, [stay m.line])
  else (m, [])
def zerosI (f : PForm) : List Int := List.replicate (if f.kind = 1 then 1 else f.cells.toNat) 0
def firstM (S : Src) : Mc := ⟨[noFm], S.pls.map (fun p => zerosI p.form), 0, [], goOn S.pls S.lk 102 (wrap64 (declP S.pls mainName + 1)), 0⟩
/-- So many steps at most, till the end is not Running; how many were made. -/
def runM (S : Src) : Nat → Mc → Mc × Nat
  | 0, m => (m, 0)
  | k + 1, m => if m.fin = 0 then ((runM S k (stepM S m).1).1, (runM S k (stepM S m).1).2 + 1) else (m, 0)
end Rt
end Go.Proofs.YtbpajiljfppjcaaGreatDoor

