/- The sources that are made out of numbers, as plain functions. No program, no walk. -/
import Derived.Test.YtopeochnoefgcaaDoorTidy0
namespace Go.Proofs.YtopeochnoefgcaaDoor
namespace Rt

/-- Which of n things a raw number speaks of. -/
def pickP (c n : Int) : Int := (if c < 0 then -(c + 1) else c) % n
/-- Lines, each with its newline. -/
def unl (ls : List ByteArray) : ByteArray := ls.foldl (fun t s => t ++ s ++ ⟨#[10]⟩) ⟨#[]⟩
theorem unl_snoc (ls : List ByteArray) (s : ByteArray) : unl (ls ++ [s]) = unl ls ++ s ++ ⟨#[10]⟩ := by simp [unl]

def ifT (a n : ByteArray) : ByteArray := ⟨#[105, 102, 32]⟩ ++ a ++ ⟨#[32, 60, 32]⟩ ++ n
def whT (a n : ByteArray) : ByteArray := ⟨#[119, 104, 105, 108, 101, 32]⟩ ++ a ++ ⟨#[32, 60, 32]⟩ ++ n
def incT (a : ByteArray) : ByteArray := ⟨#[115, 101, 116, 32]⟩ ++ a ++ ⟨#[32, 116, 111, 32]⟩ ++ a ++ ⟨#[32, 43, 32, 49]⟩
def elT : ByteArray := ⟨#[101, 108, 115, 101]⟩
def enT : ByteArray := ⟨#[101, 110, 100]⟩
def prT (a n : ByteArray) : ByteArray := ⟨#[112, 114, 105, 110, 116, 32]⟩ ++ a ++ ⟨#[32, 42, 32]⟩ ++ n
def dvT (a n : ByteArray) : ByteArray := ⟨#[115, 101, 116, 32]⟩ ++ a ++ ⟨#[32, 116, 111, 32]⟩ ++ n ++ ⟨#[32, 47, 32]⟩ ++ a
def plainE (k : Int) (a b n : ByteArray) : ByteArray :=
  if k = 0 then ⟨#[115, 101, 116, 32]⟩ ++ a ++ ⟨#[32, 116, 111, 32]⟩ ++ a ++ ⟨#[32, 43, 32]⟩ ++ n
  else if k = 1 then ⟨#[115, 101, 116, 32]⟩ ++ a ++ ⟨#[32, 116, 111, 32]⟩ ++ b ++ ⟨#[32, 42, 32, 51, 32, 45, 32]⟩ ++ a
  else if k = 2 then ⟨#[115, 101, 116, 32, 116, 91]⟩ ++ a ++ ⟨#[32, 42, 32]⟩ ++ a ++ ⟨#[32, 37, 32, 52, 93, 32, 116, 111, 32]⟩ ++ b
  else if k = 3 then ⟨#[115, 101, 116, 32]⟩ ++ a ++ ⟨#[32, 116, 111, 32, 116, 91]⟩ ++ n ++ ⟨#[32, 37, 32, 54, 93]⟩
  else if k = 4 then ⟨#[112, 114, 105, 110, 116, 32]⟩ ++ a
  else if k = 5 then ⟨#[114, 101, 97, 100, 32]⟩ ++ a
  else if k = 6 then ⟨#[99, 97, 108, 108, 32, 102, 32]⟩ ++ a ++ ⟨#[44, 32]⟩ ++ n
  else ⟨#[115, 101, 116, 32]⟩ ++ a ++ ⟨#[32, 116, 111, 32, 40]⟩ ++ a ++ ⟨#[32, 61, 32]⟩ ++ b ++ ⟨#[41, 32, 43, 32]⟩ ++ n
/-- What the innermost block is; 0: none is open. -/
def topE (o : List Int) : Int := o.getLastD 0
/-- The lines of a block's number, and the blocks that are open behind it. -/
def blockE (o : List Int) (k : Int) (a n : ByteArray) : List ByteArray × List Int :=
  if k = 0 then ([ifT a n], o ++ [1])
  else if k = 1 then ([whT a n, incT a], o ++ [3])
  else if k = 2 ∧ topE o = 1 then ([elT], o.dropLast ++ [2])
  else if k = 3 ∧ 0 < topE o then ([enT], o.dropLast)
  else if k = 2 then ([prT a n], o)
  else ([dvT a n], o)
def digitT (d : Int) : ByteArray := ⟨#[UInt8.ofNat (48 + d.toNat)]⟩
def varE (vars : List ByteArray) (i : Int) : ByteArray := (vars[i.toNat]?).getD ⟨#[]⟩
def stepE (vars : List ByteArray) (c : Int) (o : List Int) : List ByteArray × List Int :=
  let v := pickP c 1099511627776
  let a := varE vars (v / 12 % vars.length)
  let b := varE vars (v / 60 % vars.length)
  let n := digitT (v / 300 % 10)
  if v % 12 < 8 then ([plainE (v % 12) a b n], o) else blockE o (v % 12 - 8) a n
def bodyE (vars : List ByteArray) : List Int → List Int → List ByteArray × List Int
  | [], o => ([], o)
  | c :: r, o => ((stepE vars c o).1 ++ (bodyE vars r (stepE vars c o).2).1, (bodyE vars r (stepE vars c o).2).2)
def bodyL (vars : List ByteArray) (code : List Int) : List ByteArray :=
  (bodyE vars (code.take 14) []).1 ++ List.replicate ((bodyE vars (code.take 14) []).2.length + 1) enT

def varsF : List ByteArray := [⟨#[112]⟩, ⟨#[113]⟩, ⟨#[120]⟩, ⟨#[112]⟩, ⟨#[122]⟩]
def varsM : List ByteArray := [⟨#[120]⟩, ⟨#[121]⟩, ⟨#[122]⟩]
def headT : List ByteArray := [⟨#[118, 97, 114, 32, 120]⟩, ⟨#[118, 97, 114, 32, 121]⟩, ⟨#[118, 97, 114, 32, 122]⟩, ⟨#[97, 114, 114, 97, 121, 32, 116, 32, 52]⟩, ⟨#[112, 114, 111, 99, 32, 102, 32, 112, 32, 113]⟩]
def mainT : ByteArray := ⟨#[112, 114, 111, 99, 32, 109, 97, 105, 110]⟩
def srcL (code : List Int) : List ByteArray := headT ++ bodyL varsF (code.take (code.length / 2)) ++ [mainT] ++ bodyL varsM (code.drop (code.length / 2))
/-- A right source, out of numbers. -/
def srcB (code : List Int) : ByteArray := unl (srcL code)

/-- A name that is a variable or a parameter there. -/
def vName (pars : List ByteArray) (x : ByteArray) : Bool := pars.any (fun y => decide (y = x)) || varsM.any (fun y => decide (y = x))
def tName : ByteArray := ⟨#[116]⟩
def fName : ByteArray := ⟨#[102]⟩
def opGood (pars : List ByteArray) (o : Pop) : Bool := if o.code = 2 then vName pars o.name else if o.code = 3 then decide (o.name = tName) else true
/-- A form whose names may stand in a procedure with these parameters. -/
def fmGood (pars : List ByteArray) (fm : PForm) : Bool :=
  fm.index.all (opGood pars) && fm.values.all (fun e => e.all (opGood pars)) &&
  (if fm.kind = 8 ∨ fm.kind = 11 then vName pars fm.name else if fm.kind = 9 then decide (fm.name = tName) else if fm.kind = 12 then decide (fm.name = fName) && decide (fm.values.length = 2) else decide (fm.kind = 4 ∨ fm.kind = 5 ∨ fm.kind = 6 ∨ fm.kind = 7 ∨ fm.kind = 10))
/-- A line of that kind that may stand in a procedure with these parameters. -/
def lnGood (pars : List ByteArray) (k : Int) (s : ByteArray) : Bool :=
  match rdLine s with
  | none => false
  | some p => decide (p.form.kind = k) && fmGood pars p.form && decide (s.size ≤ 40) && decide (p.depth = 0) && decide (p.opener = 0) && decide (p.proc = 0)

def parsF : List ByteArray := [⟨#[112]⟩, ⟨#[113]⟩]
def digs : List ByteArray := [⟨#[48]⟩, ⟨#[49]⟩, ⟨#[50]⟩, ⟨#[51]⟩, ⟨#[52]⟩, ⟨#[53]⟩, ⟨#[54]⟩, ⟨#[55]⟩, ⟨#[56]⟩, ⟨#[57]⟩]
end Rt
end Go.Proofs.YtopeochnoefgcaaDoor

