/- Small facts that all texts use. -/
import Derived.Test.YtbpajiljfppjcaaGreatRtLink
import Derived.Test.YtbpajiljfppjcaaGreatProg
import Derived.Test.YtbpajiljfppjcaaGreatRtDefs
import Derived.WalkKit
import Derived.WalkSpells
import Derived.WalkLawsBesides
namespace Go.Proofs.YtbpajiljfppjcaaGreat
open Go.RowKit
namespace Rt
/-- Which parameter a name is, counted from i on; -1, if it is none. -/
def parNo (i : Nat) : List ByteArray → ByteArray → Int
  | [], _ => -1
  | p :: r, x => if p = x then (i : Int) else parNo (i + 1) r x
/-- A line by its number; an empty one, if there is none. -/
def lnAt (pls : List PL) (n : Int) : PL := if n < 0 then zPL else (pls[n.toNat]?).getD zPL
def lkAt (lk : Lks) (n : Int) : Int × Int := if n < 0 then (0, 0) else (lk[n.toNat]?).getD (0, 0)

/-- The stop that going on from a line comes to; 0, if there is none. -/
def goOn (pls : List PL) (lk : Lks) : Nat → Int → Int
  | 0, _ => 0
  | f + 1, n =>
    if 0 < n ∧ n < pls.length then
      if isStopP pls (lnAt pls n) = true then n
      else if (lnAt pls n).form.kind = 4 ∧ (formAt pls (lnAt pls n).opener).kind = 7 then (lnAt pls n).opener
      else if (lnAt pls n).form.kind = 6 then goOn pls lk f (wrap64 ((lkAt lk (lnAt pls n).opener).2 + 1))
      else goOn pls lk f (wrap64 (n + 1))
    else 0
def otherwise (lk : Lks) (n : Int) : Int := if 0 < (lkAt lk n).1 then wrap64 ((lkAt lk n).1 + 1) else wrap64 ((lkAt lk n).2 + 1)

structure Fm where
  params : List Int
  call : Int
structure Mc where
  frames : List Fm
  values : List (List Int)
  taken : Int
  output : List Int
  line : Int
  fin : Int
/-- What a run keeps to: its lines, their links, its input. -/
structure Src where
  pls : List PL
  lk : Lks
  input : List Int
structure Spot where
  line : Int
  cell : Int
def noFm : Fm := ⟨[], 0⟩
def cellsOf (m : Mc) (l : Int) : List Int :=
  if 0 < l ∧ l < m.values.length then (m.values[l.toNat]?).getD []
  else if l = 0 ∧ 0 < m.frames.length then (m.frames.getLastD noFm).params
  else []
def hasS (m : Mc) (s : Spot) : Bool := decide (0 ≤ s.cell ∧ s.cell < (cellsOf m s.line).length)
def getS (m : Mc) (s : Spot) : Int := if s.cell < 0 then 0 else ((cellsOf m s.line)[s.cell.toNat]?).getD 0
def setL {α : Type} (l : List α) (i : Nat) (f : α → α) : List α := l.modify i f
def putS (m : Mc) (s : Spot) (v : Int) : Mc :=
  if hasS m s = true then
    if 0 < s.line then { m with values := m.values.modify s.line.toNat (fun c => c.set s.cell.toNat v) }
    else { m with frames := m.frames.modify (m.frames.length - 1) (fun f => ⟨f.params.set s.cell.toNat v, f.call⟩) }
  else m
def procOf (S : Src) (m : Mc) : Int := (lnAt S.pls m.line).proc
def varS (S : Src) (m : Mc) (x : ByteArray) : Spot :=
  let i := parNo 0 (formAt S.pls (procOf S m)).params x
  if 0 ≤ i then ⟨0, i⟩ else ⟨declP S.pls x, 0⟩
def cellS (S : Src) (m : Mc) (x : ByteArray) (n : Int) : Option Spot :=
  if hasS m ⟨declP S.pls x, n⟩ = true then some ⟨declP S.pls x, n⟩ else none

def truthI (b : Bool) : Int := if b then 1 else 0
/-- What a sign makes of two values: the value, and the trap. -/
def combineI (code l r : Int) : Int × Int :=
  if code = 5 then (wrap64 (l + r), 0)
  else if code = 6 then (wrap64 (l - r), 0)
  else if code = 7 then (wrap64 (l * r), 0)
  else if code = 10 then (truthI (decide (l < r)), 0)
  else if code = 11 then (truthI (decide (l = r)), 0)
  else if r = 0 then (0, 2)
  else if code = 8 then (wrap64 (l.tdiv r), 0)
  else (l.tmod r, 0)
/-- One piece of the work: the values at hand (the last one last), and the trap. -/
def workI (S : Src) (m : Mc) (st : List Int) (o : Pop) : List Int × Int :=
  if o.code = 1 then (st ++ [o.number], 0)
  else if o.code = 2 then (st ++ [getS m (varS S m o.name)], 0)
  else if o.code = 3 then
    match cellS S m o.name (st.getLastD 0) with
    | none => (st.dropLast, 3)
    | some s => (st.dropLast ++ [getS m s], 0)
  else if o.code = 4 then (st.dropLast ++ [wrap64 (-(st.getLastD 0))], 0)
  else
    let r := st.getLastD 0
    let st1 := st.dropLast
    let l := st1.getLastD 0
    let st2 := st1.dropLast
    if (combineI o.code l r).2 = 0 then (st2 ++ [(combineI o.code l r).1], 0) else (st2, (combineI o.code l r).2)
def evalI (S : Src) (m : Mc) : List Pop → List Int → Int × Int
  | [], st => (st.getLastD 0, 0)
  | o :: r, st => if (workI S m st o).2 = 0 then evalI S m r (workI S m st o).1 else (0, (workI S m st o).2)
def evalE (S : Src) (m : Mc) (e : List Pop) : Int × Int := evalI S m e []
def valueF (S : Src) (m : Mc) (f : PForm) : Int × Int := match f.values with
  | [] => (0, 0)
  | e :: _ => evalE S m e

/-- A record of a step. -/
structure Rec where
  kind : Int
  line : Int
  at_ : Spot
  value : Int
def recCells (r : Rec) : List Value := [.int .i64 r.kind, .int .i64 r.line, .int .i64 r.at_.line, .int .i64 r.at_.cell, .int .i64 r.value]
def stay (n : Int) : Rec := ⟨1, n, ⟨0, 0⟩, 0⟩
/-- What a line comes to: the end, the line to go on from, the records; the machine. -/
structure Out where
  fin : Int
  next : Int
  recs : List Rec
  m : Mc
def stored (m : Mc) (s : Spot) : Rec := ⟨4, 0, s, getS m s⟩
def argsI (S : Src) (m : Mc) : List (List Pop) → List Int → List Int × Int
  | [], acc => (acc, 0)
  | e :: r, acc => if (evalE S m e).2 = 0 then argsI S m r (acc ++ [(evalE S m e).1]) else (acc, (evalE S m e).2)
def ended (m : Mc) (t : Int) : Out := ⟨t, 0, [], m⟩
def perform (S : Src) (m : Mc) (f : PForm) : Out :=
  let v := valueF S m f
  let nx := wrap64 (m.line + 1)
  if f.kind = 8 then
    if v.2 = 0 then ⟨0, nx, [stay m.line, stored m (varS S m f.name)], putS m (varS S m f.name) v.1⟩ else ended m v.2
  else if f.kind = 9 then
    if (evalE S m f.index).2 = 0 then
      if v.2 = 0 then
        match cellS S m f.name (evalE S m f.index).1 with
        | none => ended m 3
        | some s => ⟨0, nx, [stay m.line, stored m s], putS m s v.1⟩
      else ended m v.2
    else ended m (evalE S m f.index).2
  else if f.kind = 10 then
    if v.2 = 0 then
      if 50 ≤ m.output.length then ended m 6 else ⟨0, nx, [stay m.line, ⟨5, 0, ⟨0, 0⟩, 0⟩], { m with output := m.output ++ [v.1] }⟩
    else ended m v.2
  else if f.kind = 11 then
    if m.taken < 0 ∨ S.input.length ≤ m.taken then ended m 4
    else ⟨0, nx, [stay m.line, stored m (varS S m f.name), ⟨6, 0, ⟨0, 0⟩, 0⟩], { putS m (varS S m f.name) ((S.input[m.taken.toNat]?).getD 0) with taken := wrap64 (m.taken + 1) }⟩
  else if f.kind = 5 ∨ f.kind = 7 then
    if v.2 = 0 then ⟨0, if v.1 = 0 then otherwise S.lk m.line else nx, [stay m.line], m⟩ else ended m v.2
  else if f.kind = 12 then
    if (argsI S m f.values []).2 = 0 then
      if 6 ≤ m.frames.length then ended m 5
      else ⟨0, wrap64 (declP S.pls f.name + 1), [⟨2, m.line, ⟨0, 0⟩, 0⟩], { m with frames := m.frames ++ [⟨(argsI S m f.values []).1, m.line⟩] }⟩
    else ended m (argsI S m f.values []).2
  else if m.frames.length < 2 then ended m 1
  else
    let g := m.frames.getLastD noFm
    ⟨0, wrap64 (g.call + 1), ⟨3, m.line, ⟨0, 0⟩, g.call⟩ :: g.params.map (fun v => ⟨7, 0, ⟨0, 0⟩, v⟩), { m with frames := m.frames.dropLast }⟩
/-- A step: the machine behind it, and its records. -/
def stepM (S : Src) (m : Mc) : Mc × List Rec :=
  if m.fin = 0 then
    let o := perform S m (formAt S.pls m.line)
    if o.fin = 0 then ({ o.m with line := goOn S.pls S.lk 102 o.next }, o.recs)
    else ({ m with fin := o.fin }, [stay m.line])
  else (m, [])
def zerosI (f : PForm) : List Int := List.replicate (if f.kind = 1 then 1 else f.cells.toNat) 0
def firstM (S : Src) : Mc := ⟨[noFm], S.pls.map (fun p => zerosI p.form), 0, [], goOn S.pls S.lk 102 (wrap64 (declP S.pls mainName + 1)), 0⟩
/-- So many steps at most, till the end is not Running; how many were made. -/
def runM (S : Src) : Nat → Mc → Mc × Nat
  | 0, m => (m, 0)
  | k + 1, m => if m.fin = 0 then ((runM S k (stepM S m).1).1, (runM S k (stepM S m).1).2 + 1) else (m, 0)
end Rt
end Go.Proofs.YtbpajiljfppjcaaGreat

namespace Go.Proofs.YtbpajiljfppjcaaGreat
open Go.RowKit
namespace Rt
def parFitB (fm : PForm) : Bool := !((fm.name.toList == mainWord) && decide (0 < fm.params.length)) && decide fm.params.Nodup
theorem nodup_iff (ps : List ByteArray) : NoDup ps ps.length ↔ ps.Nodup := by
  unfold NoDup List.Nodup
  rw [List.pairwise_iff_getElem]
  constructor
  · intro h i j hi hj hij e
    exact h j i hij hj hj (by rw [List.getElem?_eq_getElem hi, List.getElem?_eq_getElem hj, e])
  · intro h i j hij _ hi e
    rw [List.getElem?_eq_getElem hi, List.getElem?_eq_getElem (by omega)] at e
    exact h j i (by omega) hi hij (Option.some.inj e).symm
theorem parFit_eq (fm : PForm) : parFit fm = parFitB fm := by
  unfold parFit parFitB
  congr 1
  rw [decide_eq_decide]
  exact nodup_iff _
def namFitB (pls : List PL) (n : Nat) (p : PL) : Bool :=
  if p.form.kind = 1 ∨ p.form.kind = 2 then decide (declP pls p.form.name = n)
  else if p.form.kind = 3 then decide (declP pls p.form.name = n) && parFitB p.form
  else if p.form.kind = 8 ∨ p.form.kind = 11 then isVar pls p.proc p.form.name && exsFit pls p
  else if p.form.kind = 9 then isArr pls p.proc p.form.name && exsFit pls p
  else if p.form.kind = 12 then callFit pls p.form && exsFit pls p
  else exsFit pls p
theorem namFit_eq (pls : List PL) (n : Nat) (p : PL) : namFit pls n p = namFitB pls n p := by
  unfold namFit namFitB
  rw [parFit_eq]
def nameErrB (pls : List PL) : Nat → List PL → Nat
  | _, [] => 0
  | n, p :: r => if namFitB pls n p = true then nameErrB pls (n + 1) r else n
theorem nameErr_eq (pls : List PL) : ∀ (r : List PL) (n : Nat), nameErr pls n r = nameErrB pls n r
  | [], _ => rfl
  | p :: r, n => by
    unfold nameErr nameErrB
    rw [namFit_eq, nameErr_eq pls r]
def readNamesB (ls : List PL) : Int × Int × List PL :=
  if ¬ nameErrB ls 1 (ls.drop 1) = 0 then (4, nameErrB ls 1 (ls.drop 1), [])
  else if ¬ (declForm ls mainName).kind = 3 then (4, 0, [])
  else (0, 0, ls)
def blkNil : List Blk → Bool
  | [] => true
  | _ :: _ => false
def readNestB (er : Nat) (ls : List PL) (bs : List Blk) (len : Nat) : Int × Int × List PL :=
  if ¬ er = 0 then (3, er, []) else if blkNil bs = false then (3, len, []) else readNamesB ls
def readFormsB (ln : Nat) (pls : List PL) (len : Nat) : Int × Int × List PL :=
  if ¬ ln = 0 then (2, ln, [])
  else readNestB (nestFrom (pls.drop 1) 1 [] [zPL]).1 (nestFrom (pls.drop 1) 1 [] [zPL]).2.1 (nestFrom (pls.drop 1) 1 [] [zPL]).2.2 len
def readSB (s : ByteArray) : Int × Int × List PL :=
  if tooLong s = true then (1, 0, []) else readFormsB (rForms 0 (lines s) [zPL]).1 (rForms 0 (lines s) [zPL]).2 (lines s).length
theorem readS_eq (s : ByteArray) : readS s = readSB s := by
  have h1 : ∀ ls, readNames ls = readNamesB ls := fun ls => by unfold readNames readNamesB; rw [nameErr_eq]
  have h2 : ∀ er ls bs len, readNest er ls bs len = readNestB er ls bs len := fun er ls bs len => by
    unfold readNest readNestB
    rw [h1]
    cases bs <;> simp [blkNil]
  unfold readS readSB
  split
  · rfl
  · unfold readForms readFormsB
    rw [h2]
end Rt
end Go.Proofs.YtbpajiljfppjcaaGreat

namespace Go.Proofs.YtbpajiljfppjcaaGreat
open Go.RowKit
namespace Rt
def rcS : ByteArray := ⟨#[118, 97, 114, 32, 114, 10, 118, 97, 114, 32, 107, 10, 112, 114, 111, 99, 32, 102, 97, 99, 32, 110, 10, 105, 102, 32, 49, 32, 60, 32, 110, 10, 115, 101, 116, 32, 114, 32, 116, 111, 32, 114, 32, 42, 32, 110, 10, 99, 97, 108, 108, 32, 102, 97, 99, 32, 110, 32, 45, 32, 49, 10, 101, 110, 100, 10, 101, 110, 100, 10, 112, 114, 111, 99, 32, 109, 97, 105, 110, 10, 115, 101, 116, 32, 114, 32, 116, 111, 32, 49, 10, 114, 101, 97, 100, 32, 107, 10, 99, 97, 108, 108, 32, 102, 97, 99, 32, 107, 10, 112, 114, 105, 110, 116, 32, 114, 10, 101, 110, 100]⟩
def rcP : List PL := [
    ⟨[], ⟨0, ⟨#[]⟩, 0, [], [], []⟩, 0, 0, 0⟩,
    ⟨[], ⟨1, ⟨#[114]⟩, 0, [], [], []⟩, 0, 0, 0⟩,
    ⟨[], ⟨1, ⟨#[107]⟩, 0, [], [], []⟩, 0, 0, 0⟩,
    ⟨[], ⟨3, ⟨#[102, 97, 99]⟩, 0, [⟨#[110]⟩], [], []⟩, 0, 0, 0⟩,
    ⟨[], ⟨5, ⟨#[]⟩, 0, [], [], [[⟨1, 1, ⟨#[]⟩⟩, ⟨2, 0, ⟨#[110]⟩⟩, ⟨10, 0, ⟨#[]⟩⟩]]⟩, 1, 0, 3⟩,
    ⟨[], ⟨8, ⟨#[114]⟩, 0, [], [], [[⟨2, 0, ⟨#[114]⟩⟩, ⟨2, 0, ⟨#[110]⟩⟩, ⟨7, 0, ⟨#[]⟩⟩]]⟩, 2, 0, 3⟩,
    ⟨[], ⟨12, ⟨#[102, 97, 99]⟩, 0, [], [], [[⟨2, 0, ⟨#[110]⟩⟩, ⟨1, 1, ⟨#[]⟩⟩, ⟨6, 0, ⟨#[]⟩⟩]]⟩, 2, 0, 3⟩,
    ⟨[], ⟨4, ⟨#[]⟩, 0, [], [], []⟩, 1, 4, 3⟩,
    ⟨[], ⟨4, ⟨#[]⟩, 0, [], [], []⟩, 0, 3, 3⟩,
    ⟨[], ⟨3, ⟨#[109, 97, 105, 110]⟩, 0, [], [], []⟩, 0, 0, 0⟩,
    ⟨[], ⟨8, ⟨#[114]⟩, 0, [], [], [[⟨1, 1, ⟨#[]⟩⟩]]⟩, 1, 0, 9⟩,
    ⟨[], ⟨11, ⟨#[107]⟩, 0, [], [], []⟩, 1, 0, 9⟩,
    ⟨[], ⟨12, ⟨#[102, 97, 99]⟩, 0, [], [], [[⟨2, 0, ⟨#[107]⟩⟩]]⟩, 1, 0, 9⟩,
    ⟨[], ⟨10, ⟨#[]⟩, 0, [], [], [[⟨2, 0, ⟨#[114]⟩⟩]]⟩, 1, 0, 9⟩,
    ⟨[], ⟨4, ⟨#[]⟩, 0, [], [], []⟩, 0, 9, 9⟩]
def rcL : Lks := [(0, 0), (0, 0), (0, 0), (0, 8), (0, 7), (0, 0), (0, 0), (0, 0), (0, 0), (0, 14), (0, 0), (0, 0), (0, 0), (0, 0), (0, 0)]
theorem rc_err : (readSB rcS).1 = 0 := by kernel_rfl
theorem rc_ln : (readSB rcS).2.1 = 0 := by kernel_rfl
theorem rc_pls : (readSB rcS).2.2.map (fun p => ({ p with toks := [] } : PL)) = rcP := by kernel_rfl
theorem rc_lk : linksS rcS = rcL := by kernel_rfl
end Rt
end Go.Proofs.YtbpajiljfppjcaaGreat

namespace Go.Proofs.YtbpajiljfppjcaaGreat
open Go.RowKit

theorem ret_int {k : IntKind} {a b : Int} (h : a = b) : Ending.returned (.int k a) = .returned (.int k b) := by rw [h]
theorem Tryz.infoStr : (Tryz.prog.info? 9).map (fun i => (i.zero, i.size, i.bytes)) = some (some (.string ByteArray.empty), 1, 16) := by kernel_rfl
/-- A row of the call's own that grew by an append behind a new block: what is below stays. -/
theorem below_append {B : Nat} {w wr w1 : World} {o : Obj} {e : TypeId} {size : Nat} {v : Value} {n : Nat} {xs : List Value} (hnx : Below B w wr) (hB : B ≤ wr.heap.size)
    (hown : wr.ownsRow B e size v n xs) (hgrow : (wr.alloc o).grownBy w1 v.ownBlock) : Below B w w1 :=
  (hnx.alloc hB o).grown hgrow (by simp; omega) (fun j hj => (hown.lt j hj).1)
theorem ownsRow_form {w : World} {B : Nat} {e : TypeId} {size : Nat} {v : Value} {n : Nat} {xs : List Value} (h : w.ownsRow B e size v n xs) : ∃ ad cap, v = .slice ad n cap := by
  obtain ⟨_, h⟩ := h
  rcases h with ⟨rfl, rfl⟩ | ⟨g, cap, cur, rfl, _⟩
  · exact ⟨_, _, rfl⟩
  · exact ⟨_, _, rfl⟩
theorem beqT {a b : Int} (h : (a == b) = true) : a = b := by simpa using h
theorem beqF {a b : Int} (h : (a == b) = false) : ¬ a = b := by simpa using h
theorem hide {p : Prop} (h : p) : Hid p := h
theorem unhide {p : Prop} (h : Hid p) : p := h
theorem block_lt {w : World} {N : Nat} {o : Obj} (h : w.heap[N]? = some o) : N < w.heap.size := by
  by_cases h' : N < w.heap.size
  · exact h'
  · rw [Array.getElem?_eq_none (by omega)] at h; cases h
theorem own_cell {w : World} {B : Nat} {e : TypeId} {size n : Nat} {v : Value} {xs : List Value} (h : w.ownsRow B e size v n xs) {j : Nat} {u : Value} (hj : xs[j]? = some u) :
    ∃ g cap, v = .slice (some ⟨g, 0, none⟩) n cap ∧ B ≤ g ∧ g < w.heap.size ∧ w.cell? ⟨g, j, none⟩ = some u := by
  obtain ⟨h1, h2⟩ := h
  rcases h2 with ⟨rfl, rfl⟩ | ⟨g, cap, cur, rfl, hg, hh, hn, hc, hs, ht⟩
  · have : xs = [] := List.eq_nil_of_length_eq_zero (by simpa using h1)
    subst this
    simp at hj
  · refine ⟨g, cap, rfl, hg, block_lt hh, ?_⟩
    rw [cell_of_row w g j cur e (0, 0) hh]
    rw [← ht, List.getElem?_take] at hj
    split at hj
    · simpa using hj
    · cases hj
theorem own_later {w w' : World} {B : Nat} {e : TypeId} {size n : Nat} {v : Value} {xs : List Value} (h : w.ownsRow B e size v n xs) (hb : Below w.heap.size w w') : w'.ownsRow B e size v n xs := by
  obtain ⟨h1, h2⟩ := h
  refine ⟨h1, ?_⟩
  rcases h2 with h2 | ⟨g, cap, cur, hv, hg, hh, r⟩
  · exact Or.inl h2
  · exact Or.inr ⟨g, cap, cur, hv, hg, by rw [hb.block g (block_lt hh)]; exact hh, r⟩
theorem block_later {w w' : World} {N : Nat} {o : Obj} (h : w.heap[N]? = some o) (hb : Below w.heap.size w w') : w'.heap[N]? = some o := by rw [hb.block N (block_lt h)]; exact h
theorem ret_bool {a b : Bool} (h : a = b) : Ending.returned (.bool a) = .returned (.bool b) := by rw [h]
theorem beq_eq_decide (a b : Int) : (a == b) = decide (a = b) := by rw [Bool.eq_iff_iff]; simp
theorem par_end {ps : List ByteArray} {x : ByteArray} {k : Nat} {b : Bool} (h : (ps.drop k).any (fun y => decide (y = x)) = b) (hk : ¬ k < ps.length) : b = false := by
  rw [List.drop_eq_nil_of_le (by omega)] at h
  exact h.symm
theorem par_hit {ps : List ByteArray} {x : ByteArray} {k : Nat} {b : Bool} (h : (ps.drop k).any (fun y => decide (y = x)) = b) (hk : k < ps.length) (hd : ps[k] = x) : b = true := by
  rw [List.drop_eq_getElem_cons hk, List.any_cons] at h
  rw [← h]
  simp [hd]
theorem par_miss {ps : List ByteArray} {x : ByteArray} {k : Nat} {b : Bool} (h : (ps.drop k).any (fun y => decide (y = x)) = b) (hk : k < ps.length) (hd : ¬ ps[k] = x) : (ps.drop (k + 1)).any (fun y => decide (y = x)) = b := by
  rw [List.drop_eq_getElem_cons hk, List.any_cons] at h
  rw [← h]
  simp [hd]
theorem below_of_drew {w w5 : World} (h : Below w.drew.heap.size w.drew w5) : Below w.heap.size w w5 := ⟨h.os, h.tape, h.output, h.size, h.block⟩
theorem below_to_drew (w : World) : Below w.heap.size w w.drew := ⟨rfl, rfl, rfl, Nat.le_refl _, fun _ _ => rfl⟩
theorem cell_of_block {w : World} {R : Nat} {cs : Array Value} {t : TypeId} (h : w.heap[R]? = some (.cells cs t (0, 0))) (i : Nat) (hi : i < cs.size) : w.cell? ⟨R, i, none⟩ = some cs[i] := by
  rw [cell_of_row w R i cs t (0, 0) h]; simp [hi]
theorem free_of_block {w : World} {R : Nat} {cs : Array Value} {t : TypeId} (h : w.heap[R]? = some (.cells cs t (0, 0))) (i : Nat) : w.frozen? ⟨R, i, none⟩ = false := by
  simp [World.frozen?, h]
theorem block_alloc {w : World} {N : Nat} {o : Obj} (h : w.heap[N]? = some o) (o' : Obj) : (w.alloc o').heap[N]? = some o := by
  have hlt : N < w.heap.size := by
    by_cases h' : N < w.heap.size
    · exact h'
    · rw [Array.getElem?_eq_none (by omega)] at h; cases h
  rw [Below.heap_alloc _ _ _ hlt]
  exact h
theorem set_block {w : World} {M : Nat} {cs : Array Value} {t : TypeId} (h : w.heap[M]? = some (.cells cs t (0, 0))) (i : Nat) (v : Value) : (w.setCell ⟨M, i, none⟩ v).heap[M]? = some (.cells (cs.setIfInBounds i v) t (0, 0)) := by
  show (w.heap.modify M _)[M]? = _
  rw [Array.getElem?_modify]
  simp [h]
theorem ownsRow_base {w : World} {b b' : Nat} {e : TypeId} {size : Nat} {v : Value} {n : Nat} {xs : List Value} (h : w.ownsRow b e size v n xs) (hb : ∀ g, v.ownBlock = some g → b' ≤ g) : w.ownsRow b' e size v n xs := by
  obtain ⟨h1, h2⟩ := h
  refine ⟨h1, ?_⟩
  rcases h2 with h2 | ⟨g, cap, cur, hv, hg, r⟩
  · exact Or.inl h2
  · exact Or.inr ⟨g, cap, cur, hv, hb g (by rw [hv]; rfl), r⟩
theorem ownsRow_mono {w : World} {b b' : Nat} {e : TypeId} {size : Nat} {v : Value} {n : Nat} {xs : List Value} (h : w.ownsRow b e size v n xs) (hb : b' ≤ b) : w.ownsRow b' e size v n xs :=
  ownsRow_base h (fun g hg => Nat.le_trans hb (h.lt g hg).1)
theorem alloc2_new (w : World) (o1 o2 : Obj) : ((w.alloc o1).alloc o2).drew.heap[w.heap.size + 1]? = some o2 := by
  show ((w.alloc o1).alloc o2).heap[w.heap.size + 1]? = some o2
  have := heap_alloc_new (w.alloc o1) o2
  simpa using this
theorem grown_keep {wr w1 : World} {o x : Obj} {row : Option Nat} {k : Nat} (hg : (wr.alloc o).grownBy w1 row) (hk : wr.heap[k]? = some x) (hne : row ≠ some k) : w1.heap[k]? = some x := by
  have hlt := block_lt hk
  rw [hg.block k (by simp; omega) (Ne.symm hne), Below.heap_alloc wr o k hlt]
  exact hk
theorem own_ne {w : World} {B B' : Nat} {e e' : TypeId} {size size' n n' : Nat} {v v' : Value} {xs xs' : List Value} (h : w.ownsRow B e size v n xs) (h' : w.ownsRow B' e' size' v' n' xs') (hne : e ≠ e') : ∀ g, v.ownBlock = some g → v'.ownBlock ≠ some g := by
  intro g hg hg'
  rcases h.2 with ⟨rfl, _⟩ | ⟨g1, c1, cur1, hv1, _, hh1, _⟩
  · cases hg
  · rcases h'.2 with ⟨rfl, _⟩ | ⟨g2, c2, cur2, hv2, _, hh2, _⟩
    · cases hg'
    · rw [hv1] at hg
      rw [hv2] at hg'
      simp [Value.ownBlock] at hg hg'
      subst hg
      subst hg'
      rw [hh1] at hh2
      simp at hh2
      exact hne hh2.2
theorem own_grown {w w1 : World} {o : Obj} {row : Option Nat} {B : Nat} {e : TypeId} {size n : Nat} {v : Value} {xs : List Value} (h : w.ownsRow B e size v n xs) (hg : (w.alloc o).grownBy w1 row) (hne : ∀ g, v.ownBlock = some g → row ≠ some g) : w1.ownsRow B e size v n xs := by
  obtain ⟨h1, h2⟩ := h
  refine ⟨h1, ?_⟩
  rcases h2 with h2 | ⟨g, cap, cur, hv, hgB, hh, r⟩
  · exact Or.inl h2
  · exact Or.inr ⟨g, cap, cur, hv, hgB, grown_keep hg hh (hne g (by rw [hv]; rfl)), r⟩

end Go.Proofs.YtbpajiljfppjcaaGreat

