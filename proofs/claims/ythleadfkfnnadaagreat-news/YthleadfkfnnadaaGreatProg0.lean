/- The program's lines in memory. -/
import Derived.Test.YthleadfkfnnadaaGreatRowA
import Derived.Test.YthleadfkfnnadaaGreatLinec
namespace Go.Proofs.YthleadfkfnnadaaGreat
open Go.RowKit
namespace Rt
structure PL where
  toks : List Tk
  form : PForm
  depth : Int
  opener : Int
  proc : Int
def zPL : PL := ⟨[], ⟨0, ⟨#[]⟩, 0, [], [], []⟩, 0, 0, 0⟩
def rdLine (s : ByteArray) : Option PL :=
  match toks s with
  | none => none
  | some ts =>
    match pLineAll ts with
    | none => none
    | some fm => some ⟨ts, fm, 0, 0, 0⟩
def rForms : Nat → List ByteArray → List PL → Nat × List PL
  | _, [], acc => (0, acc)
  | i, s :: r, acc =>
    match rdLine s with
    | none => (i + 1, acc)
    | some pl => rForms (i + 1) r (acc ++ [pl])
structure Blk where
  line : Nat
  kind : Int
  els : Bool
def blkCells (b : Blk) : List Value := [.int .i64 b.line, .int .i64 b.kind, .bool b.els]
def blksCells (bs : List Blk) : List Value := bs.flatMap blkCells
theorem blksCells_snoc (bs : List Blk) (b : Blk) : blksCells (bs ++ [b]) = blksCells bs ++ [.int .i64 b.line, .int .i64 b.kind, .bool b.els] := by simp [blksCells, blkCells]
theorem blksCells_length (bs : List Blk) : (blksCells bs).length = bs.length * 3 := by
  induction bs with
  | nil => rfl
  | cons t r ih => simp only [blksCells, List.flatMap_cons, List.length_append, List.length_cons] at ih ⊢; simp [blkCells] at ih ⊢; omega
def lastOr (bs : List Blk) : Blk := bs.getLastD ⟨0, 0, false⟩
def adm (bs : List Blk) (kind : Int) : Bool :=
  if kind = 0 then true
  else if kind = 1 ∨ kind = 2 ∨ kind = 3 then decide (bs = [])
  else if bs = [] then false
  else if kind = 6 then decide ((lastOr bs).kind = 5) && !(lastOr bs).els
  else true
def passed (bs : List Blk) (n : Nat) (kind : Int) : List Blk :=
  if kind = 3 ∨ kind = 5 ∨ kind = 7 then bs ++ [⟨n, kind, false⟩]
  else if kind = 6 then (if bs = [] then [] else bs.dropLast ++ [⟨(lastOr bs).line, (lastOr bs).kind, true⟩])
  else if kind = 4 then bs.dropLast
  else bs
def firstOr (bs : List Blk) : Blk := bs.headD ⟨0, 0, false⟩
def placed (bs : List Blk) (pl : PL) : PL :=
  if bs = [] then pl
  else if pl.form.kind = 6 ∨ pl.form.kind = 4 then ⟨pl.toks, pl.form, (bs.length : Int) - 1, (lastOr bs).line, (firstOr bs).line⟩
  else ⟨pl.toks, pl.form, bs.length, pl.opener, (firstOr bs).line⟩
def nestFrom : List PL → Nat → List Blk → List PL → Nat × List PL × List Blk
  | [], _, bs, acc => (0, acc, bs)
  | p :: r, n, bs, acc => if adm bs p.form.kind = true then nestFrom r (n + 1) (passed bs n p.form.kind) (acc ++ [placed bs p]) else (n, acc ++ p :: r, bs)
theorem placed_same (bs : List Blk) (p : PL) : (placed bs p).toks = p.toks ∧ (placed bs p).form = p.form := by
  unfold placed
  split
  · exact ⟨rfl, rfl⟩
  · split <;> exact ⟨rfl, rfl⟩
theorem passed_len (bs : List Blk) (n : Nat) (kind : Int) : (passed bs n kind).length ≤ bs.length + 1 := by
  unfold passed
  split
  · simp
  · split
    · split
      · simp
      · simp <;> omega
    · split
      · simp <;> omega
      · omega
def zF : PForm := ⟨0, ⟨#[]⟩, 0, [], [], []⟩
def isDecl (p : PL) (x : ByteArray) : Bool := (decide (p.form.kind = 1) || decide (p.form.kind = 2) || decide (p.form.kind = 3)) && decide (p.form.name = x)
def declFrom : Nat → List PL → ByteArray → Nat
  | _, [], _ => 0
  | n, p :: r, x => if isDecl p x = true then n else declFrom (n + 1) r x
def declP (pls : List PL) (x : ByteArray) : Nat := declFrom 1 (pls.drop 1) x
def formAt (pls : List PL) (n : Int) : PForm := if n < 0 then zF else (pls[n.toNat]?.map (·.form)).getD zF
def declForm (pls : List PL) (x : ByteArray) : PForm := formAt pls (declP pls x)
def isPar (pls : List PL) (proc : Int) (x : ByteArray) : Bool := (formAt pls proc).params.any (fun y => decide (y = x))
def isVar (pls : List PL) (proc : Int) (x : ByteArray) : Bool := isPar pls proc x || decide ((declForm pls x).kind = 1)
def isArr (pls : List PL) (proc : Int) (x : ByteArray) : Bool := !isPar pls proc x && decide ((declForm pls x).kind = 2)
def opFit (pls : List PL) (proc : Int) (o : Pop) : Bool := if o.code = 2 then isVar pls proc o.name else if o.code = 3 then isArr pls proc o.name else true
def exFit (pls : List PL) (proc : Int) (ops : List Pop) : Bool := ops.all (opFit pls proc)
def exsFit (pls : List PL) (p : PL) : Bool := exFit pls p.proc p.form.index && p.form.values.all (exFit pls p.proc)
structure Small (fm : PForm) : Prop where
  params : fm.params.length ≤ 4
  index : fm.index.length ≤ 900
  values : fm.values.length ≤ 900
  each : ∀ o ∈ fm.values, o.length ≤ 900
  cells : 0 ≤ fm.cells ∧ fm.cells ≤ 32
def callFit (pls : List PL) (fm : PForm) : Bool := decide ((declForm pls fm.name).kind = 3) && decide ((declForm pls fm.name).params.length = fm.values.length)
def NoDup (ps : List ByteArray) (k : Nat) : Prop := ∀ i j, j < i → i < k → i < ps.length → ¬ ps[i]? = ps[j]?
def mainWord : List UInt8 := [109, 97, 105, 110]
open Classical in
noncomputable def parFit (fm : PForm) : Bool := !((fm.name.toList == mainWord) && decide (0 < fm.params.length)) && decide (NoDup fm.params fm.params.length)
noncomputable def namFit (pls : List PL) (n : Nat) (p : PL) : Bool :=
  if p.form.kind = 1 ∨ p.form.kind = 2 then decide (declP pls p.form.name = n)
  else if p.form.kind = 3 then decide (declP pls p.form.name = n) && parFit p.form
  else if p.form.kind = 8 ∨ p.form.kind = 11 then isVar pls p.proc p.form.name && exsFit pls p
  else if p.form.kind = 9 then isArr pls p.proc p.form.name && exsFit pls p
  else if p.form.kind = 12 then callFit pls p.form && exsFit pls p
  else exsFit pls p
noncomputable def nameErr (pls : List PL) : Nat → List PL → Nat
  | _, [] => 0
  | n, p :: r => if namFit pls n p = true then nameErr pls (n + 1) r else n
def mainName : ByteArray := ⟨#[109, 97, 105, 110]⟩
theorem small_formAt {pls : List PL} (h : ∀ p ∈ pls, Small p.form) (n : Int) : (formAt pls n).params.length ≤ 1000 := by
  unfold formAt
  split
  · simp [zF]
  · cases e : pls[n.toNat]? with
    | none => simp [zF]
    | some p =>
      have := (h p (List.mem_of_getElem? e)).params
      simp only [Option.map_some, Option.getD_some]
      omega
def stopKind (k : Int) : Bool := decide (k = 8) || decide (k = 9) || decide (k = 10) || decide (k = 11) || decide (k = 5) || decide (k = 7) || decide (k = 12) || decide (k = 13)
def isStopP (pls : List PL) (p : PL) : Bool := if stopKind p.form.kind = true then true else if p.form.kind = 4 then decide ((formAt pls p.opener).kind = 3) else false
def Dec (pf : List Tk → Got) : Prop := ∀ rem em r, pf rem = some (em, r) → em.length + r.length ≤ rem.length
theorem loop_dec {pf : List Tk → Got} (h : Dec pf) (lo hi : Int) : ∀ g, Dec (pLoop pf lo hi g)
  | 0, rem, em, r, e => by simp [pLoop] at e
  | g + 1, [], em, r, e => by simp [pLoop] at e; obtain ⟨rfl, rfl⟩ := e; simp
  | g + 1, t :: rem, em, r, e => by
    rw [pLoop] at e
    split at e
    · cases h1 : pf rem with
      | none => rw [h1] at e; simp at e
      | some x =>
        obtain ⟨e1, r1⟩ := x
        rw [h1] at e
        simp only at e
        cases h2 : pLoop pf lo hi g r1 with
        | none => rw [h2] at e; simp at e
        | some y =>
          obtain ⟨e2, r2⟩ := y
          rw [h2] at e
          simp at e
          have a := h _ _ _ h1
          have b := loop_dec h lo hi g _ _ _ h2
          rw [← e.1, ← e.2]
          simp
          omega
    · simp at e
      obtain ⟨rfl, rfl⟩ := e
      simp
theorem chain_dec {pf : List Tk → Got} (h : Dec pf) (lo hi : Int) : Dec (pChain pf lo hi) := by
  intro rem em r e
  rw [pChain] at e
  cases h1 : pf rem with
  | none => rw [h1] at e; simp at e
  | some x =>
    obtain ⟨e1, r1⟩ := x
    rw [h1] at e
    simp only at e
    cases h2 : pLoop pf lo hi 25 r1 with
    | none => rw [h2] at e; simp [joinE] at e
    | some y =>
      obtain ⟨e2, r2⟩ := y
      rw [h2] at e
      simp [joinE] at e
      have a := h _ _ _ h1
      have b := loop_dec h lo hi 25 _ _ _ h2
      rw [← e.1, ← e.2]
      simp
      omega
theorem comp_dec {pf : List Tk → Got} (h : Dec pf) : Dec (pComp pf) := by
  have hs : Dec (pSum pf) := chain_dec (chain_dec h 7 9) 5 6
  intro rem em r e
  rw [pComp] at e
  cases h1 : pSum pf rem with
  | none => rw [h1] at e; simp at e
  | some x =>
    obtain ⟨e1, r1⟩ := x
    have a := hs _ _ _ h1
    rw [h1] at e
    cases r1 with
    | nil => simp at e; obtain ⟨rfl, rfl⟩ := e; exact a
    | cons t r1 =>
      simp only at e
      split at e
      · cases h2 : pSum pf r1 with
        | none => rw [h2] at e; simp at e
        | some y =>
          obtain ⟨e2, r2⟩ := y
          rw [h2] at e
          simp at e
          have b := hs _ _ _ h2
          rw [← e.1, ← e.2]
          simp at a ⊢
          omega
      · simp at e; rw [← e.1, ← e.2]; exact a
theorem closed_dec {x : ByteArray} {last : List Pop} {y : Got} {em : List Pop} {r : List Tk} (h : closed x last y = some (em, r)) : ∃ e t, y = some (e, t :: r) ∧ em = e ++ last := by
  cases y with
  | none => simp [closed] at h
  | some z =>
    obtain ⟨e, r1⟩ := z
    cases r1 with
    | nil => simp [closed] at h
    | cons t r1 =>
      rw [closed] at h
      split at h
      · simp at h
        exact ⟨e, t, by rw [h.2], h.1.symm⟩
      · cases h
theorem factor_dec : ∀ f, Dec (pFactor f)
  | 0, rem, em, r, e => by simp [pFactor] at e
  | f + 1, [], em, r, e => by simp [pFactor] at e
  | f + 1, t :: rem, em, r, e => by
    have hc : Dec (pComp (pFactor f)) := comp_dec (factor_dec f)
    rw [pFactor] at e
    split at e
    · cases h1 : pFactor f rem with
      | none => rw [h1] at e; simp at e
      | some x =>
        obtain ⟨e1, r1⟩ := x
        rw [h1] at e
        simp at e
        have a := factor_dec f _ _ _ h1
        rw [← e.1, ← e.2]
        simp
        omega
    · split at e
      · obtain ⟨e1, t1, h1, h2⟩ := closed_dec e
        have a := hc _ _ _ h1
        rw [h2]
        simp at a ⊢
        omega
      · split at e
        · simp at e
          rw [← e.1, ← e.2]
          simp
          omega
        · split at e
          · cases rem with
            | nil => simp [pVar] at e; obtain ⟨rfl, rfl⟩ := e; simp
            | cons t1 rem =>
              rw [pVar] at e
              split at e
              · obtain ⟨e1, t2, h1, h2⟩ := closed_dec e
                have a := hc _ _ _ h1
                rw [h2]
                simp at a ⊢
                omega
              · simp at e
                rw [← e.1, ← e.2]
                simp
                omega
          · cases e
theorem expr_dec : Dec pExpr := comp_dec (factor_dec 24)
theorem args_dec : ∀ (f : Nat) (acc : List (List Pop)) (rem : List Tk) (vs : List (List Pop)) (r : List Tk), pArgs f acc rem = some (vs, r) → rem.length ≤ 24 → acc.length + f ≤ 25 → (∀ o ∈ acc, o.length ≤ 900) → vs.length ≤ 25 ∧ ∀ o ∈ vs, o.length ≤ 900
  | 0, _, _, _, _, h, _, _, _ => by simp [pArgs] at h
  | f + 1, acc, rem, vs, r, h, h1, h2, h3 => by
    rw [pArgs] at h
    cases e : pExpr rem with
    | none => rw [e] at h; simp at h
    | some x =>
      obtain ⟨em, r1⟩ := x
      rw [e] at h
      simp only at h
      have a := expr_dec _ _ _ e
      have h3' : ∀ o ∈ acc ++ [em], o.length ≤ 900 := by
        intro o ho
        simp at ho
        rcases ho with ho | rfl
        · exact h3 o ho
        · omega
      cases e2 : pTake ⟨#[44]⟩ r1 with
      | none =>
        rw [e2] at h
        simp at h
        rw [← h.1]
        exact ⟨by simp; omega, h3'⟩
      | some r2 =>
        rw [e2] at h
        simp only at h
        have hr2 : r2.length ≤ r1.length := by
          cases r1 with
          | nil => simp [pTake] at e2
          | cons t r1 => simp [pTake] at e2; rw [e2.2]; simp
        exact args_dec f (acc ++ [em]) r2 vs r h (by omega) (by simp; omega) h3'
theorem params_dec : ∀ (rem : List Tk) (acc ps : List ByteArray), pParams acc rem = some ps → acc.length ≤ 4 → ps.length ≤ 4
  | [], acc, ps, h, h1 => by simp [pParams] at h; rw [← h]; exact h1
  | t :: r, acc, ps, h, h1 => by
    rw [pParams] at h
    split at h
    · next hc => exact params_dec r (acc ++ [t.text]) ps h (by simp; omega)
    · cases h
theorem name_len {rem r : List Tk} {nm : ByteArray} (h : pName rem = some (nm, r)) : r.length ≤ rem.length := by
  cases rem with
  | nil => simp [pName] at h
  | cons t rem =>
    rw [pName] at h
    split at h
    · simp at h; rw [← h.2]; simp
    · cases h
theorem take_len {x : ByteArray} {rem r : List Tk} (h : pTake x rem = some r) : r.length ≤ rem.length := by
  cases rem with
  | nil => simp [pTake] at h
  | cons t rem =>
    rw [pTake] at h
    split at h
    · simp at h; rw [← h]; simp
    · cases h
theorem small_plain (k : Int) (nm : ByteArray) (c : Int) (hc : 0 ≤ c ∧ c ≤ 32) : Small ⟨k, nm, c, [], [], []⟩ := ⟨by simp, by simp, by simp, by simp, hc⟩
theorem to_small {kind : Int} {nm : ByteArray} {ix : List Pop} {rem r : List Tk} {fm : PForm} (h : pTo kind nm ix rem = some (fm, r)) (hl : rem.length ≤ 24) (hi : ix.length ≤ 900) : Small fm := by
  rw [pTo] at h
  cases e : pTake ⟨#[116, 111]⟩ rem with
  | none => rw [e] at h; simp at h
  | some r1 =>
    rw [e] at h
    simp only at h
    have a := take_len e
    cases e2 : pExpr r1 with
    | none => rw [e2] at h; simp at h
    | some y =>
      obtain ⟨em, r2⟩ := y
      rw [e2] at h
      simp at h
      have b := expr_dec _ _ _ e2
      rw [← h.1]
      exact ⟨by simp, hi, by simp, by simp; omega, by simp⟩
theorem line_small {first : ByteArray} {rem r : List Tk} {fm : PForm} (h : pLine first rem = some (fm, r)) (hl : rem.length ≤ 24) : Small fm := by
  have named : ∀ k, pNamed k rem = some (fm, r) → Small fm := by
    intro k h
    rw [pNamed] at h
    cases e : pName rem with
    | none => rw [e] at h; simp at h
    | some x => obtain ⟨nm, r1⟩ := x; rw [e] at h; simp at h; rw [← h.1]; exact small_plain _ _ _ (by omega)
  have valued : ∀ k, pValued k rem = some (fm, r) → Small fm := by
    intro k h
    rw [pValued] at h
    cases e : pExpr rem with
    | none => rw [e] at h; simp at h
    | some x =>
      obtain ⟨em, r1⟩ := x
      rw [e] at h
      simp at h
      have b := expr_dec _ _ _ e
      rw [← h.1]
      exact ⟨by simp, by simp, by simp, by simp; omega, by simp⟩
  have plain : ∀ k : Int, (some ((⟨k, ⟨#[]⟩, 0, [], [], []⟩ : PForm), rem) : GotF) = some (fm, r) → Small fm := by
    intro k h
    simp at h
    rw [← h.1]
    exact small_plain _ _ _ (by omega)
  rw [pLine] at h
  by_cases h1 : (first.toList == [118, 97, 114]) = true
  · rw [if_pos h1] at h; exact named _ h
  rw [if_neg h1] at h
  by_cases h2 : (first.toList == [97, 114, 114, 97, 121]) = true
  · rw [if_pos h2, pArray] at h
    cases e : pName rem with
    | none => rw [e] at h; simp at h
    | some x =>
      obtain ⟨nm, r1⟩ := x
      rw [e] at h
      simp only at h
      cases e2 : pNumber r1 with
      | none => rw [e2] at h; simp at h
      | some y =>
        obtain ⟨v, r2⟩ := y
        rw [e2] at h
        simp only at h
        split at h
        · cases h
        · next hv => simp at h; rw [← h.1]; exact small_plain _ _ _ (by omega)
  rw [if_neg h2] at h
  by_cases h3 : (first.toList == [112, 114, 111, 99]) = true
  · rw [if_pos h3, pProc] at h
    cases e : pName rem with
    | none => rw [e] at h; simp at h
    | some x =>
      obtain ⟨nm, r1⟩ := x
      rw [e] at h
      simp only at h
      cases e2 : pParams [] r1 with
      | none => rw [e2] at h; simp at h
      | some ps =>
        rw [e2] at h
        simp at h
        have b := params_dec _ _ _ e2 (by simp)
        rw [← h.1]
        exact ⟨by simp; omega, by simp, by simp, by simp, by simp⟩
  rw [if_neg h3] at h
  by_cases h4 : (first.toList == [101, 110, 100]) = true
  · rw [if_pos h4] at h; exact plain _ h
  rw [if_neg h4] at h
  by_cases h5 : (first.toList == [105, 102]) = true
  · rw [if_pos h5] at h; exact valued _ h
  rw [if_neg h5] at h
  by_cases h6 : (first.toList == [101, 108, 115, 101]) = true
  · rw [if_pos h6] at h; exact plain _ h
  rw [if_neg h6] at h
  by_cases h7 : (first.toList == [119, 104, 105, 108, 101]) = true
  · rw [if_pos h7] at h; exact valued _ h
  rw [if_neg h7] at h
  by_cases h8 : (first.toList == [115, 101, 116]) = true
  · rw [if_pos h8, pSet] at h
    cases e : pName rem with
    | none => rw [e] at h; simp at h
    | some x =>
      obtain ⟨nm, r1⟩ := x
      rw [e] at h
      simp only at h
      have a := name_len e
      cases e2 : pTake ⟨#[91]⟩ r1 with
      | none => rw [e2] at h; exact to_small h (by omega) (by simp)
      | some r2 =>
        rw [e2] at h
        simp only at h
        have b := take_len e2
        cases e3 : pExpr r2 with
        | none => rw [e3] at h; simp at h
        | some y =>
          obtain ⟨ix, r3⟩ := y
          rw [e3] at h
          simp only at h
          have c := expr_dec _ _ _ e3
          cases e4 : pTake ⟨#[93]⟩ r3 with
          | none => rw [e4] at h; simp at h
          | some r4 =>
            rw [e4] at h
            have d := take_len e4
            exact to_small h (by omega) (by omega)
  rw [if_neg h8] at h
  by_cases h9 : (first.toList == [112, 114, 105, 110, 116]) = true
  · rw [if_pos h9] at h; exact valued _ h
  rw [if_neg h9] at h
  by_cases h10 : (first.toList == [114, 101, 97, 100]) = true
  · rw [if_pos h10] at h; exact named _ h
  rw [if_neg h10] at h
  by_cases h11 : (first.toList == [99, 97, 108, 108]) = true
  · rw [if_pos h11, pCall] at h
    cases e : pName rem with
    | none => rw [e] at h; simp at h
    | some x =>
      obtain ⟨nm, r1⟩ := x
      rw [e] at h
      simp only at h
      have a := name_len e
      cases e2 : pArgsAll r1 with
      | none => rw [e2] at h; simp at h
      | some y =>
        obtain ⟨vs, r2⟩ := y
        rw [e2] at h
        simp at h
        rw [← h.1]
        rw [pArgsAll] at e2
        split at e2
        · simp at e2; obtain ⟨rfl, _⟩ := e2; exact small_plain _ _ _ (by omega)
        · obtain ⟨g1, g2⟩ := args_dec _ _ _ _ _ e2 (by omega) (by simp) (by simp)
          exact ⟨by simp, by simp, by simp; omega, g2, by simp⟩
  rw [if_neg h11] at h
  by_cases h12 : (first.toList == [114, 101, 116, 117, 114, 110]) = true
  · rw [if_pos h12] at h; exact plain _ h
  rw [if_neg h12] at h
  cases h
theorem rdLine_small {s : ByteArray} {p : PL} (hs : s.size ≤ 40000) (h : rdLine s = some p) : Small p.form := by
  rw [rdLine] at h
  cases e : toks s with
  | none => rw [e] at h; simp at h
  | some ts =>
    rw [e] at h
    simp only at h
    have hf := (toks_facts hs e).1
    cases e2 : pLineAll ts with
    | none => rw [e2] at h; simp at h
    | some fm =>
      rw [e2] at h
      simp at h
      rw [← h]
      cases ts with
      | nil => simp [pLineAll] at e2; rw [← e2]; exact small_plain _ _ _ (by omega)
      | cons t r =>
        rw [pLineAll] at e2
        cases e3 : pLine t.text r with
        | none => rw [e3] at e2; simp at e2
        | some y =>
          obtain ⟨fm', r'⟩ := y
          rw [e3] at e2
          simp only at e2
          split at e2
          · simp at e2; rw [← e2]; exact line_small e3 (by simp at hf; omega)
          · cases e2
theorem rForms_facts : ∀ (texts : List ByteArray) (i : Nat) (acc pls : List PL), (∀ t ∈ texts, t.size ≤ 40000) → (∀ p ∈ acc, Small p.form) → rForms i texts acc = (0, pls) → pls.length = acc.length + texts.length ∧ (∀ p ∈ pls, Small p.form) ∧ ∃ rest, pls = acc ++ rest
  | [], _, acc, pls, _, h2, h => by simp [rForms] at h; rw [← h]; exact ⟨by simp, h2, [], by simp⟩
  | s :: r, i, acc, pls, h1, h2, h => by
    rw [rForms] at h
    cases e : rdLine s with
    | none => rw [e] at h; simp at h
    | some p =>
      rw [e] at h
      simp only at h
      obtain ⟨a, b, rest, c⟩ := rForms_facts r (i + 1) (acc ++ [p]) pls (fun t ht => h1 t (by simp [ht])) (fun q hq => by
        simp at hq
        rcases hq with hq | rfl
        · exact h2 q hq
        · exact rdLine_small (h1 s (by simp)) e) h
      exact ⟨by simp at a ⊢; omega, b, p :: rest, by rw [c]; simp⟩
theorem nest_facts : ∀ (rem : List PL) (n : Nat) (bs : List Blk) (acc : List PL) (ls : List PL) (b2 : List Blk), (∀ p ∈ acc, Small p.form) → (∀ p ∈ rem, Small p.form) → nestFrom rem n bs acc = (0, ls, b2) → 0 < n → ls.length = acc.length + rem.length ∧ ∀ p ∈ ls, Small p.form
  | [], _, _, acc, ls, _, h1, _, h, _ => by simp [nestFrom] at h; rw [← h.1]; exact ⟨by simp, h1⟩
  | p :: r, n, bs, acc, ls, b2, h1, h2, h, hn => by
    rw [nestFrom] at h
    split at h
    · obtain ⟨a, b⟩ := nest_facts r (n + 1) _ (acc ++ [placed bs p]) ls b2 (fun q hq => by
        simp at hq
        rcases hq with hq | rfl
        · exact h1 q hq
        · rw [(placed_same bs p).2]; exact h2 p (by simp)) (fun q hq => h2 q (by simp [hq])) h (by omega)
      exact ⟨by simp at a ⊢; omega, b⟩
    · simp at h; omega
noncomputable def readNames (ls : List PL) : Int × Int × List PL :=
  if ¬ nameErr ls 1 (ls.drop 1) = 0 then (4, nameErr ls 1 (ls.drop 1), [])
  else if ¬ (declForm ls mainName).kind = 3 then (4, 0, [])
  else (0, 0, ls)
noncomputable def readNest (er : Nat) (ls : List PL) (bs : List Blk) (len : Nat) : Int × Int × List PL :=
  if ¬ er = 0 then (3, er, []) else if ¬ bs = [] then (3, len, []) else readNames ls
noncomputable def readForms (ln : Nat) (pls : List PL) (len : Nat) : Int × Int × List PL :=
  if ¬ ln = 0 then (2, ln, [])
  else readNest (nestFrom (pls.drop 1) 1 [] [zPL]).1 (nestFrom (pls.drop 1) 1 [] [zPL]).2.1 (nestFrom (pls.drop 1) 1 [] [zPL]).2.2 len
noncomputable def readS (s : ByteArray) : Int × Int × List PL :=
  if tooLong s = true then (1, 0, []) else readForms (rForms 0 (lines s) [zPL]).1 (rForms 0 (lines s) [zPL]).2 (lines s).length
end Rt
def lineCells (tv : Value) (fv : Array Value) (xe xf : Int) (pl : Rt.PL) : List Value := tv :: (fv.toList ++ [.int .i64 pl.depth, .int .i64 pl.opener, .int .i64 xe, .int .i64 xf, .int .i64 pl.proc])
def LineV (w : World) (B : Nat) (pl : Rt.PL) (c : List Value) : Prop :=
  ∃ tv fv xe xf, c = lineCells tv fv xe xf pl ∧ w.ownsRow B 188 2 tv pl.toks.length (Rt.toksCells pl.toks) ∧ FormV w B fv pl.form
def LinesV (w : World) (B : Nat) : List Rt.PL → List (List Value) → Prop
  | [], [] => True
  | p :: ps, c :: cs => LineV w B p c ∧ LinesV w B ps cs
  | _, _ => False
def Keeps (w w' : World) (B B' : Nat) : Prop := ∀ (t : TypeId) (size n : Nat) (v : Value) (xs : List Value), t ≠ 145 → w.ownsRow B t size v n xs → w'.ownsRow B' t size v n xs
theorem Keeps.exprs {w w' : World} {B B' : Nat} (hx : Keeps w w' B B') : ∀ xs os, ExprsR w B xs os → ExprsR w' B' xs os
  | [], [], _ => trivial
  | _ :: xs, _ :: os, ⟨h1, h2⟩ => ⟨hx _ _ _ _ _ (by decide) h1, hx.exprs xs os h2⟩
  | [], _ :: _, h => h.elim
  | _ :: _, [], h => h.elim
theorem Keeps.form {w w' : World} {B B' : Nat} (hx : Keeps w w' B B') {v : Array Value} {fm : Rt.PForm} (h : FormV w B v fm) : FormV w' B' v fm := by
  obtain ⟨pv, iv, vv, vs, rfl, h1, h2, h3, h4⟩ := h
  exact ⟨pv, iv, vv, vs, rfl, hx _ _ _ _ _ (by decide) h1, hx _ _ _ _ _ (by decide) h2, hx _ _ _ _ _ (by decide) h3, hx.exprs _ _ h4⟩
theorem Keeps.line {w w' : World} {B B' : Nat} (hx : Keeps w w' B B') {pl : Rt.PL} {c : List Value} (h : LineV w B pl c) : LineV w' B' pl c := by
  obtain ⟨tv, fv, xe, xf, rfl, h1, h2⟩ := h
  exact ⟨tv, fv, xe, xf, rfl, hx _ _ _ _ _ (by decide) h1, hx.form h2⟩
theorem Keeps.lines {w w' : World} {B B' : Nat} (hx : Keeps w w' B B') : ∀ ps cs, LinesV w B ps cs → LinesV w' B' ps cs
  | [], [], _ => trivial
  | _ :: ps, _ :: cs, ⟨h1, h2⟩ => ⟨hx.line h1, hx.lines ps cs h2⟩
  | [], _ :: _, h => h.elim
  | _ :: _, [], h => h.elim
theorem LinesV.snoc {w : World} {B : Nat} {p : Rt.PL} {c : List Value} (h : LineV w B p c) : ∀ ps cs, LinesV w B ps cs → LinesV w B (ps ++ [p]) (cs ++ [c])
  | [], [], _ => ⟨h, trivial⟩
  | _ :: ps, _ :: cs, ⟨h1, h2⟩ => ⟨h1, LinesV.snoc h ps cs h2⟩
  | [], _ :: _, h => h.elim
  | _ :: _, [], h => h.elim
theorem keeps_later {w w' : World} {B : Nat} (hb : Below w.heap.size w w') : Keeps w w' B B := fun _ _ _ _ _ _ h => own_later h hb
structure ProgS (w : World) (P : Nat) (pls : List Rt.PL) (lv : Value) (cs : List (List Value)) : Prop where
  block : w.heap[P]? = some (.cells #[lv] 76 (0, 0))
  own : w.ownsRow (P + 1) 145 12 lv pls.length cs.flatten
  lines : LinesV w (P + 1) pls cs
theorem ProgS.later {w w' : World} {P : Nat} {pls : List Rt.PL} {lv : Value} {cs : List (List Value)} (h : ProgS w P pls lv cs) (hb : Below w.heap.size w w') : ProgS w' P pls lv cs :=
  ⟨block_later h.block hb, own_later h.own hb, (keeps_later hb).lines _ _ h.lines⟩
theorem Tryz.infoLine : (Tryz.prog.info? 145).map (fun i => (i.zero, i.size, i.bytes)) = some (some (.agg #[.slice none 0 0, .int .i64 0, .string ⟨#[]⟩, .int .i64 0, .slice none 0 0, .slice none 0 0, .slice none 0 0, .int .i64 0, .int .i64 0, .int .i64 0, .int .i64 0, .int .i64 0]), 12, 168) := by kernel_rfl
end Go.Proofs.YthleadfkfnnadaaGreat
