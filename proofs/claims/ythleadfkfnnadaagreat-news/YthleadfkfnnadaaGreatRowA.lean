/- Several rows that lie apart: what keeps them, what writes into one of them. -/
import Derived.Test.YthleadfkfnnadaaGreatRfDefs
import Derived.Test.YthleadfkfnnadaaGreatRefI
namespace Go.Proofs.YthleadfkfnnadaaGreat
namespace Rf
theorem isLine_pos {t : List ByteArray} (h : 0 < t.length) : isLine t = isKind t (first t).toList := by rw [isLine, if_neg (by omega)]
theorem first_empty {t : List ByteArray} (h : t.length = 0) : (first t).toList = [] := by
  have : t = [] := List.eq_nil_of_length_eq_zero h
  subst this
  simp [first, at']
theorem top_two {t : List ByteArray} (h : isLine t = true) (ht : topB t = true) : 2 ≤ t.length := by
  have hp : 0 < t.length := by
    by_cases h0 : 0 < t.length
    · exact h0
    · have := first_empty (t := t) (by omega)
      simp [topB, this] at ht
  rw [isLine_pos hp] at h
  unfold topB at ht
  simp only [Bool.or_eq_true, beq_iff_eq] at ht
  rcases ht with (ht | ht) | ht
  · rw [ht] at h
    simp [isKind] at h
    omega
  · rw [ht] at h
    simp [isKind, isArray] at h
    omega
  · rw [ht] at h
    simp [isKind] at h
    omega
theorem call_two {t : List ByteArray} (h : isLine t = true) (ht : ((first t).toList == [99, 97, 108, 108]) = true) : 2 ≤ t.length := by
  rw [beq_iff_eq] at ht
  have hp : 0 < t.length := by
    by_cases h0 : 0 < t.length
    · exact h0
    · have := first_empty (t := t) (by omega)
      rw [this] at ht
      cases ht
  rw [isLine_pos hp, ht] at h
  simp [isKind, isCall] at h
  exact h.1
end Rf
namespace Rt
open Go.RowKit
def valTo (s : ByteArray) : Nat → Int
  | 0 => 0
  | k + 1 => wrap64 (wrap64 (valTo s k * 10) + (byteAt s k - 48) % 256)
def val (s : ByteArray) : Int := valTo s s.size
end Rt
end Go.Proofs.YthleadfkfnnadaaGreat
namespace Go.Proofs.YthleadfkfnnadaaGreat
open Go.RowKit
structure Pop where
  code : Int
  number : Int
  name : ByteArray
namespace Rt
abbrev Got := Option (List Pop × List Tk)
def pLoop (pf : List Tk → Got) (lo hi : Int) : Nat → List Tk → Got
  | 0, _ => none
  | _ + 1, [] => some ([], [])
  | g + 1, t :: r =>
    if lo ≤ opCode t.text ∧ opCode t.text ≤ hi then
      match pf r with
      | none => none
      | some (e, r') =>
        match pLoop pf lo hi g r' with
        | none => none
        | some (e', r'') => some (e ++ ⟨opCode t.text, 0, ⟨#[]⟩⟩ :: e', r'')
    else some ([], t :: r)
def joinE (em : List Pop) : Got → Got
  | none => none
  | some (e, r) => some (em ++ e, r)
def pChain (pf : List Tk → Got) (lo hi : Int) (rem : List Tk) : Got :=
  match pf rem with
  | none => none
  | some (e, r) => joinE e (pLoop pf lo hi 25 r)
def pTerm (pf : List Tk → Got) : List Tk → Got := pChain pf 7 9
def pSum (pf : List Tk → Got) : List Tk → Got := pChain (pTerm pf) 5 6
def pComp (pf : List Tk → Got) (rem : List Tk) : Got :=
  match pSum pf rem with
  | none => none
  | some (e, []) => some (e, [])
  | some (e, t :: r) =>
    if 10 ≤ opCode t.text ∧ opCode t.text ≤ 11 then
      match pSum pf r with
      | none => none
      | some (e', r') => some (e ++ e' ++ [⟨opCode t.text, 0, ⟨#[]⟩⟩], r')
    else some (e, t :: r)
def closed (x : ByteArray) (last : List Pop) : Got → Got
  | none => none
  | some (_, []) => none
  | some (e, t :: r) => if t.text = x then some (e ++ last, r) else none
def pVar (pc : List Tk → Got) (name : ByteArray) : List Tk → Got
  | [] => some ([⟨2, 0, name⟩], [])
  | t :: r => if t.text = ⟨#[91]⟩ then closed ⟨#[93]⟩ [⟨3, 0, name⟩] (pc r) else some ([⟨2, 0, name⟩], t :: r)
def pFactor : Nat → List Tk → Got
  | 0, _ => none
  | _ + 1, [] => none
  | f + 1, t :: r =>
    if t.text = ⟨#[45]⟩ then
      match pFactor f r with
      | none => none
      | some (e, r') => some (e ++ [⟨4, 0, ⟨#[]⟩⟩], r')
    else if t.text = ⟨#[40]⟩ then closed ⟨#[41]⟩ [] (pComp (pFactor f) r)
    else if t.kind = 2 then some ([⟨1, val t.text, ⟨#[]⟩⟩], r)
    else if t.kind = 1 ∧ resv t.text = false then pVar (pComp (pFactor f)) t.text r
    else none
def pExpr (rem : List Tk) : Got := pComp (pFactor 24) rem
structure PForm where
  kind : Int
  name : ByteArray
  cells : Int
  params : List ByteArray
  index : List Pop
  values : List (List Pop)
def pName : List Tk → Option (ByteArray × List Tk)
  | [] => none
  | t :: r => if t.kind = 1 ∧ resv t.text = false then some (t.text, r) else none
abbrev GotF := Option (PForm × List Tk)
def pNamed (kind : Int) (rem : List Tk) : GotF :=
  match pName rem with
  | none => none
  | some (nm, r) => some (⟨kind, nm, 0, [], [], []⟩, r)
def pValued (kind : Int) (rem : List Tk) : GotF :=
  match pExpr rem with
  | none => none
  | some (e, r) => some (⟨kind, ⟨#[]⟩, 0, [], [], [e]⟩, r)
def pNumber : List Tk → Option (Int × List Tk)
  | [] => none
  | t :: r => if t.kind = 2 then some (val t.text, r) else none
def pArray (rem : List Tk) : GotF :=
  match pName rem with
  | none => none
  | some (nm, r) =>
    match pNumber r with
    | none => none
    | some (v, r') => if v < 1 ∨ 32 < v then none else some (⟨2, nm, v, [], [], []⟩, r')
def pParams (acc : List ByteArray) : List Tk → Option (List ByteArray)
  | [] => some acc
  | t :: r => if (t.kind = 1 ∧ resv t.text = false) ∧ acc.length < 4 then pParams (acc ++ [t.text]) r else none
def pProc (rem : List Tk) : GotF :=
  match pName rem with
  | none => none
  | some (nm, r) =>
    match pParams [] r with
    | none => none
    | some ps => some (⟨3, nm, 0, ps, [], []⟩, [])
def pTake (x : ByteArray) : List Tk → Option (List Tk)
  | [] => none
  | t :: r => if t.text = x then some r else none
def pTo (kind : Int) (nm : ByteArray) (ix : List Pop) (rem : List Tk) : GotF :=
  match pTake ⟨#[116, 111]⟩ rem with
  | none => none
  | some r =>
    match pExpr r with
    | none => none
    | some (e, r') => some (⟨kind, nm, 0, [], ix, [e]⟩, r')
def pSet (rem : List Tk) : GotF :=
  match pName rem with
  | none => none
  | some (nm, r) =>
    match pTake ⟨#[91]⟩ r with
    | none => pTo 8 nm [] r
    | some r1 =>
      match pExpr r1 with
      | none => none
      | some (ix, r2) =>
        match pTake ⟨#[93]⟩ r2 with
        | none => none
        | some r3 => pTo 9 nm ix r3
theorem to_none {kind : Int} {nm : ByteArray} {ix : List Pop} {rem : List Tk} (h : pTake ⟨#[116, 111]⟩ rem = none) : pTo kind nm ix rem = none := by rw [pTo, h]
theorem to_no {kind : Int} {nm : ByteArray} {ix : List Pop} {rem r : List Tk} (h : pTake ⟨#[116, 111]⟩ rem = some r) (h2 : pExpr r = none) : pTo kind nm ix rem = none := by rw [pTo, h]; simp only; rw [h2]
theorem to_ok {kind : Int} {nm : ByteArray} {ix e : List Pop} {rem r r' : List Tk} (h : pTake ⟨#[116, 111]⟩ rem = some r) (h2 : pExpr r = some (e, r')) : pTo kind nm ix rem = some (⟨kind, nm, 0, [], ix, [e]⟩, r') := by rw [pTo, h]; simp only; rw [h2]
theorem set_a {rem r : List Tk} {nm : ByteArray} {x : GotF} (h : pName rem = some (nm, r)) (h2 : pTake ⟨#[91]⟩ r = none) (h3 : pTo 8 nm [] r = x) : pSet rem = x := by rw [pSet, h]; simp only; rw [h2]; exact h3
theorem set_b {rem r r1 r2 r3 : List Tk} {nm : ByteArray} {ix : List Pop} {x : GotF} (h : pName rem = some (nm, r)) (h2 : pTake ⟨#[91]⟩ r = some r1) (h3 : pExpr r1 = some (ix, r2)) (h4 : pTake ⟨#[93]⟩ r2 = some r3) (h5 : pTo 9 nm ix r3 = x) : pSet rem = x := by
  rw [pSet, h]; simp only; rw [h2]; simp only; rw [h3]; simp only; rw [h4]; exact h5
theorem set_c {rem r r1 r2 : List Tk} {nm : ByteArray} {ix : List Pop} (h : pName rem = some (nm, r)) (h2 : pTake ⟨#[91]⟩ r = some r1) (h3 : pExpr r1 = some (ix, r2)) (h4 : pTake ⟨#[93]⟩ r2 = none) : pSet rem = none := by
  rw [pSet, h]; simp only; rw [h2]; simp only; rw [h3]; simp only; rw [h4]
theorem set_d {rem r r1 : List Tk} {nm : ByteArray} (h : pName rem = some (nm, r)) (h2 : pTake ⟨#[91]⟩ r = some r1) (h3 : pExpr r1 = none) : pSet rem = none := by
  rw [pSet, h]; simp only; rw [h2]; simp only; rw [h3]
def pArgs : Nat → List (List Pop) → List Tk → Option (List (List Pop) × List Tk)
  | 0, _, _ => none
  | f + 1, acc, rem =>
    match pExpr rem with
    | none => none
    | some (e, r) =>
      match pTake ⟨#[44]⟩ r with
      | none => some (acc ++ [e], r)
      | some r' => pArgs f (acc ++ [e]) r'
def pArgsAll (r : List Tk) : Option (List (List Pop) × List Tk) := if r = [] then some ([], r) else pArgs 25 [] r
def pCall (rem : List Tk) : GotF :=
  match pName rem with
  | none => none
  | some (nm, r) =>
    match pArgsAll r with
    | none => none
    | some (vs, r') => some (⟨12, nm, 0, [], [], vs⟩, r')
theorem args_none {f : Nat} {acc : List (List Pop)} {rem : List Tk} (h : pExpr rem = none) : pArgs (f + 1) acc rem = none := by rw [pArgs, h]
theorem args_stop {f : Nat} {acc : List (List Pop)} {rem r : List Tk} {e : List Pop} (h : pExpr rem = some (e, r)) (h2 : pTake ⟨#[44]⟩ r = none) : pArgs (f + 1) acc rem = some (acc ++ [e], r) := by rw [pArgs, h]; simp only; rw [h2]
theorem args_next {f : Nat} {acc : List (List Pop)} {rem r r' : List Tk} {e : List Pop} (h : pExpr rem = some (e, r)) (h2 : pTake ⟨#[44]⟩ r = some r') : pArgs (f + 1) acc rem = pArgs f (acc ++ [e]) r' := by rw [pArgs, h]; simp only; rw [h2]
theorem call_none {rem r : List Tk} {nm : ByteArray} (h : pName rem = some (nm, r)) (h2 : pArgsAll r = none) : pCall rem = none := by rw [pCall, h]; simp only; rw [h2]
theorem call_some {rem r r' : List Tk} {nm : ByteArray} {vs : List (List Pop)} (h : pName rem = some (nm, r)) (h2 : pArgsAll r = some (vs, r')) : pCall rem = some (⟨12, nm, 0, [], [], vs⟩, r') := by rw [pCall, h]; simp only; rw [h2]
def pLine (first : ByteArray) (rem : List Tk) : GotF :=
  if first.toList == [118, 97, 114] then pNamed 1 rem
  else if first.toList == [97, 114, 114, 97, 121] then pArray rem
  else if first.toList == [112, 114, 111, 99] then pProc rem
  else if first.toList == [101, 110, 100] then some (⟨4, ⟨#[]⟩, 0, [], [], []⟩, rem)
  else if first.toList == [105, 102] then pValued 5 rem
  else if first.toList == [101, 108, 115, 101] then some (⟨6, ⟨#[]⟩, 0, [], [], []⟩, rem)
  else if first.toList == [119, 104, 105, 108, 101] then pValued 7 rem
  else if first.toList == [115, 101, 116] then pSet rem
  else if first.toList == [112, 114, 105, 110, 116] then pValued 10 rem
  else if first.toList == [114, 101, 97, 100] then pNamed 11 rem
  else if first.toList == [99, 97, 108, 108] then pCall rem
  else if first.toList == [114, 101, 116, 117, 114, 110] then some (⟨13, ⟨#[]⟩, 0, [], [], []⟩, rem)
  else none
def pLineAll : List Tk → Option PForm
  | [] => some ⟨0, ⟨#[]⟩, 0, [], [], []⟩
  | t :: r =>
    match pLine t.text r with
    | none => none
    | some (fm, r') => if r' = [] then some fm else none
theorem toksCells_get : ∀ (ts : List Tk) (i : Nat) (h : i < ts.length), (toksCells ts)[i * 2]? = some (.int .i64 ts[i].kind) ∧ (toksCells ts)[i * 2 + 1]? = some (.string ts[i].text)
  | [], i, h => by simp at h
  | t :: r, 0, _ => by simp [toksCells, tkCells]
  | t :: r, i + 1, h => by
    have ih := toksCells_get r i (by simpa using h)
    have e : toksCells (t :: r) = [Value.int .i64 t.kind, Value.string t.text] ++ toksCells r := by simp [toksCells, tkCells]
    have e2 : (i + 1) * 2 = i * 2 + 2 := by omega
    rw [e, e2]
    simpa using ih
theorem toksFrom_facts (s : ByteArray) (hs : s.size ≤ 40000) : ∀ (f a : Nat) (acc ts : List Tk), acc.length ≤ 24 → (∀ t ∈ acc, t.text.size ≤ 40000) → toksFrom s f a acc = some ts → ts.length ≤ 24 ∧ ∀ t ∈ ts, t.text.size ≤ 40000
  | 0, _, _, _, _, _, h => by simp [toksFrom] at h
  | f + 1, a, acc, ts, h1, h2, h => by
    rw [toksFrom] at h
    split at h
    · split at h
      · exact toksFrom_facts s hs f _ _ _ h1 h2 h
      · split at h
        · cases h
        · next hc =>
          refine toksFrom_facts s hs f _ _ _ (by simp; omega) ?_ h
          intro t ht
          simp at ht
          rcases ht with ht | rfl
          · exact h2 t ht
          · simp [ByteArray.size_extract]; omega
    · simp at h
      subst h
      exact ⟨h1, h2⟩
theorem toks_facts {s : ByteArray} {ts : List Tk} (hs : s.size ≤ 40000) (h : toks s = some ts) : ts.length ≤ 24 ∧ ∀ t ∈ ts, t.text.size ≤ 40000 :=
  toksFrom_facts s hs _ _ _ _ (by simp) (by simp) h
theorem linesFrom_facts (s : ByteArray) (hs : s.size ≤ 40000) : ∀ (f a i : Nat) (acc : List ByteArray), (∀ t ∈ acc, t.size ≤ 40000) → (∀ t ∈ linesFrom s f a i acc, t.size ≤ 40000)
  | 0, _, _, acc, h => by simpa [linesFrom] using h
  | f + 1, a, i, acc, h => by
    rw [linesFrom]
    split
    · split
      · refine linesFrom_facts s hs f _ _ _ ?_
        intro t ht
        simp at ht
        rcases ht with ht | rfl
        · exact h t ht
        · simp [ByteArray.size_extract]; omega
      · exact linesFrom_facts s hs f _ _ _ h
    · intro t ht
      simp at ht
      rcases ht with ht | rfl
      · exact h t ht
      · simp [ByteArray.size_extract]; omega
theorem lines_facts {s : ByteArray} (hs : s.size ≤ 40000) : ∀ t ∈ lines s, t.size ≤ 40000 := linesFrom_facts s hs _ _ _ _ (by simp)
theorem linesFrom_len (s : ByteArray) : ∀ (f a i : Nat) (acc : List ByteArray), i ≤ s.size → s.size < f + i → (linesFrom s f a i acc).length + nls s i = acc.length + 1 + nls s s.size
  | 0, _, _, _, h, h2 => by omega
  | f + 1, a, i, acc, h, h2 => by
    rw [linesFrom]
    split
    · next hlt =>
      have hn : nls s (i + 1) = nls s i + (if byteAt s i = 10 then 1 else 0) := rfl
      split
      · next hb =>
        have := linesFrom_len s f (i + 1) (i + 1) (acc ++ [s.extract a i]) (by omega) (by omega)
        rw [if_pos hb] at hn
        simp at this
        omega
      · next hb =>
        have := linesFrom_len s f a (i + 1) acc (by omega) (by omega)
        rw [if_neg hb] at hn
        omega
    · have : i = s.size := by omega
      subst this
      simp
theorem lines_len (s : ByteArray) : (lines s).length = 1 + nls s s.size := by
  have := linesFrom_len s (s.size + 1) 0 0 [] (by omega) (by omega)
  simp [nls] at this
  rw [lines]
  omega
end Rt
namespace Rf
theorem home_up (ls : List (List ByteArray)) (n : Nat) (h : 0 < home ls n) : 0 < home ls (n + 1) := by
  rw [home_step]; split <;> omega
theorem nest_home {ls : List (List ByteArray)} : ∀ (f k : Nat) (op sp : List Nat), ls.length - k = f → nestFrom ls (ls.drop k) k op sp = 0 → (0 < op.length → 0 < home ls k) →
    ∀ l (hl : l < ls.length), k ≤ l → topB ls[l] = false → ((first ls[l]).toList == []) = false → 0 < home ls (l + 1)
  | 0, k, op, sp, hf, _, _, l, hl, hkl, _, _ => by omega
  | f + 1, k, op, sp, hf, h, ho, l, hl, hkl, ht, he => by
    have hk : k < ls.length := by omega
    obtain ⟨i, hi, hF⟩ := head_cases (first ls[k])
    rw [nest_i hk hF] at h
    obtain ⟨f0, f1, f2, f3, f4, f5, f6, f7⟩ := hF
    by_cases hlk : l = k
    · subst hlk
      have i0 : ¬ i = 0 := by intro e; rw [e] at f0; rw [he] at f0; cases f0
      have i3 : ¬ (i = 1 ∨ i = 2 ∨ i = 3) := by
        rintro (e | e | e) <;> subst e <;> unfold topB at ht
        · rw [f1] at ht; simp at ht
        · rw [f2] at ht; simp at ht
        · rw [f3] at ht; simp at ht
      rw [if_neg i0] at h
      by_cases h0 : op.length = 0
      · rw [if_pos (by simp [i3, h0])] at h; omega
      · exact home_up ls l (ho (by omega))
    · have hk1 : k + 1 ≤ l := by omega
      by_cases i0 : i = 0
      · rw [if_pos i0] at h
        exact nest_home f (k + 1) op sp (by omega) h (fun h' => home_up ls k (ho h')) l hl hk1 ht he
      rw [if_neg i0] at h
      by_cases hc : decide (i = 1 ∨ i = 2 ∨ i = 3) = !decide (op.length = 0)
      · rw [if_pos hc] at h; omega
      rw [if_neg hc] at h
      by_cases i3 : i = 3 ∨ i = 4 ∨ i = 5
      · rw [if_pos i3] at h
        refine nest_home f (k + 1) _ sp (by omega) h (fun _ => ?_) l hl hk1 ht he
        by_cases e3 : i = 3
        · rw [home_step, lineAt_lt hk, if_pos (by rw [f3]; simp [e3])]; omega
        · have : ¬ op.length = 0 := by
            intro h0
            apply hc
            have : ¬ (i = 1 ∨ i = 2 ∨ i = 3) := by omega
            simp [this, h0]
          exact home_up ls k (ho (by omega))
      rw [if_neg i3] at h
      by_cases i6 : i = 6
      · rw [if_pos i6] at h
        split at h
        · omega
        · exact nest_home f (k + 1) op _ (by omega) h (fun h' => home_up ls k (ho h')) l hl hk1 ht he
      rw [if_neg i6] at h
      by_cases i7 : i = 7
      · rw [if_pos i7] at h
        refine nest_home f (k + 1) _ _ (by omega) h (fun h' => home_up ls k (ho ?_)) l hl hk1 ht he
        rw [List.length_dropLast] at h'
        omega
      rw [if_neg i7] at h
      exact nest_home f (k + 1) op sp (by omega) h (fun h' => home_up ls k (ho h')) l hl hk1 ht he
theorem nested_home {ls : List (List ByteArray)} (h : nested ls = 0) {l : Nat} (hl : l < ls.length) (ht : topB ls[l] = false) (he : ((first ls[l]).toList == []) = false) : 0 < home ls (l + 1) :=
  nest_home ls.length 0 [] [] (by omega) h (by simp) l hl (by omega) ht he
def formsFrom : Nat → List ByteArray → List (List ByteArray) → Nat × List (List ByteArray)
  | _, [], acc => (0, acc)
  | i, s :: r, acc =>
    match Rt.toks s with
    | none => (i + 1, acc)
    | some ts => if isLine (tx ts) = true then formsFrom (i + 1) r (acc ++ [tx ts]) else (i + 1, acc)
def rightFrom (ls : List (List ByteArray)) : Nat → Nat → Nat
  | 0, _ => 0
  | f + 1, k => if rightB ls k (lineAt ls k) = true then rightFrom ls f (k + 1) else k + 1
def mainW : ByteArray := ⟨#[109, 97, 105, 110]⟩
def readNames (ls : List (List ByteArray)) : Int × Int × List (List ByteArray) :=
  if decl ls mainW = 0 then (4, 0, [])
  else if ((first (lineAt ls (decl ls mainW - 1))).toList == [112, 114, 111, 99]) = false then (4, 0, [])
  else (0, 0, ls)
def readLines (ls : List (List ByteArray)) : Int × Int × List (List ByteArray) :=
  if ¬ nested ls = 0 then (3, nested ls, [])
  else if ¬ rightFrom ls ls.length 0 = 0 then (4, rightFrom ls ls.length 0, [])
  else readNames ls
def readR (s : ByteArray) : Int × Int × List (List ByteArray) :=
  if 40000 < s.size then (1, 0, [])
  else if 100 < (Rt.lines s).length then (1, 0, [])
  else if ¬ (formsFrom 0 (Rt.lines s) []).1 = 0 then (2, (formsFrom 0 (Rt.lines s) []).1, [])
  else readLines (formsFrom 0 (Rt.lines s) []).2
end Rf
theorem few_tx {s : ByteArray} {ts : List Rt.Tk} (hs : s.size ≤ 40000) (h : Rt.toks s = some ts) : Few (Rf.tx ts) := by
  obtain ⟨h1, h2⟩ := Rt.toks_facts hs h
  refine ⟨by simp [Rf.tx]; omega, fun x hx => ?_⟩
  simp [Rf.tx] at hx
  obtain ⟨t, ht, rfl⟩ := hx
  exact h2 t ht
structure Lined (ls : List (List ByteArray)) : Prop where
  few : ∀ t ∈ ls, Few t
  line : ∀ t ∈ ls, Rf.isLine t = true
theorem Lined.lawful {ls : List (List ByteArray)} (h : Lined ls) (hl : ls.length ≤ 100) : Lawful ls := ⟨hl, h.few, fun t ht htop => Rf.top_two (h.line t ht) htop⟩
theorem Lined.snoc {ls : List (List ByteArray)} (h : Lined ls) {t : List ByteArray} (h1 : Few t) (h2 : Rf.isLine t = true) : Lined (ls ++ [t]) :=
  ⟨fun u hu => by simp at hu; rcases hu with hu | rfl; exact h.few u hu; exact h1, fun u hu => by simp at hu; rcases hu with hu | rfl; exact h.line u hu; exact h2⟩
theorem Lined.lineOK {ls : List (List ByteArray)} (h : Lined ls) (hn : Rf.nested ls = 0) (l : Nat) (hl : l < ls.length) : LineOK ls l hl := by
  refine ⟨fun ht i hi _ => Rf.nested_home hn hl ht ?_, fun hc => Rf.call_two (h.line _ (List.getElem_mem hl)) hc⟩
  cases he : ((Rf.first ls[l]).toList == []) with
  | false => rfl
  | true =>
    exfalso
    rw [Rf.first_lt (by omega), beq_iff_eq] at he
    have hk := h.line _ (List.getElem_mem hl)
    rw [Rf.isLine_pos (by omega), Rf.first_lt (by omega), he] at hk
    simp [Rf.isKind] at hk
structure Rw where
  t : TypeId
  size : Nat
  v : Value
  n : Nat
  xs : List Value
def Rw.blk (r : Rw) : Option Nat := r.v.ownBlock
def blks (R : List Rw) : List Nat := R.filterMap Rw.blk
structure Own (w : World) (R : List Rw) : Prop where
  rows : ∀ r ∈ R, w.ownsRow 0 r.t r.size r.v r.n r.xs
  apart : (blks R).Nodup
structure Frm (w w' : World) (F : List Nat) : Prop where
  os : w'.os = w.os
  tape : w'.tape = w.tape
  output : w'.output = w.output
  size : w.heap.size ≤ w'.heap.size
  block : ∀ k, k < w.heap.size → k ∉ F → w'.heap[k]? = w.heap[k]?
theorem Frm.of_below {w w' : World} (F : List Nat) (h : Below w.heap.size w w') : Frm w w' F := ⟨h.os, h.tape, h.output, h.size, fun k hk _ => h.block k hk⟩
def Grows (w : World) (F F' : List Nat) : Prop := ∀ k ∈ F', k ∈ F ∨ w.heap.size ≤ k
theorem Frm.trans {w w1 w2 : World} {F F1 : List Nat} (h : Frm w w1 F) (h2 : Frm w1 w2 F1) (hg : Grows w F F1) : Frm w w2 F :=
  ⟨h2.os.trans h.os, h2.tape.trans h.tape, h2.output.trans h.output, Nat.le_trans h.size h2.size, fun k hk hn => (h2.block k (Nat.lt_of_lt_of_le hk h.size) (fun hf => by rcases hg k hf with h' | h'; exact hn h'; omega)).trans (h.block k hk hn)⟩
theorem Grows.refl (w : World) (F : List Nat) : Grows w F F := fun _ h => Or.inl h
theorem Grows.trans {w w1 : World} {F F1 F2 : List Nat} (h : Grows w F F1) (h2 : Grows w1 F1 F2) (hs : w.heap.size ≤ w1.heap.size) : Grows w F F2 := fun k hk => by
  rcases h2 k hk with h' | h'
  · exact h k h'
  · exact Or.inr (Nat.le_trans hs h')
theorem own_blk {w : World} {B : Nat} {e : TypeId} {size n : Nat} {v : Value} {xs : List Value} (h : w.ownsRow B e size v n xs) {g : Nat} (hg : v.ownBlock = some g) : ∃ c, w.heap[g]? = some (.cells c e (0, 0)) := by
  rcases h.2 with ⟨h', _⟩ | ⟨g', _, cur, h', _, hh, _⟩
  · rw [h'] at hg; cases hg
  · rw [h'] at hg
    simp [Value.ownBlock] at hg
    subst hg
    exact ⟨_, hh⟩
theorem own_zero {w : World} {B : Nat} {e : TypeId} {size n : Nat} {v : Value} {xs : List Value} (h : w.ownsRow B e size v n xs) : w.ownsRow 0 e size v n xs := ownsRow_mono h (Nat.zero_le _)
theorem own_same {w w' : World} {B : Nat} {e : TypeId} {size n : Nat} {v : Value} {xs : List Value} (h : w.ownsRow B e size v n xs) (hb : ∀ g, v.ownBlock = some g → w'.heap[g]? = w.heap[g]?) : w'.ownsRow B e size v n xs := by
  obtain ⟨h1, h2⟩ := h
  refine ⟨h1, ?_⟩
  rcases h2 with h2 | ⟨g, cap, cur, hv, hg, hh, r⟩
  · exact Or.inl h2
  · exact Or.inr ⟨g, cap, cur, hv, hg, by rw [hb g (by rw [hv]; rfl)]; exact hh, r⟩
theorem mem_blks {R : List Rw} {r : Rw} (h : r ∈ R) {g : Nat} (hg : r.v.ownBlock = some g) : g ∈ blks R := List.mem_filterMap.mpr ⟨r, h, hg⟩
theorem blks_app (A B : List Rw) : blks (A ++ B) = blks A ++ blks B := by simp [blks]
theorem blks_cons (r : Rw) (B : List Rw) : blks (r :: B) = (match r.v.ownBlock with | none => blks B | some g => g :: blks B) := by
  unfold blks Rw.blk
  rw [List.filterMap_cons]
  cases r.v.ownBlock <;> rfl
theorem Own.lt {w : World} {R : List Rw} (h : Own w R) : ∀ k ∈ blks R, k < w.heap.size := by
  intro k hk
  obtain ⟨r, hr, hg⟩ := List.mem_filterMap.mp hk
  exact ((h.rows r hr).lt k hg).2
theorem Own.later {w w' : World} {R : List Rw} (h : Own w R) (hb : Below w.heap.size w w') : Own w' R := ⟨fun r hr => own_later (h.rows r hr) hb, h.apart⟩
theorem Own.ne {w : World} {A B : List Rw} {r : Rw} (h : Own w (A ++ r :: B)) {g : Nat} (hg : r.v.ownBlock = some g) : g ∉ blks A ∧ g ∉ blks B := by
  have h1 := h.apart
  rw [blks_app, blks_cons, hg] at h1
  simp only at h1
  obtain ⟨h2, h3, h4⟩ := List.nodup_append.mp h1
  exact ⟨fun hA => h4 g hA g (List.mem_cons_self ..) rfl, (List.nodup_cons.mp h3).1⟩
theorem Own.swap {w w' : World} {A B : List Rw} {r r' : Rw} (h : Own w (A ++ r :: B)) (hb : ∀ k, k < w.heap.size → r.v.ownBlock ≠ some k → w'.heap[k]? = w.heap[k]?) (hr : w'.ownsRow 0 r'.t r'.size r'.v r'.n r'.xs) (hat : ∀ g, r'.v.ownBlock = some g → r.v.ownBlock = some g ∨ w.heap.size ≤ g) :
    Own w' (A ++ r' :: B) ∧ Grows w (blks (A ++ r :: B)) (blks (A ++ r' :: B)) := by
  have hA : ∀ k ∈ blks A, r.v.ownBlock ≠ some k := fun k hk e => (h.ne e).1 hk
  have hB : ∀ k ∈ blks B, r.v.ownBlock ≠ some k := fun k hk e => (h.ne e).2 hk
  refine ⟨⟨?_, ?_⟩, ?_⟩
  · intro x hx
    rcases List.mem_append.mp hx with hx | hx
    · have := h.rows x (List.mem_append_left _ hx)
      exact own_same this (fun g hg => hb g (this.lt g hg).2 (hA g (mem_blks hx hg)))
    · rcases List.mem_cons.mp hx with rfl | hx
      · exact hr
      · have := h.rows x (List.mem_append_right _ (List.mem_cons_of_mem _ hx))
        exact own_same this (fun g hg => hb g (this.lt g hg).2 (hB g (mem_blks hx hg)))
  · have h1 := h.apart
    have hlt := h.lt
    rw [blks_app, blks_cons] at h1 ⊢
    rw [blks_app, blks_cons] at hlt
    obtain ⟨n1, n2, n3⟩ := List.nodup_append.mp h1
    have n2' : (blks B).Nodup := by
      cases e : r.v.ownBlock with
      | none => rw [e] at n2; exact n2
      | some g => rw [e] at n2; exact (List.nodup_cons.mp n2).2
    have hltA : ∀ k ∈ blks A, k < w.heap.size := fun k hk => hlt k (List.mem_append_left _ hk)
    have hltB : ∀ k ∈ blks B, k < w.heap.size := fun k hk => hlt k (List.mem_append_right _ (by
      cases e : r.v.ownBlock with
      | none => exact hk
      | some g => exact List.mem_cons_of_mem _ hk))
    have n4 : ∀ a ∈ blks A, ∀ b ∈ blks B, a ≠ b := fun a ha b hb2 => n3 a ha b (by
      cases e : r.v.ownBlock with
      | none => exact hb2
      | some g => exact List.mem_cons_of_mem _ hb2)
    cases e : r'.v.ownBlock with
    | none => exact List.nodup_append.mpr ⟨n1, n2', n4⟩
    | some g =>
      have hgA : g ∉ blks A := fun hg => by rcases hat g e with h' | h'; exact hA g hg h'; have := hltA g hg; omega
      have hgB : g ∉ blks B := fun hg => by rcases hat g e with h' | h'; exact hB g hg h'; have := hltB g hg; omega
      refine List.nodup_append.mpr ⟨n1, List.nodup_cons.mpr ⟨hgB, n2'⟩, ?_⟩
      intro a ha b hb2
      rcases List.mem_cons.mp hb2 with rfl | hb2
      · intro e2; rw [e2] at ha; exact hgA ha
      · exact n4 a ha b hb2
  · intro k hk
    rw [blks_app, blks_cons] at hk ⊢
    rcases List.mem_append.mp hk with hk | hk
    · exact Or.inl (List.mem_append_left _ hk)
    · have hkB : k ∈ blks B → k ∈ blks A ++ (match r.v.ownBlock with | none => blks B | some g => g :: blks B) := fun hk => List.mem_append_right _ (by
        cases e : r.v.ownBlock with
        | none => exact hk
        | some g => exact List.mem_cons_of_mem _ hk)
      cases e : r'.v.ownBlock with
      | none => rw [e] at hk; exact Or.inl (hkB hk)
      | some g =>
        rw [e] at hk
        rcases List.mem_cons.mp hk with rfl | hk
        · rcases hat k e with h' | h'
          · rw [h']; exact Or.inl (List.mem_append_right _ (List.mem_cons_self ..))
          · exact Or.inr h'
        · exact Or.inl (hkB hk)
theorem Own.add {w : World} {A B : List Rw} {r : Rw} (h : Own w (A ++ B)) (hr : w.ownsRow 0 r.t r.size r.v r.n r.xs) (hn : ∀ g, r.v.ownBlock = some g → g ∉ blks (A ++ B)) : Own w (A ++ r :: B) := by
  refine ⟨?_, ?_⟩
  · intro x hx
    rcases List.mem_append.mp hx with hx | hx
    · exact h.rows x (List.mem_append_left _ hx)
    · rcases List.mem_cons.mp hx with rfl | hx
      · exact hr
      · exact h.rows x (List.mem_append_right _ hx)
  · have h1 := h.apart
    rw [blks_app] at h1
    obtain ⟨n1, n2, n3⟩ := List.nodup_append.mp h1
    rw [blks_app, blks_cons]
    cases e : r.v.ownBlock with
    | none => exact h1
    | some g =>
      have := hn g e
      rw [blks_app] at this
      have h2 : g ∉ blks A := fun hg => this (List.mem_append_left _ hg)
      have h3 : g ∉ blks B := fun hg => this (List.mem_append_right _ hg)
      refine List.nodup_append.mpr ⟨n1, List.nodup_cons.mpr ⟨h3, n2⟩, ?_⟩
      intro a ha b hb2
      rcases List.mem_cons.mp hb2 with rfl | hb2
      · intro e2; rw [e2] at ha; exact h2 ha
      · exact n3 a ha b hb2
end Go.Proofs.YthleadfkfnnadaaGreat
