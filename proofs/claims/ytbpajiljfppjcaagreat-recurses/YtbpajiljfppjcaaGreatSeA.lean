/- A session as a place of the one run: plain. -/
import Derived.Test.YtbpajiljfppjcaaGreatGnD
import Derived.Test.YtbpajiljfppjcaaGreatJrA
import Derived.Test.YtbpajiljfppjcaaGreatJrD
namespace Go.Proofs.YtbpajiljfppjcaaGreat
open Go.RowKit

namespace Rt
/-- One parameter more in the present frame. -/
def addPar (m : Mc) (v : Int) : Mc := { m with frames := m.frames.modify (m.frames.length - 1) (fun f => ⟨f.params ++ [v], f.call⟩) }
def back1 (m : Mc) (r : Rec) : Mc := if begins r = true then { m with line := r.line, fin := 0 } else m
/-- A record is undone. -/
def undo1 (m : Mc) (r : Rec) : Mc :=
  if r.kind = 2 then { back1 m r with frames := (back1 m r).frames.dropLast }
  else if r.kind = 3 then { back1 m r with frames := (back1 m r).frames ++ [⟨[], r.value⟩] }
  else if r.kind = 4 then putS (back1 m r) r.at_ r.value
  else if r.kind = 5 then { back1 m r with output := (back1 m r).output.dropLast }
  else if r.kind = 6 then { back1 m r with taken := wrap64 ((back1 m r).taken - 1) }
  else if r.kind = 7 then addPar (back1 m r) r.value
  else back1 m r
def undoM (m : Mc) (rs : List Rec) : Mc := rs.foldl undo1 m
theorem undo_stay (m : Mc) (n : Int) : undo1 m (stay n) = { m with line := n, fin := 0 } := rfl
theorem modify_modify {α : Type} (l : List α) (i : Nat) (f g : α → α) : (l.modify i f).modify i g = l.modify i (fun x => g (f x)) := by
  apply List.ext_getElem?
  intro j
  simp only [List.getElem?_modify]
  cases l[j]? with
  | none => rfl
  | some x =>
    simp only [Option.map_eq_map, Option.map_some]
    split <;> rfl
theorem modify_id {α : Type} (l : List α) (i : Nat) (f : α → α) (h : ∀ x, l[i]? = some x → f x = x) : l.modify i f = l := by
  apply List.ext_getElem?
  intro j
  rw [List.getElem?_modify]
  cases e : l[j]? with
  | none => rfl
  | some x =>
    simp only [Option.map_eq_map, Option.map_some]
    split
    · next hij => subst hij; rw [h x e]
    · rfl
theorem cellsOf_put (m : Mc) (s : Spot) (v : Int) (h : hasS m s = true) : hasS (putS m s v) s = true := by
  unfold hasS at h ⊢
  rw [decide_eq_true_eq] at h ⊢
  have hl : (cellsOf (putS m s v) s.line).length = (cellsOf m s.line).length := by
    have hh : hasS m s = true := by unfold hasS; rw [decide_eq_true_eq]; exact h
    unfold putS
    rw [if_pos hh]
    by_cases hs : 0 < s.line
    · rw [if_pos hs]
      unfold cellsOf
      simp only [List.length_modify]
      by_cases hb : 0 < s.line ∧ s.line < (m.values.length : Int)
      · rw [if_pos hb, if_pos hb]
        simp only [List.getElem?_modify]
        cases m.values[s.line.toNat]? with
        | none => rfl
        | some x => simp
      · rw [if_neg hb, if_neg hb]
    · rw [if_neg hs]
      have e : ∀ m : Mc, cellsOf m s.line = if s.line = 0 ∧ 0 < m.frames.length then (m.frames.getLastD noFm).params else [] := fun m => by unfold cellsOf; rw [if_neg (fun h => hs h.1)]
      rw [e, e]
      simp only [List.length_modify]
      by_cases hb : s.line = 0 ∧ 0 < m.frames.length
      · rw [if_pos hb, if_pos hb]
        rw [List.getLastD_eq_getLast?, List.getLastD_eq_getLast?, List.getLast?_eq_getElem?, List.getLast?_eq_getElem?, List.getElem?_modify]
        simp only [List.length_modify]
        rw [List.getElem?_eq_getElem (by omega)]
        simp
      · rw [if_neg hb, if_neg hb]
  rw [hl]
  exact h
/-- What was put is put back. -/
theorem put_back (m : Mc) (s : Spot) (v : Int) : putS (putS m s v) s (getS m s) = m := by
  by_cases h : hasS m s = true
  · have h2 := cellsOf_put m s v h
    have hh := h
    unfold hasS at hh
    rw [decide_eq_true_eq] at hh
    rw [putS, if_pos h2]
    unfold putS
    rw [if_pos h]
    by_cases hs : 0 < s.line
    · rw [if_pos hs, if_pos hs]
      have hg : getS m s = ((cellsOf m s.line)[s.cell.toNat]?).getD 0 := by unfold getS; rw [if_neg (by omega)]
      have : (m.values.modify s.line.toNat (fun c => c.set s.cell.toNat v)).modify s.line.toNat (fun c => c.set s.cell.toNat (getS m s)) = m.values := by
        rw [modify_modify]
        refine modify_id _ _ _ (fun x hx => ?_)
        rw [List.set_set]
        have hc : cellsOf m s.line = x := by
          unfold cellsOf
          have hlt : s.line < (m.values.length : Int) := by
            have := (List.getElem?_eq_some_iff.mp hx).1
            omega
          rw [if_pos ⟨hs, hlt⟩, hx]
          rfl
        rw [hg, hc]
        rw [hc] at hh
        rw [List.getElem?_eq_getElem (by omega)]
        exact List.set_getElem_self _
      simp only [this]
    · rw [if_neg hs, if_neg hs]
      have hg : getS m s = ((cellsOf m s.line)[s.cell.toNat]?).getD 0 := by unfold getS; rw [if_neg (by omega)]
      have hc0 : s.line = 0 ∧ 0 < m.frames.length := by
        unfold cellsOf at hh
        rw [if_neg (by omega)] at hh
        by_cases hb : s.line = 0 ∧ 0 < m.frames.length
        · exact hb
        · rw [if_neg hb] at hh; simp at hh; omega
      have : (m.frames.modify (m.frames.length - 1) (fun f => ⟨f.params.set s.cell.toNat v, f.call⟩)).modify (m.frames.length - 1) (fun f => ⟨f.params.set s.cell.toNat (getS m s), f.call⟩) = m.frames := by
        rw [modify_modify]
        refine modify_id _ _ _ (fun x hx => ?_)
        show (⟨(x.params.set s.cell.toNat v).set s.cell.toNat (getS m s), x.call⟩ : Fm) = x
        rw [List.set_set]
        have hc : cellsOf m s.line = x.params := by
          unfold cellsOf
          rw [if_neg (by omega), if_pos hc0, List.getLastD_eq_getLast?, List.getLast?_eq_getElem?, hx]
          rfl
        rw [hg, hc]
        rw [hc] at hh
        rw [List.getElem?_eq_getElem (by omega)]
        simp
      simp only [List.length_modify, this]
  · have h2 : putS m s v = m := by unfold putS; rw [if_neg h]
    rw [h2]
    unfold putS
    rw [if_neg h]
theorem modify_last {α : Type} (f : α → α) (x : α) : ∀ l : List α, (l ++ [x]).modify l.length f = l ++ [f x]
  | [] => rfl
  | y :: l => by
    show y :: (l ++ [x]).modify l.length f = y :: (l ++ [f x])
    rw [modify_last f x l]
theorem addPars (m : Mc) (fs : List Fm) (c : Int) : ∀ (vs acc : List Int), m.frames = fs ++ [⟨acc, c⟩] → (vs.map (fun v => (⟨7, 0, ⟨0, 0⟩, v⟩ : Rec))).foldl undo1 m = { m with frames := fs ++ [⟨acc ++ vs, c⟩] }
  | [], acc, h => by
    simp only [List.map_nil, List.foldl_nil, List.append_nil]
    rw [← h]
  | v :: vs, acc, h => by
    have e : undo1 m ⟨7, 0, ⟨0, 0⟩, v⟩ = { m with frames := fs ++ [⟨acc ++ [v], c⟩] } := by
      show addPar (back1 m ⟨7, 0, ⟨0, 0⟩, v⟩) v = _
      show addPar m v = _
      unfold addPar
      rw [h]
      congr 1
      rw [List.length_append, List.length_singleton, Nat.add_sub_cancel, modify_last]
    rw [List.map_cons, List.foldl_cons, e, addPars _ fs c vs (acc ++ [v]) rfl]
    simp
theorem putS_line (m : Mc) (s : Spot) (v : Int) : (putS m s v).line = m.line ∧ (putS m s v).fin = m.fin := by
  unfold putS
  split
  · split <;> exact ⟨rfl, rfl⟩
  · exact ⟨rfl, rfl⟩
theorem putS_with (m : Mc) (s : Spot) (v l f : Int) : putS { m with line := l, fin := f } s v = { putS m s v with line := l, fin := f } := by
  unfold putS
  have : hasS { m with line := l, fin := f } s = hasS m s := rfl
  rw [this]
  split
  · split <;> rfl
  · rfl
theorem putS_taken (m : Mc) (s : Spot) (v t : Int) : putS { m with taken := t } s v = { putS m s v with taken := t } := by
  unfold putS
  have : hasS { m with taken := t } s = hasS m s := rfl
  rw [this]
  split
  · split <;> rfl
  · rfl
theorem undo_stored (m : Mc) (s : Spot) (x : Int) : undo1 m ⟨4, 0, s, x⟩ = putS m s x := rfl

theorem undo_stored2 (m' m : Mc) (s : Spot) : undo1 m' (stored m s) = putS m' s (getS m s) := rfl
theorem read_back (m : Mc) (sp : Spot) (x t l : Int) : putS ({ ({ putS m sp x with taken := t } : Mc) with line := l, fin := 0 }) sp (getS m sp) = { m with taken := t, line := l, fin := 0 } := by
  have h1 := putS_with { putS m sp x with taken := t } sp (getS m sp) l 0
  have h2 := putS_taken (putS m sp x) sp (getS m sp) t
  rw [put_back] at h2
  rw [h2] at h1
  exact h1
theorem undoM_cons (m : Mc) (r : Rec) (rs : List Rec) : undoM m (r :: rs) = undoM (undo1 m r) rs := rfl
theorem undoM_nil (m : Mc) : undoM m [] = m := rfl
theorem undo_fetched (m : Mc) : undo1 m ⟨6, 0, ⟨0, 0⟩, 0⟩ = { m with taken := wrap64 (m.taken - 1) } := rfl
theorem perform_undo (S : Src) (m : Mc) (f : PForm) (h0 : m.fin = 0) (ht : S.input.length ≤ 100) : (perform S m f).fin = 0 → ∀ l, undoM { (perform S m f).m with line := l } (perform S m f).recs = m := by
  have hz : ({ m with line := m.line, fin := 0 } : Mc) = m := by rw [← h0]
  have base : ∀ (m' : Mc) (l : Int), undo1 { m' with line := l } (stay m.line) = { m' with line := m.line, fin := 0 } := fun _ _ => rfl
  have set1 : ∀ (s : Spot) (v l : Int), undoM { putS m s v with line := l } [stay m.line, stored m s] = m := fun s v l => by
    show undo1 (undo1 { putS m s v with line := l } (stay m.line)) (stored m s) = m
    rw [base]
    show putS { putS m s v with line := m.line, fin := 0 } s (getS m s) = m
    rw [putS_with, put_back]
    exact hz
  by_cases k8 : f.kind = 8
  · have e : perform S m f = if (valueF S m f).2 = 0 then ⟨0, wrap64 (m.line + 1), [stay m.line, stored m (varS S m f.name)], putS m (varS S m f.name) (valueF S m f).1⟩ else ended m (valueF S m f).2 := by unfold perform; simp only; rw [if_pos k8]
    rw [e]
    by_cases hv : (valueF S m f).2 = 0
    · rw [if_pos hv]; intro _ l; exact set1 _ _ _
    · rw [if_neg hv]; intro hfin; exact absurd hfin hv
  by_cases k9 : f.kind = 9
  · have e : perform S m f = if (evalE S m f.index).2 = 0 then (if (valueF S m f).2 = 0 then (match cellS S m f.name (evalE S m f.index).1 with | none => ended m 3 | some s => ⟨0, wrap64 (m.line + 1), [stay m.line, stored m s], putS m s (valueF S m f).1⟩) else ended m (valueF S m f).2) else ended m (evalE S m f.index).2 := by unfold perform; simp only; rw [if_neg k8, if_pos k9]; rfl
    rw [e]
    by_cases hx : (evalE S m f.index).2 = 0
    · rw [if_pos hx]
      by_cases hv : (valueF S m f).2 = 0
      · rw [if_pos hv]
        cases cellS S m f.name (evalE S m f.index).1 with
        | none => intro hfin; exact absurd hfin (show ¬ (3 : Int) = 0 by decide)
        | some s => intro _ l; exact set1 _ _ _
      · rw [if_neg hv]; intro hfin; exact absurd hfin hv
    · rw [if_neg hx]; intro hfin; exact absurd hfin hx
  by_cases k10 : f.kind = 10
  · have e : perform S m f = if (valueF S m f).2 = 0 then (if 50 ≤ m.output.length then ended m 6 else ⟨0, wrap64 (m.line + 1), [stay m.line, ⟨5, 0, ⟨0, 0⟩, 0⟩], { m with output := m.output ++ [(valueF S m f).1] }⟩) else ended m (valueF S m f).2 := by unfold perform; simp only; rw [if_neg k8, if_neg k9, if_pos k10]
    rw [e]
    by_cases hv : (valueF S m f).2 = 0
    · rw [if_pos hv]
      by_cases ho : 50 ≤ m.output.length
      · rw [if_pos ho]; intro hfin; exact absurd hfin (show ¬ (6 : Int) = 0 by decide)
      · rw [if_neg ho]
        intro _ l
        show ({ m with output := (m.output ++ [(valueF S m f).1]).dropLast, line := m.line, fin := 0 } : Mc) = m
        rw [List.dropLast_concat]
        exact hz
    · rw [if_neg hv]; intro hfin; exact absurd hfin hv
  by_cases k11 : f.kind = 11
  · have e : perform S m f = if m.taken < 0 ∨ S.input.length ≤ m.taken then ended m 4 else ⟨0, wrap64 (m.line + 1), [stay m.line, stored m (varS S m f.name), ⟨6, 0, ⟨0, 0⟩, 0⟩], { putS m (varS S m f.name) ((S.input[m.taken.toNat]?).getD 0) with taken := wrap64 (m.taken + 1) }⟩ := by unfold perform; simp only; rw [if_neg k8, if_neg k9, if_neg k10, if_pos k11]
    rw [e]
    by_cases hin : m.taken < 0 ∨ S.input.length ≤ m.taken
    · rw [if_pos hin]; intro hfin; exact absurd hfin (show ¬ (4 : Int) = 0 by decide)
    · rw [if_neg hin]
      intro _ l
      have hw : wrap64 (m.taken + 1) = m.taken + 1 := IntWalk.wrap64_in _ (by omega)
      have hw2 : wrap64 (m.taken + 1 - 1) = m.taken := by rw [IntWalk.wrap64_in _ (by omega)]; omega
      rw [hw]
      generalize (S.input[m.taken.toNat]?).getD 0 = x
      generalize varS S m f.name = sp
      rw [undoM_cons, undoM_cons, undoM_cons, undoM_nil, undo_fetched]
      have e1 : undo1 (undo1 { { putS m sp x with taken := m.taken + 1 } with line := l } (stay m.line)) (stored m sp) = { m with taken := m.taken + 1, line := m.line, fin := 0 } := by
        rw [base { putS m sp x with taken := m.taken + 1 } l, undo_stored2]
        exact read_back m sp x (m.taken + 1) m.line
      rw [e1]
      simp only [hw2]
      exact hz
  by_cases k5 : f.kind = 5 ∨ f.kind = 7
  · have e : perform S m f = if (valueF S m f).2 = 0 then ⟨0, if (valueF S m f).1 = 0 then otherwise S.lk m.line else wrap64 (m.line + 1), [stay m.line], m⟩ else ended m (valueF S m f).2 := by unfold perform; simp only; rw [if_neg k8, if_neg k9, if_neg k10, if_neg k11, if_pos k5]
    rw [e]
    by_cases hv : (valueF S m f).2 = 0
    · rw [if_pos hv]; intro _ l; exact hz
    · rw [if_neg hv]; intro hfin; exact absurd hfin hv
  by_cases k12 : f.kind = 12
  · have e : perform S m f = if (argsI S m f.values []).2 = 0 then (if 6 ≤ m.frames.length then ended m 5 else ⟨0, wrap64 (declP S.pls f.name + 1), [⟨2, m.line, ⟨0, 0⟩, 0⟩], { m with frames := m.frames ++ [⟨(argsI S m f.values []).1, m.line⟩] }⟩) else ended m (argsI S m f.values []).2 := by unfold perform; simp only; rw [if_neg k8, if_neg k9, if_neg k10, if_neg k11, if_neg k5, if_pos k12]
    rw [e]
    by_cases hv : (argsI S m f.values []).2 = 0
    · rw [if_pos hv]
      by_cases ho : 6 ≤ m.frames.length
      · rw [if_pos ho]; intro hfin; exact absurd hfin (show ¬ (5 : Int) = 0 by decide)
      · rw [if_neg ho]
        intro _ l
        show ({ m with frames := (m.frames ++ [(⟨(argsI S m f.values []).1, m.line⟩ : Fm)]).dropLast, line := m.line, fin := 0 } : Mc) = m
        rw [List.dropLast_concat]
        exact hz
    · rw [if_neg hv]; intro hfin; exact absurd hfin hv
  rw [perform_leave S m f k8 k9 k10 k11 (fun e => k5 (Or.inl e)) (fun e => k5 (Or.inr e)) k12]
  unfold leaveO
  by_cases hn : m.frames.length < 2
  · rw [if_pos hn]; intro hfin; exact absurd hfin (show ¬ (1 : Int) = 0 by decide)
  · rw [if_neg hn]
    intro _ l
    obtain ⟨fs, g, hfs, _, hl, hd⟩ := last_frame hn
    rw [hl, hd]
    show ((g.params.map (fun v => (⟨7, 0, ⟨0, 0⟩, v⟩ : Rec))).foldl undo1 (undo1 { { m with frames := fs } with line := l } ⟨3, m.line, ⟨0, 0⟩, g.call⟩)) = m
    rw [addPars _ fs g.call g.params [] rfl]
    show ({ m with frames := fs ++ [⟨[] ++ g.params, g.call⟩], line := m.line, fin := 0 } : Mc) = m
    rw [List.nil_append, ← hfs]
    exact hz
/-- A step that has just been made is taken back. -/
theorem undo_step (S : Src) (m : Mc) (h0 : m.fin = 0) (ht : S.input.length ≤ 100) : undoM (stepM S m).1 (stepM S m).2 = m := by
  unfold stepM
  rw [if_pos h0]
  simp only
  split
  · next hf => exact perform_undo S m _ h0 ht hf _
  · show ({ m with line := m.line, fin := 0 } : Mc) = m
    rw [← h0]
end Rt
end Go.Proofs.YtbpajiljfppjcaaGreat

namespace Go.Proofs.YtbpajiljfppjcaaGreat
open Go.RowKit

namespace Rt
/-- The machine behind so many steps. -/
def atM (S : Src) : Nat → Mc
  | 0 => firstM S
  | n + 1 => (stepM S (atM S n)).1
/-- The records of a step. -/
def recsAt (S : Src) (i : Nat) : List Rec := (stepM S (atM S i)).2
/-- The records of k steps from lo on. -/
def recsOf (S : Src) (lo : Nat) : Nat → List Rec
  | 0 => []
  | k + 1 => recsOf S lo k ++ recsAt S (lo + k)
theorem recsOf_front (S : Src) (lo : Nat) : ∀ k, recsOf S lo (k + 1) = recsAt S lo ++ recsOf S (lo + 1) k
  | 0 => by simp [recsOf]
  | k + 1 => by
    rw [recsOf, recsOf_front S lo k, recsOf, List.append_assoc, show lo + (k + 1) = lo + 1 + k by omega]
/-- The records of one step. -/
def StepRecs (l : List Rec) : Prop := ∃ r t, l = r :: t ∧ begins r = true ∧ ∀ x ∈ t, begins x = false
theorem perform_recs (S : Src) (m : Mc) (f : PForm) : (perform S m f).fin = 0 → StepRecs (perform S m f).recs := by
  have st : begins (stay m.line) = true := rfl
  have one : StepRecs [stay m.line] := ⟨_, _, rfl, st, by simp⟩
  have two : ∀ r : Rec, begins r = false → StepRecs [stay m.line, r] := fun r hr => ⟨_, _, rfl, st, by simpa using hr⟩
  unfold perform
  simp only
  repeat' split
  all_goals first
    | (intro _; exact two _ rfl)
    | (intro _; exact one)
    | (intro hz; exact absurd hz (by assumption))
    | (intro hz; simp [ended] at hz; done)
    | skip
  · intro _; exact ⟨_, _, rfl, st, by simp [begins, stored]⟩
  · intro _; exact ⟨_, _, rfl, rfl, by simp⟩
  · intro _
    refine ⟨_, _, rfl, rfl, ?_⟩
    intro x hx
    obtain ⟨v, _, rfl⟩ := List.mem_map.mp hx
    rfl
theorem step_recs (S : Src) (m : Mc) (h : m.fin = 0) : StepRecs (stepM S m).2 := by
  unfold stepM
  rw [if_pos h]
  simp only
  split
  · next hz => exact perform_recs S m _ hz
  · exact ⟨_, _, rfl, rfl, by simp⟩
theorem restLen_all : ∀ (t l : List Rec), (∀ x ∈ t, begins x = false) → (l = [] ∨ ∃ r u, l = r :: u ∧ begins r = true) → restLen (t ++ l) = t.length
  | [], l, _, hl => by
    rcases hl with rfl | ⟨r, u, rfl, hr⟩
    · rfl
    · show restLen (r :: u) = 0
      rw [restLen, if_pos hr]
  | x :: t, l, ht, hl => by
    show restLen (x :: (t ++ l)) = _
    rw [restLen, if_neg (by rw [ht x (List.mem_cons_self ..)]; simp), restLen_all t l (fun y hy => ht y (List.mem_cons_of_mem _ hy)) hl]
    rfl
theorem earliest_step {a l : List Rec} (ha : StepRecs a) (hl : l = [] ∨ ∃ r u, l = r :: u ∧ begins r = true) : earliest (a ++ l) = a.length := by
  obtain ⟨r, t, rfl, _, ht⟩ := ha
  show restLen (t ++ l) + 1 = t.length + 1
  rw [restLen_all t l ht hl]
theorem lastFrom_step (l : List Rec) (r : Rec) (t : List Rec) (hr : begins r = true) (ht : ∀ x ∈ t, begins x = false) : ∀ j, j ≤ t.length → lastFrom (l ++ r :: t) (l.length + j) = l.length
  | 0, _ => by
    cases h : l.length with
    | zero => rfl
    | succ n =>
      show lastFrom (l ++ r :: t) (n + 1) = n + 1
      have hg : (l ++ r :: t)[n + 1]? = some r := by rw [List.getElem?_append_right (by omega), h]; simp
      rw [lastFrom, hg]
      simp [hr]
  | j + 1, hj => by
    show lastFrom (l ++ r :: t) ((l.length + j) + 1) = _
    have hg : (l ++ r :: t)[(l.length + j) + 1]? = some t[j] := by
      rw [List.getElem?_append_right (by omega), show l.length + j + 1 - l.length = j + 1 by omega, List.getElem?_cons_succ, List.getElem?_eq_getElem (by omega)]
    rw [lastFrom, hg]
    simp only [ht _ (List.getElem_mem _), Bool.false_eq_true, if_false]
    exact lastFrom_step l r t hr ht j (by omega)
theorem lastAt_step {l a : List Rec} (ha : StepRecs a) : lastAt (l ++ a) = l.length := by
  obtain ⟨r, t, rfl, hr, ht⟩ := ha
  unfold lastAt
  have := lastFrom_step l r t hr ht t.length (Nat.le_refl _)
  rw [← this]
  simp
/-- From which step on there is room. -/
def lowR (S : Src) (cap : Int) : Nat → Nat → Nat
  | 0, lo => lo
  | k + 1, lo => if cap < (recsOf S lo (k + 1)).length then lowR S cap k (lo + 1) else lo
theorem lowR_ge (S : Src) (cap : Int) : ∀ k lo, lo ≤ lowR S cap k lo
  | 0, _ => Nat.le_refl _
  | k + 1, lo => by
    have := lowR_ge S cap k (lo + 1)
    unfold lowR
    split <;> omega
theorem lowR_le (S : Src) (cap : Int) : ∀ k lo, lowR S cap k lo ≤ lo + k
  | 0, _ => Nat.le_refl _
  | k + 1, lo => by
    have := lowR_le S cap k (lo + 1)
    unfold lowR
    split <;> omega
theorem lowR_len (S : Src) (cap : Int) (hc : 0 ≤ cap) : ∀ k lo, ((recsOf S (lowR S cap k lo) (lo + k - lowR S cap k lo)).length : Int) ≤ cap
  | 0, lo => by
    unfold lowR
    simp [recsOf, hc]
  | k + 1, lo => by
    have := lowR_len S cap hc k (lo + 1)
    unfold lowR
    split
    · rw [show lo + (k + 1) = lo + 1 + k by omega]; exact this
    · next h =>
      rw [show lo + (k + 1) - lo = k + 1 by omega]
      omega
/-- What is let go had no room. -/
theorem lowR_min (S : Src) (cap : Int) : ∀ k lo, lowR S cap k lo = lo ∨ ∃ l, lowR S cap k lo = l + 1 ∧ lo ≤ l ∧ cap < (recsOf S l (lo + k - l)).length
  | 0, _ => Or.inl rfl
  | k + 1, lo => by
    unfold lowR
    split
    · next h =>
      rcases lowR_min S cap k (lo + 1) with e | ⟨l, e, hl, hc⟩
      · exact Or.inr ⟨lo, e, Nat.le_refl _, by rw [show lo + (k + 1) - lo = k + 1 by omega]; exact h⟩
      · exact Or.inr ⟨l, e, by omega, by rw [show lo + (k + 1) - l = lo + 1 + k - l by omega]; exact hc⟩
    · exact Or.inl rfl
theorem lowR_none (S : Src) (cap : Int) (k lo : Nat) (h : ((recsOf S lo k).length : Int) ≤ cap) : lowR S cap k lo = lo := by
  cases k with
  | zero => rfl
  | succ k => unfold lowR; rw [if_neg (by omega)]
theorem recsOf_head {S : Src} {lo k : Nat} (h : ∀ i, lo ≤ i → i < lo + k → StepRecs (recsAt S i)) : recsOf S lo k = [] ∨ ∃ r u, recsOf S lo k = r :: u ∧ begins r = true := by
  cases k with
  | zero => exact Or.inl rfl
  | succ k =>
    right
    rw [recsOf_front]
    obtain ⟨r, t, e, hr, _⟩ := h lo (Nat.le_refl _) (by omega)
    exact ⟨r, t ++ recsOf S (lo + 1) k, by rw [e]; rfl, hr⟩
theorem joinR_of (S : Src) (cap : Int) (hc : 0 ≤ cap) : ∀ k lo : Nat, (∀ i, lo ≤ i → i < lo + k → StepRecs (recsAt S i)) → lo + k < 4611686018427387904 → joinR cap (recsOf S lo k) lo = (recsOf S (lowR S cap k lo) (lo + k - lowR S cap k lo), (lowR S cap k lo : Int))
  | 0, lo, _, _ => by
    rw [joinR_done _ (by simp [recsOf])]
    simp [recsOf, lowR]
  | k + 1, lo, h, hlt => by
    by_cases hcap : cap < (recsOf S lo (k + 1)).length
    · have hs := h lo (Nat.le_refl _) (by omega)
      have hp : 0 < (recsOf S lo (k + 1)).length := by omega
      rw [joinR_more _ ⟨hcap, hp⟩]
      have he : earliest (recsOf S lo (k + 1)) = (recsAt S lo).length := by
        rw [recsOf_front]
        exact earliest_step hs (recsOf_head (fun i h1 h2 => h i (by omega) (by omega)))
      have hd : (recsOf S lo (k + 1)).drop (earliest (recsOf S lo (k + 1))) = recsOf S (lo + 1) k := by
        rw [he, recsOf_front, List.drop_left']
        rfl
      rw [hd, IntWalk.wrap64_in _ (by omega)]
      have := joinR_of S cap hc k (lo + 1) (fun i h1 h2 => h i (by omega) (by omega)) (by omega)
      have hL : lowR S cap (k + 1) lo = lowR S cap k (lo + 1) := by rw [lowR, if_pos hcap]
      rw [hL, show lo + (k + 1) = lo + 1 + k by omega]
      exact this
    · rw [joinR_done _ (fun h => hcap h.1)]
      have hL : lowR S cap (k + 1) lo = lo := by rw [lowR, if_neg hcap]
      rw [hL, show lo + (k + 1) - lo = k + 1 by omega]
/-- A session at a place. -/
def seAt (S : Src) (n low : Nat) (marks : List Bool) : Se := ⟨atM S n, recsOf S low (n - low), low, n, marks⟩
/-- What of a place can be: the steps to it were made; the journal reaches back to low and has room. -/
structure SeOk (S : Src) (cap : Int) (n low : Nat) : Prop where
  run : ∀ i, i < n → (atM S i).fin = 0
  le : low ≤ n
  room : ((recsOf S low (n - low)).length : Int) ≤ cap
theorem SeOk.recs {S : Src} {cap : Int} {n low : Nat} (h : SeOk S cap n low) : ∀ i, low ≤ i → i < n → StepRecs (recsAt S i) := fun i _ hi => step_recs S _ (h.run i hi)
def lowF (S : Src) (cap : Int) (n low : Nat) : Nat := lowR S cap (n + 1 - low) low
theorem SeOk.step {S : Src} {cap : Int} {n low : Nat} (h : SeOk S cap n low) (hc : 0 ≤ cap) (hz : (atM S n).fin = 0) : SeOk S cap (n + 1) (lowF S cap n low) := by
  have hl := h.le
  refine ⟨fun i hi => ?_, ?_, ?_⟩
  · by_cases e : i = n
    · rw [e]; exact hz
    · exact h.run i (by omega)
  · have := lowR_le S cap (n + 1 - low) low
    unfold lowF
    omega
  · have := lowR_len S cap hc (n + 1 - low) low
    unfold lowF
    rw [show low + (n + 1 - low) = n + 1 by omega] at this
    exact this
theorem seStep_at {S : Src} {cap : Int} {n low : Nat} (h : SeOk S cap n low) (hc : 0 ≤ cap) (hz : (atM S n).fin = 0) (hn : n < 4611686018427387000) (mk : List Bool) : seStep S cap (seAt S n low mk) = seAt S (n + 1) (lowF S cap n low) mk := by
  have hl := h.le
  have hall : ∀ i, low ≤ i → i < low + (n + 1 - low) → StepRecs (recsAt S i) := fun i h1 h2 => step_recs S _ (by
    by_cases e : i = n
    · rw [e]; exact hz
    · exact h.run i (by omega))
  have hj := joinR_of S cap hc (n + 1 - low) low hall (by omega)
  have hrec : recsOf S low (n - low) ++ recsAt S n = recsOf S low (n + 1 - low) := by
    rw [show n + 1 - low = (n - low) + 1 by omega, recsOf, show low + (n - low) = n by omega]
  unfold seStep seAt
  simp only
  have e2 : (stepM S (atM S n)).2 = recsAt S n := rfl
  rw [e2, hrec, hj, show low + (n + 1 - low) = n + 1 by omega]
  have hw : wrap64 ((n : Int) + 1) = ((n + 1 : Nat) : Int) := by rw [IntWalk.wrap64_in _ (by omega)]; omega
  rw [hw]
  rfl
/-- A step of a session taken back. -/
def seBack (s : Se) : Se := ⟨undoM s.m (s.recs.drop (lastAt s.recs)), s.recs.take (lastAt s.recs), s.low, wrap64 (s.idx - 1), s.marks⟩
theorem SeOk.back {S : Src} {cap : Int} {n low : Nat} (h : SeOk S cap (n + 1) low) (hl : low ≤ n) : SeOk S cap n low := by
  refine ⟨fun i hi => h.run i (by omega), hl, ?_⟩
  have := h.room
  rw [show n + 1 - low = (n - low) + 1 by omega, recsOf, List.length_append] at this
  omega
theorem seBack_at {S : Src} {cap : Int} {n low : Nat} (h : SeOk S cap (n + 1) low) (hl : low ≤ n) (hi : S.input.length ≤ 100) (hn : n < 4611686018427387000) (mk : List Bool) : seBack (seAt S (n + 1) low mk) = seAt S n low mk := by
  have hr : recsOf S low (n + 1 - low) = recsOf S low (n - low) ++ recsAt S n := by
    rw [show n + 1 - low = (n - low) + 1 by omega, recsOf, show low + (n - low) = n by omega]
  have hz := h.run n (by omega)
  have hla : lastAt (recsOf S low (n - low) ++ recsAt S n) = (recsOf S low (n - low)).length := lastAt_step (step_recs S _ hz)
  unfold seBack seAt
  simp only
  rw [hr, hla, List.drop_left', List.take_left']
  · have hu := undo_step S (atM S n) hz hi
    have e1 : undoM (atM S (n + 1)) (recsAt S n) = atM S n := hu
    rw [e1]
    have hw : wrap64 (((n + 1 : Nat) : Int) - 1) = (n : Int) := by rw [IntWalk.wrap64_in _ (by omega)]; omega
    rw [hw]
  · rfl
  · rfl
theorem last_lt {S : Src} {cap : Int} {n low : Nat} (h : SeOk S cap (n + 1) low) (hl : low ≤ n) : 0 < (recsOf S low (n + 1 - low)).length := by
  rw [show n + 1 - low = (n - low) + 1 by omega, recsOf, show low + (n - low) = n by omega, List.length_append]
  obtain ⟨r, t, e, _⟩ := step_recs S _ (h.run n (by omega))
  have : recsAt S n = r :: t := e
  rw [this]
  simp only [List.length_cons]
  omega
end Rt
theorem at_keep {S : Rt.Src} (hS : Good S) (h0 : KeepG S (Rt.firstM S)) : ∀ n, KeepG S (Rt.atM S n)
  | 0 => h0
  | n + 1 => step_keepG hS (at_keep hS h0 n)
theorem at_par4 {S : Rt.Src} (h4 : Call4 S) : ∀ n, Par4 (Rt.atM S n)
  | 0 => first_par4 S
  | n + 1 => (step_par4 h4 (at_par4 h4 n)).1
end Go.Proofs.YtbpajiljfppjcaaGreat

