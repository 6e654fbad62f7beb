/- The journal: plain; where it lies. -/
import Derived.Test.YtbpajiljfppjcaaGreatCaA
import Derived.Laws.OwnMore
namespace Go.Proofs.YtbpajiljfppjcaaGreat
open Go.RowKit
attribute [local go_sem ↓] Go.wp_at_zero Go.wp_at_succ

namespace Rt
/-- Whether a record is the first of a step. -/
def begins (r : Rec) : Bool := decide (r.kind = 1) || decide (r.kind = 2) || decide (r.kind = 3)
/-- How many records ahead of the next step's first. -/
def restLen : List Rec → Nat
  | [] => 0
  | r :: t => if begins r = true then 0 else restLen t + 1
/-- How many records the earliest step has. -/
def earliest : List Rec → Nat
  | [] => 0
  | _ :: t => restLen t + 1
theorem restLen_le : ∀ l : List Rec, restLen l ≤ l.length
  | [] => Nat.le_refl _
  | r :: t => by
    have := restLen_le t
    unfold restLen
    split
    · omega
    · simp; omega
theorem earliest_le (l : List Rec) : earliest l ≤ l.length := by
  cases l with
  | nil => exact Nat.le_refl _
  | cons r t =>
    have := restLen_le t
    simp [earliest]
    omega
theorem earliest_pos {l : List Rec} (h : 0 < l.length) : 0 < earliest l := by
  cases l with
  | nil => simp at h
  | cons r t => simp [earliest]
theorem restLen_not : ∀ (l : List Rec) (j : Nat) (h : j < restLen l), begins (l[j]'(Nat.lt_of_lt_of_le h (restLen_le l))) = false
  | [], j, h => by simp [restLen] at h
  | r :: t, j, h => by
    unfold restLen at h
    split at h
    · omega
    · next hb =>
      cases j with
      | zero => simpa using hb
      | succ j => exact restLen_not t j (by omega)
theorem restLen_at : ∀ (l : List Rec) (h : restLen l < l.length), begins l[restLen l] = true
  | [], h => by simp at h
  | r :: t, h => by
    by_cases hb : begins r = true
    · have : restLen (r :: t) = 0 := by unfold restLen; rw [if_pos hb]
      simp only [this]
      exact hb
    · have e : restLen (r :: t) = restLen t + 1 := by rw [restLen, if_neg hb]
      simp only [e, List.getElem_cons_succ]
      exact restLen_at t (by rw [e] at h; simpa using h)
theorem early_not {rs : List Rec} {k : Nat} (h0 : 0 < k) (h : k < earliest rs) (hk : k < rs.length) : begins rs[k] = false := by
  cases rs with
  | nil => simp at hk
  | cons r t =>
    cases k with
    | zero => omega
    | succ k => exact restLen_not t k (by simp [earliest] at h; omega)
theorem early_at {rs : List Rec} (h : earliest rs < rs.length) : begins rs[earliest rs] = true := by
  cases rs with
  | nil => simp at h
  | cons r t =>
    simp only [earliest, List.getElem_cons_succ]
    exact restLen_at t (by simpa [earliest] using h)
/-- What is kept when there is too little room. -/
def jnL (cap : Int) : Nat → List Rec → Int → List Rec × Int
  | 0, rs, low => (rs, low)
  | f + 1, rs, low => if cap < rs.length ∧ 0 < rs.length then jnL cap f (rs.drop (earliest rs)) (wrap64 (low + 1)) else (rs, low)
def joinR (cap : Int) (rs : List Rec) (low : Int) : List Rec × Int := jnL cap rs.length rs low
theorem jnL_more (cap : Int) : ∀ (f g : Nat) (rs : List Rec) (low : Int), rs.length ≤ f → rs.length ≤ g → jnL cap f rs low = jnL cap g rs low
  | 0, 0, _, _, _, _ => rfl
  | 0, g + 1, rs, low, h, _ => by
    have : ¬ (cap < rs.length ∧ 0 < rs.length) := by omega
    rw [jnL, jnL, if_neg this]
  | f + 1, 0, rs, low, _, h => by
    have : ¬ (cap < rs.length ∧ 0 < rs.length) := by omega
    rw [jnL, jnL, if_neg this]
  | f + 1, g + 1, rs, low, h1, h2 => by
    rw [jnL, jnL]
    split
    · next hc =>
      have := earliest_pos hc.2
      exact jnL_more cap f g _ _ (by rw [List.length_drop]; omega) (by rw [List.length_drop]; omega)
    · rfl
theorem joinR_more {cap : Int} {rs : List Rec} (low : Int) (h : cap < rs.length ∧ 0 < rs.length) : joinR cap rs low = joinR cap (rs.drop (earliest rs)) (wrap64 (low + 1)) := by
  unfold joinR
  have hp := earliest_pos h.2
  have := earliest_le rs
  cases e : rs.length with
  | zero => omega
  | succ f =>
    rw [jnL, if_pos h]
    exact jnL_more cap _ _ _ _ (by rw [List.length_drop]; omega) (Nat.le_refl _)
theorem joinR_done {cap : Int} {rs : List Rec} (low : Int) (h : ¬ (cap < rs.length ∧ 0 < rs.length)) : joinR cap rs low = (rs, low) := by
  unfold joinR
  cases rs.length with
  | zero => rfl
  | succ f => rw [jnL, if_neg h]
end Rt
theorem recsCells_len (rs : List Rt.Rec) : (recsCells rs).length = rs.length * 5 := by
  induction rs with
  | nil => rfl
  | cons r t ih =>
    simp only [recsCells, List.flatMap_cons, List.length_append, List.length_cons] at ih ⊢
    simp [Rt.recCells] at ih ⊢
    omega
theorem recsCells_app (a b : List Rt.Rec) : recsCells (a ++ b) = recsCells a ++ recsCells b := by simp [recsCells]
theorem recsCells_get (rs : List Rt.Rec) (i : Nat) (h : i < rs.length) (j : Nat) (hj : j < 5) : (recsCells rs)[i * 5 + j]? = (Rt.recCells rs[i])[j]? := by
  conv => lhs; rw [← List.take_append_drop i rs, recsCells_app]
  have hl : (recsCells (rs.take i)).length = i * 5 := by rw [recsCells_len, List.length_take, Nat.min_eq_left (by omega)]
  rw [List.getElem?_append_right (by omega), hl, List.drop_eq_getElem_cons h]
  have : i * 5 + j - i * 5 = j := by omega
  rw [this]
  show (Rt.recCells rs[i] ++ recsCells (rs.drop (i + 1)))[j]? = _
  rw [List.getElem?_append_left (by simp [Rt.recCells]; omega)]
/-- A record's cells. -/
theorem rec_at {w : World} {B g n cap : Nat} {rs : List Rt.Rec} (h : w.ownsRow B 87 5 (.slice (some ⟨g, 0, none⟩) n cap) n (recsCells rs)) (i : Nat) (hi : i < rs.length) :
    w.cell? ⟨g, i * 5, none⟩ = some (.int .i64 rs[i].kind) ∧ w.cell? ⟨g, i * 5 + 1, none⟩ = some (.int .i64 rs[i].line) ∧ w.cell? ⟨g, i * 5 + 2, none⟩ = some (.int .i64 rs[i].at_.line) ∧ w.cell? ⟨g, i * 5 + 3, none⟩ = some (.int .i64 rs[i].at_.cell) ∧ w.cell? ⟨g, i * 5 + 4, none⟩ = some (.int .i64 rs[i].value) := by
  have get : ∀ j u, j < 5 → (Rt.recCells rs[i])[j]? = some u → w.cell? ⟨g, i * 5 + j, none⟩ = some u := by
    intro j u hj hu
    obtain ⟨g', cap', he, _, _, hc⟩ := own_cell h (j := i * 5 + j) (u := u) (by rw [recsCells_get rs i hi j hj]; exact hu)
    simp at he
    obtain ⟨rfl, rfl⟩ := he
    exact hc
  exact ⟨get 0 _ (by omega) rfl, get 1 _ (by omega) rfl, get 2 _ (by omega) rfl, get 3 _ (by omega) rfl, get 4 _ (by omega) rfl⟩
theorem begins_any (w : World) (r : Rt.Rec) : Calls Tryz.prog 66 #[.agg #[.int .i64 r.kind, .int .i64 r.line, .int .i64 r.at_.line, .int .i64 r.at_.cell, .int .i64 r.value]] w fun e w' => e = .returned (.bool (Rt.begins r)) ∧ Below w.heap.size w w' := by
  have hb := (Below.refl w.heap.size w).alloc (Nat.le_refl _) (.cells #[.int .i64 r.kind, .int .i64 r.line, .int .i64 r.at_.line, .int .i64 r.at_.cell, .int .i64 r.value] 87)
  by_cases h1 : r.kind = 1
  · have HE := hide (show Rt.begins r = true by simp [Rt.begins, h1])
    have h1' : (r.kind == 1) = true := by simpa using h1
    clear h1
    go_enter Tryz.func66, Tryz.ntmps66
    go_wp2_with fail
    go_ret
    exact ⟨by rw [unhide HE]; rfl, hb⟩
  · have h1' : (r.kind == 1) = false := by simpa using h1
    by_cases h2 : r.kind = 2
    · have HE := hide (show Rt.begins r = true by simp [Rt.begins, h2])
      have h2' : (r.kind == 2) = true := by simpa using h2
      clear h1 h2
      go_enter Tryz.func66, Tryz.ntmps66
      go_wp2_with fail
      go_ret
      exact ⟨by rw [unhide HE]; rfl, hb⟩
    · have h2' : (r.kind == 2) = false := by simpa using h2
      by_cases h3 : r.kind = 3
      · have HE := hide (show Rt.begins r = true by simp [Rt.begins, h3])
        have h3' : (r.kind == 3) = true := by simpa using h3
        clear h1 h2 h3
        go_enter Tryz.func66, Tryz.ntmps66
        go_wp2_with fail
        go_ret
        exact ⟨by rw [unhide HE]; rfl, hb⟩
      · have HE := hide (show Rt.begins r = false by simp [Rt.begins, h1, h2, h3])
        have h3' : (r.kind == 3) = false := by simpa using h3
        clear h1 h2 h3
        go_enter Tryz.func66, Tryz.ntmps66
        go_wp2_with fail
        go_ret
        exact ⟨by rw [unhide HE]; rfl, hb⟩
/-- A journal within a block. -/
structure JrS (w : World) (P : Nat) (ty : TypeId) (cs : Array Value) (cap : Int) (rs : List Rt.Rec) (low : Int) (jv : Value) : Prop where
  block : w.heap[P]? = some (.cells cs ty (0, 0))
  c8 : cs[8]? = some (.int .i64 cap)
  c9 : cs[9]? = some jv
  c10 : cs[10]? = some (.int .i64 low)
  own : w.ownsRow 0 87 5 jv rs.length (recsCells rs)
  ty : ty ≠ 87
theorem JrS.later {w w' : World} {P : Nat} {ty : TypeId} {cs : Array Value} {cap : Int} {rs : List Rt.Rec} {low : Int} {jv : Value} (h : JrS w P ty cs cap rs low jv) (hb : Below w.heap.size w w') : JrS w' P ty cs cap rs low jv :=
  ⟨block_later h.block hb, h.c8, h.c9, h.c10, own_later h.own hb, h.ty⟩
section
variable {w : World} {P : Nat} {ty : TypeId} {cs : Array Value} {cap : Int} {rs : List Rt.Rec} {low : Int} {jv : Value} (h : JrS w P ty cs cap rs low jv)
include h
theorem JrS.k8 : w.cell? ⟨P, 8, none⟩ = some (.int .i64 cap) := (cell_of_row w P 8 cs ty (0, 0) h.block).trans h.c8
theorem JrS.k9 : w.cell? ⟨P, 9, none⟩ = some jv := (cell_of_row w P 9 cs ty (0, 0) h.block).trans h.c9
theorem JrS.k10 : w.cell? ⟨P, 10, none⟩ = some (.int .i64 low) := (cell_of_row w P 10 cs ty (0, 0) h.block).trans h.c10
theorem JrS.fz (i : Nat) : w.frozen? ⟨P, i, none⟩ = false := free_of_block h.block i
theorem JrS.ne : jv.ownBlock ≠ some P := by
  intro e
  obtain ⟨c, hc⟩ := own_blk h.own e
  rw [h.block] at hc
  injection hc with hc
  injection hc with _ hc
  exact h.ty hc
end
set_option maxHeartbeats 1000000 in
set_option maxRecDepth 100000 in
theorem earliest_any (w : World) (P : Nat) (ty : TypeId) (cs : Array Value) (cap : Int) (rs : List Rt.Rec) (low : Int) (jv : Value) (h : JrS w P ty cs cap rs low jv) (hl : rs.length ≤ 1000) :
    Calls Tryz.prog 62 #[.pointer (some ⟨P, 8, none⟩)] w fun e w' => e = .returned (.int .i64 ((Rt.earliest rs : Nat) : Int)) ∧ Below w.heap.size w w' := by
  obtain ⟨ad, jcap, rfl⟩ := ownsRow_form h.own
  have HH := hide h
  clear h
  go_enter Tryz.func62, Tryz.ntmps62
  go_wp2_with fail
  go_loopw [3] (fun c wr => ∃ k : Nat, k ≤ rs.length ∧ c = .int .i64 k ∧ (0 < k → 0 < rs.length ∧ k ≤ Rt.earliest rs) ∧ Below w.heap.size w wr) (fun c _ => rs.length + 1 - (intOf c).toNat)
  case atStart => exact ⟨0, Nat.zero_le _, rfl, fun h => by omega, Below.refl _ _⟩
  case round =>
    obtain ⟨k, hk, rfl, hin, hbe⟩ := hrel
    have hj := (unhide HH).later hbe
    have k9 := hj.k9
    by_cases hlt : k < rs.length
    · have hlt' : (k : Int) < (rs.length : Int) := by omega
      have hk0 : (0 : Int) ≤ (k : Int) := by omega
      obtain ⟨g, gc, he, hglt, _⟩ := own_cell hj.own (j := k * 5) (u := .int .i64 rs[k].kind) (by have := recsCells_get rs k hlt 0 (by omega); simpa [Rt.recCells] using this)
      simp at he
      obtain ⟨rfl, rfl⟩ := he
      obtain ⟨r0, r1, r2, r3, r4⟩ := rec_at hj.own k hlt
      have HB := hide hbe
      by_cases hz : k = 0
      · subst hz
        have HN := hide (show 0 < rs.length ∧ 1 ≤ Rt.earliest rs from ⟨hlt, Rt.earliest_pos hlt⟩)
        clear hin hbe hj
        go_wp2_with fail
        exact ⟨⟨1, by omega, rfl, fun _ => unhide HN, unhide HB⟩, by simp [intOf]⟩
      · have hz' : ((k : Int) == 0) = false := by rw [beq_eq_false_iff_ne]; omega
        have HIN := hide (hin (by omega))
        have HC := hide (fun (W : World) => begins_any W rs[k])
        have HY := hide (show Rt.begins rs[k] = true → k = Rt.earliest rs from fun e => by
          have := (hin (by omega)).2
          by_cases hke : k = Rt.earliest rs
          · exact hke
          · rw [Rt.early_not (by omega) (by omega) hlt] at e; cases e)
        have HNO := hide (show Rt.begins rs[k] = false → k + 1 ≤ Rt.earliest rs from fun e => by
          have := (hin (by omega)).2
          by_cases hke : k = Rt.earliest rs
          · subst hke
            rw [Rt.early_at hlt] at e; cases e
          · omega)
        clear hin hbe hj
        generalize rs[k] = r at *
        go_wp2_with fail
        refine (unhide HC _).mono ?_
        rintro e w1 ⟨rfl, hb1⟩
        have HB1 := hide ((unhide HB).trans (hb1.mono (unhide HB).size))
        clear hb1
        cases hb : Rt.begins r with
        | true =>
          have HE := hide (unhide HY hb)
          clear HY HNO
          go_wp2_with fail
          go_ret
          exact ⟨by rw [← unhide HE]; rfl, unhide HB1⟩
        | false =>
          have HE := hide (unhide HNO hb)
          clear HY HNO
          go_wp2_with fail
          go_roundw
          case rel => exact ⟨k + 1, by omega, by go_num, fun _ => ⟨(unhide HIN).1, unhide HE⟩, unhide HB1⟩
          case measure => simp [intOf]; omega
    · have hlt' : ¬ (k : Int) < (rs.length : Int) := by omega
      have HE := hide (show k = Rt.earliest rs by
        have := Rt.earliest_le rs
        by_cases h0 : 0 < k
        · have := hin h0; omega
        · omega)
      have HB := hide hbe
      clear hin hbe hj
      go_wp2_with fail
      go_ret
      exact ⟨by rw [← unhide HE]; rfl, unhide HB⟩
end Go.Proofs.YtbpajiljfppjcaaGreat

