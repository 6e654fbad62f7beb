/- The machine: put, has, store, variable, cell. -/
import Derived.Test.YtbpajiljfppjcaaGreatDoorMcA
namespace Go.Proofs.YtbpajiljfppjcaaGreatDoor
open Go.RowKit

theorem zip_split {α β γ : Type} (f : α → β → γ) : ∀ (a : List α) (b : List β) (i : Nat) (ha : i < a.length) (hb : i < b.length), ∃ P Q, List.zipWith f a b = P ++ f a[i] b[i] :: Q ∧ ∀ g : β → β, List.zipWith f a (b.modify i g) = P ++ f a[i] (g b[i]) :: Q
  | [], _, _, ha, _ => by simp at ha
  | _ :: _, [], _, _, hb => by simp at hb
  | x :: a, y :: b, 0, _, _ => ⟨[], List.zipWith f a b, rfl, fun g => by simp⟩
  | x :: a, y :: b, i + 1, ha, hb => by
    obtain ⟨P, Q, h1, h2⟩ := zip_split f a b i (by simpa using ha) (by simpa using hb)
    refine ⟨f x y :: P, Q, ?_, fun g => ?_⟩
    · simp only [List.zipWith_cons_cons, h1, List.getElem_cons_succ, List.cons_append]
    · simp only [List.modify_succ_cons, List.zipWith_cons_cons, h2 g, List.getElem_cons_succ, List.cons_append]
theorem fCells_mod : ∀ (vs : List Value) (fs : List Rt.Fm) (i : Nat) (g : List Int → List Int), fCells vs (fs.modify i (fun f => ⟨g f.params, f.call⟩)) = fCells vs fs
  | [], _, _, _ => by cases ‹List Rt.Fm› <;> rfl
  | _ :: _, [], i, _ => by cases i <;> rfl
  | v :: vs, f :: fs, 0, g => by simp [fCells]
  | v :: vs, f :: fs, i + 1, g => by simp only [List.modify_succ_cons, fCells, fCells_mod vs fs i g]
theorem map_mod (fs : List Rt.Fm) (i : Nat) (g : List Int → List Int) : (fs.modify i (fun f => ⟨g f.params, f.call⟩)).map Rt.Fm.params = (fs.map Rt.Fm.params).modify i g := by
  induction fs generalizing i with
  | nil => cases i <;> rfl
  | cons f fs ih => cases i with
    | zero => rfl
    | succ i => simp [ih]
theorem intsV_set (l : List Int) (c : Nat) (v : Int) : intsV (l.set c v) = (intsV l).set c (.int .i64 v) := by simp [intsV, List.map_set]

/-- The types of the program's rows. -/
def PTy (t : TypeId) : Prop := t = 122 ∨ t = 154 ∨ t = 9 ∨ t = 200 ∨ t = 117
/-- A machine with other rows, in a world in which the program's blocks are as they were. -/
theorem McS.next {w w' : World} {M B : Nat} {ty : TypeId} {tail tail' : List Value} {S : Rt.Src} {m m' : Rt.Mc} {X X' : McX} (h : McS w M B ty tail S m X)
    (hM : w'.heap[M]? = some (.cells ([X'.lv, X'.iv, X'.fv, X'.vv, .int .i64 m'.taken, X'.ov, .int .i64 m'.line, .int .i64 m'.fin] ++ tail').toArray ty (0, 0))) (hs : w.heap.size ≤ w'.heap.size)
    (hk : ∀ (k : Nat) (x : Obj), w.heap[k]? = some x → k ≠ M → (∃ c t, x = Obj.cells c t (0, 0) ∧ PTy t) → w'.heap[k]? = some x) (ho : Own w' (rowsOf S.input X' m')) (hl : X'.lv = X.lv) (hc : X'.cs = X.cs)
    (fl : X'.fps.length = m'.frames.length) (vl : X'.vps.length = m'.values.length) : McS w' M B ty tail' S m' X' := by
  have hr : ∀ (B : Nat) (t : TypeId) (size n : Nat) (v : Value) (xs : List Value), t ≠ ty → PTy t → w.ownsRow B t size v n xs → w'.ownsRow B t size v n xs := by
    intro B t size n v xs n0 n1 hv
    refine own_same hv (fun g hg => ?_)
    obtain ⟨c, hc⟩ := own_blk hv hg
    rw [hc]
    refine hk g _ hc ?_ ⟨_, _, rfl, n1⟩
    intro e
    rw [e, h.block] at hc
    injection hc with hc
    injection hc with _ hc
    exact n0 hc.symm
  obtain ⟨_, _, _, t1, t2, t3, t4, t5⟩ := h.ty
  have hK : ∀ {v : Array Value} {fm : Rt.PForm}, FormV w B v fm → FormV w' B v fm := by
    intro v fm hf
    obtain ⟨pv, iv, vv, vs, rfl, h1, h2, h3, h4⟩ := hf
    exact ⟨pv, iv, vv, vs, rfl, hr _ _ _ _ _ _ (Ne.symm t3) (Or.inr (Or.inr (Or.inl rfl))) h1, hr _ _ _ _ _ _ (Ne.symm t4) (Or.inr (Or.inr (Or.inr (Or.inl rfl)))) h2, hr _ _ _ _ _ _ (Ne.symm t5) (Or.inr (Or.inr (Or.inr (Or.inr rfl)))) h3, ExprsR.map (fun x o hh => hr _ _ _ _ _ _ (Ne.symm t4) (Or.inr (Or.inr (Or.inr (Or.inl rfl)))) hh) _ _ h4⟩
  have hlines : ∀ ps cs, LinesV w B ps cs → LinesV w' B ps cs := by
    intro ps
    induction ps with
    | nil => intro cs h; cases cs with
      | nil => trivial
      | cons _ _ => exact h.elim
    | cons p ps ih => intro cs h; cases cs with
      | nil => exact h.elim
      | cons c cs =>
        obtain ⟨⟨tv, fv, xe, xf, e, g1, g2⟩, h2⟩ := h
        exact ⟨⟨tv, fv, xe, xf, e, hr _ _ _ _ _ _ (Ne.symm t2) (Or.inr (Or.inl rfl)) g1, hK g2⟩, ih cs h2⟩
  have hcell : w'.cell? ⟨M, 0, none⟩ = some X'.lv := by have := cell_of_block hM 0 (by simp); simpa using this
  refine ⟨hM, ⟨Nat.lt_of_lt_of_le h.prog.lt hs, hcell, ?_, ?_, ?_, h.prog.len⟩, ho, fl, vl, h.ty⟩
  · rw [hl, hc]; exact hr _ _ _ _ _ _ (Ne.symm t1) (Or.inl rfl) h.prog.own
  · rw [hc]; exact hlines _ _ h.prog.lines
  · rw [hl]
    refine h.prog.links.same (fun g hg => ?_)
    obtain ⟨c, hc⟩ := own_blk h.prog.own hg
    rw [hc]
    refine hk g _ hc ?_ ⟨_, _, rfl, Or.inl rfl⟩
    intro e
    rw [e, h.block] at hc
    injection hc with hc
    injection hc with _ hc
    exact t1 hc

theorem row_store {w : World} {A C : List Rw} {v : Value} {l : List Int} (h : Own w (A ++ iRow v l :: C)) {g : Nat} (hg : v.ownBlock = some g) (c : Nat) (x : Int) :
    Own (w.setCell ⟨g, c, none⟩ (.int .i64 x)) (A ++ iRow v (l.set c x) :: C) ∧ Frm w (w.setCell ⟨g, c, none⟩ (.int .i64 x)) (blks (A ++ iRow v l :: C)) := by
  have hrow : w.ownsRow 0 3 1 v l.length (intsV l) := h.rows (iRow v l) (by simp)
  obtain ⟨ad, cap, rfl⟩ := ownsRow_form hrow
  have hv : ad = some ⟨g, 0, none⟩ := by
    rcases hrow.2 with ⟨h', _⟩ | ⟨g', cap', cur, h', _⟩
    · rw [h'] at hg; cases hg
    · rw [h'] at hg
      simp [Value.ownBlock] at hg
      injection h' with h' _ _
      rw [h', hg]
  subst hv
  have hother : ∀ k, k ≠ g → (w.setCell ⟨g, c, none⟩ (.int .i64 x)).heap[k]? = w.heap[k]? := fun k hk => Below.heap_setCell w ⟨g, c, none⟩ _ k hk
  have hst := (hrow.stored c (.int .i64 x)).1
  rw [← intsV_set] at hst
  refine ⟨(h.swap (r' := iRow (.slice (some ⟨g, 0, none⟩) l.length cap) (l.set c x)) (fun k _ hk => hother k (fun e => hk (by rw [e]; rfl))) ?_ (fun g' hg' => Or.inl hg')).1, ⟨rfl, rfl, rfl, by simp [World.setCell], fun k hk hn => hother k (fun e => hn ?_)⟩⟩
  · show World.ownsRow _ 0 3 1 _ (l.set c x).length _
    rw [List.length_set]
    exact hst
  · rw [e]
    exact mem_blks (r := iRow (.slice (some ⟨g, 0, none⟩) l.length cap) l) (by simp) rfl

theorem rows_ty3 {inp : List Int} {X : McX} {m : Rt.Mc} {r : Rw} (h : r ∈ rowsOf inp X m) : r.t = 3 ∨ r.t = 124 ∨ r.t = 22 := by
  unfold rowsOf at h
  have hz : ∀ (a : List Value) (b : List (List Int)), r ∈ List.zipWith iRow a b → r.t = 3 := by
    intro a
    induction a with
    | nil => intro b hb; simp at hb
    | cons x a ih => intro b hb; cases b with
      | nil => simp at hb
      | cons y b =>
        rw [List.zipWith_cons_cons] at hb
        rcases List.mem_cons.mp hb with rfl | hb
        · rfl
        · exact ih b hb
  rcases List.mem_append.mp h with h | h
  · simp only [List.mem_cons, List.not_mem_nil, or_false] at h
    rcases h with rfl | rfl | rfl | rfl
    · exact Or.inl rfl
    · exact Or.inr (Or.inl rfl)
    · exact Or.inr (Or.inr rfl)
    · exact Or.inl rfl
  · rcases List.mem_append.mp h with h | h
    · exact Or.inl (hz _ _ h)
    · exact Or.inl (hz _ _ h)
/-- The cell that is stored. -/
theorem McS.stored {w : World} {M B : Nat} {ty : TypeId} {tail : List Value} {S : Rt.Src} {m : Rt.Mc} {X : McX} (h : McS w M B ty tail S m X) (s : Rt.Spot) (hs : Rt.hasS m s = true) (x : Int) :
    ∃ g cap, cellsV X m s.line = .slice (some ⟨g, 0, none⟩) (Rt.cellsOf m s.line).length cap ∧ g < w.heap.size ∧ McS (w.setCell ⟨g, s.cell.toNat, none⟩ (.int .i64 x)) M B ty tail S (Rt.putS m s x) X ∧ Frm w (w.setCell ⟨g, s.cell.toNat, none⟩ (.int .i64 x)) (blks (rowsOf S.input X m)) := by
  have hin : 0 ≤ s.cell ∧ s.cell < (Rt.cellsOf m s.line).length := of_decide_eq_true hs
  have hcr := h.cellsRow s.line
  have hpos : 0 < (Rt.cellsOf m s.line).length := by omega
  obtain ⟨g, cap, hgv, _, hglt, _⟩ := own_cell hcr (j := 0) (u := .int .i64 ((Rt.cellsOf m s.line)[0])) (by simp [intsV, List.getElem?_eq_getElem hpos])
  have hgb : (cellsV X m s.line).ownBlock = some g := by rw [hgv]; rfl
  have hgI : ∃ c, w.heap[g]? = some (.cells c 3 (0, 0)) := own_blk hcr hgb
  have hMg : M ≠ g := by
    intro e
    obtain ⟨c, hc⟩ := hgI
    rw [← e, h.block] at hc
    injection hc with hc
    injection hc with _ hc
    exact h.ty.1 hc
  have hk : ∀ (k : Nat) (y : Obj), w.heap[k]? = some y → k ≠ M → (∃ c t, y = Obj.cells c t (0, 0) ∧ PTy t) → (w.setCell ⟨g, s.cell.toNat, none⟩ (.int .i64 x)).heap[k]? = some y := by
    intro k y hy _ hne
    rw [Below.heap_setCell w ⟨g, s.cell.toNat, none⟩ _ k (fun e => by
      obtain ⟨c, hc⟩ := hgI
      have e' : k = g := e
      rw [e', hc] at hy
      injection hy with hy
      obtain ⟨c', t', e2, ht⟩ := hne
      rw [← hy] at e2
      injection e2 with _ e2
      rw [← e2] at ht
      exact absurd ht (by unfold PTy; decide))]
    exact hy
  have hMM : (w.setCell ⟨g, s.cell.toNat, none⟩ (.int .i64 x)).heap[M]? = w.heap[M]? := Below.heap_setCell w ⟨g, s.cell.toNat, none⟩ _ M hMg
  have hsz : w.heap.size ≤ (w.setCell ⟨g, s.cell.toNat, none⟩ (.int .i64 x)).heap.size := by simp [World.setCell]
  have key : ∃ A C l v, rowsOf S.input X m = A ++ iRow v l :: C ∧ v = cellsV X m s.line ∧ rowsOf S.input X (Rt.putS m s x) = A ++ iRow v (l.set s.cell.toNat x) :: C ∧ (Rt.putS m s x).taken = m.taken ∧ (Rt.putS m s x).line = m.line ∧ (Rt.putS m s x).fin = m.fin ∧ (Rt.putS m s x).frames.length = m.frames.length ∧ (Rt.putS m s x).values.length = m.values.length := by
    by_cases h1 : 0 < s.line ∧ s.line < m.values.length
    · have hi : s.line.toNat < m.values.length := by omega
      have hi' : s.line.toNat < X.vps.length := by rw [h.vl]; exact hi
      obtain ⟨P, Q, z1, z2⟩ := zip_split iRow X.vps m.values s.line.toNat hi' hi
      have ep : Rt.putS m s x = { m with values := m.values.modify s.line.toNat (fun c => c.set s.cell.toNat x) } := by
        unfold Rt.putS; rw [if_pos hs, if_pos h1.1]
      refine ⟨[iRow X.iv S.input, ⟨124, 2, X.fv, m.frames.length, fCells X.fps m.frames⟩, ⟨22, 1, X.vv, m.values.length, X.vps⟩, iRow X.ov m.output] ++ (List.zipWith iRow X.fps (m.frames.map Rt.Fm.params) ++ P), Q, m.values[s.line.toNat], X.vps[s.line.toNat], ?_, ?_, ?_, ?_⟩
      · unfold rowsOf; rw [z1]; simp
      · unfold cellsV; rw [if_pos h1, List.getElem?_eq_getElem hi']; rfl
      · rw [ep]
        unfold rowsOf
        simp only [List.length_modify]
        rw [z2 (fun c => c.set s.cell.toNat x)]
        simp
      · rw [ep]; exact ⟨rfl, rfl, rfl, rfl, by simp⟩
    · have h2 : s.line = 0 ∧ 0 < m.frames.length := by
        have hp := hpos
        unfold Rt.cellsOf at hp
        rw [if_neg h1] at hp
        by_cases h2 : s.line = 0 ∧ 0 < m.frames.length
        · exact h2
        · rw [if_neg h2] at hp; simp at hp
      have hi : m.frames.length - 1 < (m.frames.map Rt.Fm.params).length := by simp; omega
      have hi' : m.frames.length - 1 < X.fps.length := by rw [h.fl]; omega
      obtain ⟨P, Q, z1, z2⟩ := zip_split iRow X.fps (m.frames.map Rt.Fm.params) (m.frames.length - 1) hi' hi
      have ep : Rt.putS m s x = { m with frames := m.frames.modify (m.frames.length - 1) (fun f => ⟨f.params.set s.cell.toNat x, f.call⟩) } := by
        unfold Rt.putS; rw [if_pos hs, if_neg (by omega)]
      refine ⟨[iRow X.iv S.input, ⟨124, 2, X.fv, m.frames.length, fCells X.fps m.frames⟩, ⟨22, 1, X.vv, m.values.length, X.vps⟩, iRow X.ov m.output] ++ P, Q ++ List.zipWith iRow X.vps m.values, (m.frames.map Rt.Fm.params)[m.frames.length - 1], X.fps[m.frames.length - 1], ?_, ?_, ?_, ?_⟩
      · unfold rowsOf; rw [z1]; simp
      · unfold cellsV; rw [if_neg h1, if_pos h2, List.getElem?_eq_getElem hi']; rfl
      · rw [ep]
        unfold rowsOf
        simp only [List.length_modify]
        rw [map_mod m.frames (m.frames.length - 1) (fun p => p.set s.cell.toNat x), fCells_mod X.fps m.frames (m.frames.length - 1) (fun p => p.set s.cell.toNat x), z2 (fun p => p.set s.cell.toNat x)]
        simp
      · rw [ep]; exact ⟨rfl, rfl, rfl, by simp, rfl⟩
  obtain ⟨A, C, l, v, k1, k2, k3, k4, k5, k6, k7, k8⟩ := key
  have ho := h.own
  rw [k1] at ho
  obtain ⟨o1, o2⟩ := row_store ho (g := g) (by rw [k2]; exact hgb) s.cell.toNat x
  refine ⟨g, cap, hgv, hglt, h.next (by rw [hMM, h.block, k4, k5, k6]) hsz hk (by rw [k3]; exact o1) rfl rfl (by rw [k7]; exact h.fl) (by rw [k8]; exact h.vl), ?_⟩
  rw [k1]
  exact o2

/-- A block of another type than the machine's and the program's is stored into. -/
theorem McS.aside {w : World} {M B : Nat} {ty : TypeId} {tail : List Value} {S : Rt.Src} {m : Rt.Mc} {X : McX} (h : McS w M B ty tail S m X) {N : Nat} {cs : Array Value} {t : TypeId} (hN : w.heap[N]? = some (.cells cs t (0, 0))) (hM : N ≠ M) (ht : ¬ PTy t ∧ t ≠ 3 ∧ t ≠ 124 ∧ t ≠ 22) (i : Nat) (v : Value) : McS (w.setCell ⟨N, i, none⟩ v) M B ty tail S m X := by
  have hother : ∀ k, k ≠ N → (w.setCell ⟨N, i, none⟩ v).heap[k]? = w.heap[k]? := fun k hk => Below.heap_setCell w ⟨N, i, none⟩ _ k hk
  have hrow : ∀ r ∈ rowsOf S.input X m, ∀ g, r.v.ownBlock = some g → g ≠ N := by
    intro r hr g hg e
    obtain ⟨c, hc⟩ := own_blk (h.own.rows r hr) hg
    rw [e, hN] at hc
    injection hc with hc
    injection hc with _ hc
    have := rows_ty3 hr
    rw [← hc] at this
    rcases this with e | e | e
    · exact ht.2.1 e
    · exact ht.2.2.1 e
    · exact ht.2.2.2 e
  refine h.next ?_ (by simp [World.setCell]) (fun k x hk _ hp => ?_) ⟨fun r hr => own_same (h.own.rows r hr) (fun g hg => hother g (hrow r hr g hg)), h.own.apart⟩ rfl rfl h.fl h.vl
  · rw [hother M (Ne.symm hM)]; exact h.block
  · rw [hother k (fun e => by
      rw [e, hN] at hk
      injection hk with hk
      obtain ⟨c', t', e2, hp⟩ := hp
      rw [← hk] at e2
      injection e2 with _ e2
      rw [← e2] at hp
      exact ht.1 hp)]
    exact hk
end Go.Proofs.YtbpajiljfppjcaaGreatDoor

namespace Go.Proofs.YtbpajiljfppjcaaGreatDoor
open Go.RowKit
attribute [local go_sem ↓] Go.wp_at_zero Go.wp_at_succ

theorem Mok.put {S : Rt.Src} {m : Rt.Mc} (h : Mok S m) (s : Rt.Spot) (v : Int) : Mok S (Rt.putS m s v) := by
  unfold Rt.putS
  split
  · split
    · refine ⟨h.pls, h.input, h.frames, by simpa using h.values, h.output, h.params, ?_, h.forms⟩
      intro l hl
      obtain ⟨i, hi, rfl⟩ := List.getElem_of_mem hl
      simp only [List.length_modify] at hi
      rw [List.getElem_modify]
      split
      · rw [List.length_set]; exact h.cells _ (List.getElem_mem hi)
      · exact h.cells _ (List.getElem_mem hi)
    · refine ⟨h.pls, h.input, by simpa using h.frames, h.values, h.output, ?_, h.cells, h.forms⟩
      intro l hl
      obtain ⟨i, hi, rfl⟩ := List.getElem_of_mem hl
      simp only [List.length_modify] at hi
      rw [List.getElem_modify]
      split
      · simp only [List.length_set]; exact h.params _ (List.getElem_mem hi)
      · exact h.params _ (List.getElem_mem hi)
  · exact h

/-- What a call says that leaves the machine's rows where they are. -/
def PutP (M B : Nat) (ty : TypeId) (tail : List Value) (S : Rt.Src) (m m' : Rt.Mc) (X : McX) (w w' : World) : Prop := McS w' M B ty tail S m' X ∧ Frm w w' (blks (rowsOf S.input X m))

set_option maxHeartbeats 1000000 in
theorem put_any (w : World) (M B : Nat) (ty : TypeId) (tail : List Value) (S : Rt.Src) (m : Rt.Mc) (X : McX) (s : Rt.Spot) (v : Int) (h : McS w M B ty tail S m X) (hm : Mok S m) :
    Calls Tryz.prog 127 #[.pointer (some ⟨M, 0, none⟩), .agg #[.int .i64 s.line, .int .i64 s.cell], .int .i64 v] w fun e w' => e = .returned (.tuple #[]) ∧ PutP M B ty tail S m (Rt.putS m s v) X w w' := by
  have hcl := cells_len hm s.line
  have hbA := (Below.refl w.heap.size w).alloc (Nat.le_refl _) (.cells #[.int .i64 s.line, .int .i64 s.cell] 131)
  have hA := h.later hbA
  clear h
  go_enter Tryz.func127, Tryz.ntmps127
  go_wp2_with fail
  refine (cells_any _ M B ty tail S m X s.line hA hm).mono ?_
  rintro e w1 ⟨rfl, hb⟩
  have h1 := hA.later hb
  have hrow := h1.cellsRow s.line
  have hB := hbA.trans (hb.mono (B' := w.heap.size) (by simp))
  have hS := block_later (heap_alloc_new w (.cells #[.int .i64 s.line, .int .i64 s.cell] 131)) hb
  have cS := cell_of_block hS 1 (by simp)
  simp at cS
  have HH := hide (And.intro h1 hB)
  by_cases hh : Rt.hasS m s = true
  · obtain ⟨g, cap, hgv, hglt, q1, q2⟩ := h1.stored s hh v
    have hin : 0 ≤ s.cell ∧ s.cell < (Rt.cellsOf m s.line).length := of_decide_eq_true hh
    rw [hgv] at hrow ⊢
    have hfr := hrow.frozenAt s.cell.toNat
    have HF : Hid (PutP M B ty tail S m (Rt.putS m s v) X w (w1.setCell ⟨g, s.cell.toNat, none⟩ (.int .i64 v))) := hide ⟨q1, (Frm.of_below _ hB).trans q2 (Grows.refl _ _)⟩
    obtain ⟨g2, cap2, hgv2, _, _, ca⟩ := own_cell hrow (j := s.cell.toNat) (u := .int .i64 ((Rt.cellsOf m s.line)[s.cell.toNat]'(by omega))) (by simp [intsV, List.getElem?_eq_getElem (show s.cell.toNat < (Rt.cellsOf m s.line).length by omega)])
    injection hgv2 with e1 _ e2
    injection e1 with e1
    injection e1 with e1
    subst e1
    have hgS : ¬ g = w.heap.size := by
      intro e
      obtain ⟨c, hc⟩ := own_blk hrow (g := g) rfl
      rw [e, hS] at hc
      injection hc with hc
      injection hc with _ hc
      exact absurd hc (by decide)
    clear hrow hb hA hbA hS h1 hB q1 q2 hm hgv hh e2
    generalize (Rt.cellsOf m s.line)[s.cell.toNat]'(by omega) = old at *
    generalize (Rt.cellsOf m s.line).length = n at *
    obtain ⟨k, hk⟩ := Int.eq_ofNat_of_zero_le hin.1
    rw [hk] at cS HF hfr ca hin
    simp only [Int.toNat_natCast] at HF hfr ca
    have k1 : ¬ (k : Int) < 0 := by omega
    have k2 : ¬ (n : Int) ≤ (k : Int) := by omega
    have k3 : (k : Int) < (n : Int) := by omega
    have k0 : (0 : Int) ≤ (k : Int) := by omega
    clear hin
    go_wp2_with fail
    go_end0
    exact ⟨rfl, unhide HF⟩
  · have hout : ¬ (0 ≤ s.cell ∧ s.cell < (Rt.cellsOf m s.line).length) := fun e => hh (decide_eq_true e)
    have HF : Hid (PutP M B ty tail S m (Rt.putS m s v) X w w1) := by
      refine hide ?_
      rw [show Rt.putS m s v = m by unfold Rt.putS; rw [if_neg hh]]
      exact ⟨h1, Frm.of_below _ hB⟩
    obtain ⟨ad, cap, hv⟩ := ownsRow_form hrow
    rw [hv]
    clear hrow hb hA hbA hS h1 hB hm hh hv
    generalize (Rt.cellsOf m s.line).length = n at *
    generalize s.cell = c at *
    by_cases hc : c < 0
    · clear hout
      go_wp2_with fail
      refine bodyPost_ret (results_none rfl _ _ _) rfl ?_
      exact ⟨rfl, unhide HF⟩
    · have hc2 : (n : Int) ≤ c := by omega
      clear hout
      go_wp2_with fail
      refine bodyPost_ret (results_none rfl _ _ _) rfl ?_
      exact ⟨rfl, unhide HF⟩

set_option maxHeartbeats 1000000 in
theorem has_any (w : World) (M B : Nat) (ty : TypeId) (tail : List Value) (S : Rt.Src) (m : Rt.Mc) (X : McX) (s : Rt.Spot) (h : McS w M B ty tail S m X) (hm : Mok S m) :
    Calls Tryz.prog 132 #[.pointer (some ⟨M, 0, none⟩), .agg #[.int .i64 s.line, .int .i64 s.cell]] w fun e w' => e = .returned (.bool (Rt.hasS m s)) ∧ Below w.heap.size w w' := by
  have hcl := cells_len hm s.line
  have hbA := (Below.refl w.heap.size w).alloc (Nat.le_refl _) (.cells #[.int .i64 s.line, .int .i64 s.cell] 131)
  have hA := h.later hbA
  clear h
  go_enter Tryz.func132, Tryz.ntmps132
  go_wp2_with fail
  refine (cells_any _ M B ty tail S m X s.line hA hm).mono ?_
  rintro e w1 ⟨rfl, hb⟩
  have hrow := own_later (hA.cellsRow s.line) hb
  have HB := hide (hbA.trans (hb.mono (B' := w.heap.size) (by simp)))
  have hS := block_later (heap_alloc_new w (.cells #[.int .i64 s.line, .int .i64 s.cell] 131)) hb
  have cS := cell_of_block hS 1 (by simp)
  simp at cS
  obtain ⟨ad, cap, hv⟩ := ownsRow_form hrow
  rw [hv]
  have HE := hide (show Rt.hasS m s = decide (0 ≤ s.cell ∧ s.cell < (Rt.cellsOf m s.line).length) from rfl)
  clear hrow hb hA hbA hS hm hv
  generalize (Rt.cellsOf m s.line).length = n at *
  generalize s.cell = c at *
  by_cases h1 : 0 ≤ c
  · by_cases h2 : c < (n : Int)
    · have HR := hide (show Rt.hasS m s = true by rw [unhide HE]; exact decide_eq_true ⟨h1, h2⟩)
      go_wp2_with fail
      go_ret
      exact ⟨by rw [unhide HR]; rfl, unhide HB⟩
    · have HR := hide (show Rt.hasS m s = false by rw [unhide HE]; exact decide_eq_false (fun e => h2 e.2))
      go_wp2_with fail
      go_ret
      exact ⟨by rw [unhide HR]; exact ret_bool (decide_eq_false (by omega)), unhide HB⟩
  · have HR := hide (show Rt.hasS m s = false by rw [unhide HE]; exact decide_eq_false (fun e => h1 e.1))
    go_wp2_with fail
    go_ret
    exact ⟨by rw [unhide HR]; rfl, unhide HB⟩

theorem rows_not {w : World} {inp : List Int} {X : McX} {m : Rt.Mc} (h : Own w (rowsOf inp X m)) {N : Nat} {cs : Array Value} {t : TypeId} (hN : w.heap[N]? = some (.cells cs t (0, 0))) (ht : t ≠ 3 ∧ t ≠ 124 ∧ t ≠ 22) : N ∉ blks (rowsOf inp X m) := by
  intro e
  obtain ⟨r, hr, hg⟩ := List.mem_filterMap.mp e
  obtain ⟨c, hc⟩ := own_blk (h.rows r hr) hg
  rw [hN] at hc
  injection hc with hc
  injection hc with _ hc
  have := rows_ty3 hr
  rw [← hc] at this
  rcases this with e | e | e
  · exact ht.1 e
  · exact ht.2.1 e
  · exact ht.2.2 e
theorem PutP.aside {M B : Nat} {ty : TypeId} {tail : List Value} {S : Rt.Src} {m m' : Rt.Mc} {X : McX} {w w' : World} (h : PutP M B ty tail S m m' X w w') (hMw : M < w.heap.size) {N : Nat} {cs : Array Value} {t : TypeId} (hN : w'.heap[N]? = some (.cells cs t (0, 0))) (hlt : w.heap.size ≤ N) (ht : ¬ PTy t ∧ t ≠ 3 ∧ t ≠ 124 ∧ t ≠ 22) (i : Nat) (v : Value) : PutP M B ty tail S m m' X w (w'.setCell ⟨N, i, none⟩ v) := by
  refine ⟨h.1.aside hN (by omega) ht i v, ⟨h.2.os, h.2.tape, h.2.output, Nat.le_trans h.2.size (by simp [World.setCell]), fun k hk hn => ?_⟩⟩
  rw [Below.heap_setCell w' ⟨N, i, none⟩ v k (by show k ≠ N; omega)]
  exact h.2.block k hk hn
abbrev W5 (w : World) (N : Nat) (a b c d e : Value) : World := ((((w.setCell ⟨N, 0, none⟩ a).setCell ⟨N, 1, none⟩ b).setCell ⟨N, 2, none⟩ c).setCell ⟨N, 3, none⟩ d).setCell ⟨N, 4, none⟩ e
theorem PutP.five {M B : Nat} {ty : TypeId} {tail : List Value} {S : Rt.Src} {m m' : Rt.Mc} {X : McX} {w w' : World} (h : PutP M B ty tail S m m' X w w') (hMw : M < w.heap.size) {N : Nat} {cs : Array Value} {t : TypeId} (hN : w'.heap[N]? = some (.cells cs t (0, 0))) (hlt : w.heap.size ≤ N) (ht : ¬ PTy t ∧ t ≠ 3 ∧ t ≠ 124 ∧ t ≠ 22) (a b c d e : Value) : PutP M B ty tail S m m' X w (W5 w' N a b c d e) := by
  have n1 := set_block hN 0 a
  have n2 := set_block n1 1 b
  have n3 := set_block n2 2 c
  have n4 := set_block n3 3 d
  exact ((((h.aside hMw hN hlt ht 0 a).aside hMw n1 hlt ht 1 b).aside hMw n2 hlt ht 2 c).aside hMw n3 hlt ht 3 d).aside hMw n4 hlt ht 4 e
theorem five_cells {w : World} {N : Nat} {t : TypeId} {v0 v1 v2 v3 v4 : Value} (h : w.heap[N]? = some (.cells #[v0, v1, v2, v3, v4] t (0, 0))) :
    w.cell? ⟨N, 0, none⟩ = some v0 ∧ w.cell? ⟨N, 1, none⟩ = some v1 ∧ w.cell? ⟨N, 2, none⟩ = some v2 ∧ w.cell? ⟨N, 3, none⟩ = some v3 ∧ w.cell? ⟨N, 4, none⟩ = some v4 :=
  ⟨cell_of_block h 0 (by simp), cell_of_block h 1 (by simp), cell_of_block h 2 (by simp), cell_of_block h 3 (by simp), cell_of_block h 4 (by simp)⟩
set_option maxHeartbeats 1000000 in
theorem store_any (w : World) (M B : Nat) (ty : TypeId) (tail : List Value) (S : Rt.Src) (m : Rt.Mc) (X : McX) (s : Rt.Spot) (v : Int) (h : McS w M B ty tail S m X) (hm : Mok S m) :
    Calls Tryz.prog 122 #[.pointer (some ⟨M, 0, none⟩), .agg #[.int .i64 s.line, .int .i64 s.cell], .int .i64 v] w fun e w' => e = .returned (.agg #[.int .i64 4, .int .i64 0, .int .i64 s.line, .int .i64 s.cell, .int .i64 (Rt.getS m s)]) ∧ PutP M B ty tail S m (Rt.putS m s v) X w w' := by
  have hMw := block_lt h.block
  have hbA := (Below.refl w.heap.size w).alloc (Nat.le_refl _) (.cells #[.int .i64 s.line, .int .i64 s.cell] 131)
  have hbB := hbA.alloc (by simp) (.cells #[.int .i64 0, .int .i64 0, .int .i64 0, .int .i64 0, .int .i64 0] 133)
  have hA := h.later hbB
  have bS := block_alloc (heap_alloc_new w (.cells #[.int .i64 s.line, .int .i64 s.cell] 131)) (.cells #[.int .i64 0, .int .i64 0, .int .i64 0, .int .i64 0, .int .i64 0] 133)
  have bR := alloc2_plain w (.cells #[.int .i64 s.line, .int .i64 s.cell] 131) (.cells #[.int .i64 0, .int .i64 0, .int .i64 0, .int .i64 0, .int .i64 0] 133)
  clear h hbA
  go_enter Tryz.func122, Tryz.ntmps122
  go_wp2_with fail
  refine (get_any _ M B ty tail S m X s hA hm).mono ?_
  rintro e w1 ⟨rfl, hb1⟩
  have h1 := hA.later hb1
  have hB1 := hbB.trans (hb1.mono (B' := w.heap.size) (by simp; omega))
  have bS1 := block_later bS hb1
  have bR1 := block_later bR hb1
  have k0 := cell_of_block bS1 0 (by simp)
  have k1 := cell_of_block bS1 1 (by simp)
  simp at k0 k1
  clear hA hbB bS bR hb1
  generalize HOLD : Rt.getS m s = old at *
  go_wp2_with fail
  refine (put_any _ M B ty tail S m X s v h1 hm).mono ?_
  rintro e w2 ⟨rfl, h2, hf2⟩
  have hnS := rows_not h1.own bS1 (by decide)
  have hnR := rows_not h1.own bR1 (by decide)
  have bS2 := (hf2.block _ (block_lt bS1) hnS).trans bS1
  have bR2 := (hf2.block _ (block_lt bR1) hnR).trans bR1
  have q0 := cell_of_block bS2 0 (by simp)
  have q1 := cell_of_block bS2 1 (by simp)
  simp at q0 q1
  obtain ⟨r0, r1, r2, r3, r4⟩ := five_cells bR2
  have z := free_of_block bR2
  have HF := hide (show PutP M B ty tail S m (Rt.putS m s v) X w w2 from ⟨h2, (Frm.of_below _ hB1).trans hf2 (Grows.refl _ _)⟩)
  have hMlt : M < w.heap.size := hMw
  have HF2 := hide (fun a b c d e => (unhide HF).five hMlt bR2 (by omega) (by unfold PTy; decide) a b c d e)
  clear h1 h2 hf2 hB1 hm bS1 bR1 hnS hnR k0 k1 HF bS2 bR2
  go_wp2_with fail
  refine bodyPost_ret (v := .agg #[.int .i64 4, .int .i64 0, .int .i64 s.line, .int .i64 s.cell, .int .i64 old]) ?_ rfl ⟨by rw [HOLD], unhide HF2 _ _ _ _ _⟩
  simp [results, Tryz.results122, go_sem, r0, r1, r2, r3, r4]

namespace Rt
theorem parNo_eq : ∀ (i : Nat) (l : List ByteArray) (x : ByteArray), parNo i l x = parFrom i l x
  | _, [], _ => rfl
  | i, p :: r, x => by rw [parNo, parFrom, parNo_eq (i + 1) r x]
theorem varS_eq (S : Src) (m : Mc) (x : ByteArray) : varS S m x = if 0 ≤ parIdx S.pls (procOf S m) x then ⟨0, parIdx S.pls (procOf S m) x⟩ else ⟨declP S.pls x, 0⟩ := by
  unfold varS parIdx
  rw [parNo_eq]
end Rt
set_option maxHeartbeats 1000000 in
theorem mvar_any (w : World) (M B : Nat) (ty : TypeId) (tail : List Value) (S : Rt.Src) (m : Rt.Mc) (X : McX) (x : ByteArray) (h : McS w M B ty tail S m X) (hm : Mok S m) :
    Calls Tryz.prog 110 #[.pointer (some ⟨M, 0, none⟩), .string x] w fun e w' => e = .returned (.agg #[.int .i64 (Rt.varS S m x).line, .int .i64 (Rt.varS S m x).cell]) ∧ Below w.heap.size w w' := by
  have hpar := Rt.small_formAt hm.forms (Rt.procOf S m)
  have hlen := hm.pls
  have hbA := (Below.refl w.heap.size w).alloc (Nat.le_refl _) (.cells #[.int .i64 0, .int .i64 0] 131)
  have hA := h.later hbA
  have bR := heap_alloc_new w (.cells #[.int .i64 0, .int .i64 0] 131)
  have HV := hide (Rt.varS_eq S m x)
  clear h hm
  go_enter Tryz.func110, Tryz.ntmps110
  go_wp2_with fail
  refine (proc_any _ M B ty tail S m X hA).mono ?_
  rintro e w1 ⟨rfl, hb1⟩
  have h1 := hA.prog.later hb1
  have hB1 := hbA.trans (hb1.mono (B' := w.heap.size) (by simp))
  have bR1 := block_later bR hb1
  clear hA hbA hb1 bR
  generalize Rt.procOf S m = pc at *
  go_wp2_with fail
  refine (Param_m _ _ _ _ _ _ _ pc x h1 hpar).mono ?_
  rintro e w2 ⟨rfl, hb2⟩
  have h2 := h1.later hb2
  have hB2 := hB1.trans (hb2.mono (B' := w.heap.size) hB1.size)
  have bR2 := block_later bR1 hb2
  clear h1 hB1 hb2 bR1
  generalize Rt.parIdx S.pls pc x = pi at *
  by_cases hpi : 0 ≤ pi
  · have HE := hide (show Rt.varS S m x = ⟨0, pi⟩ by rw [unhide HV, if_pos hpi])
    have q0 := cell_of_block bR2 0 (by simp)
    have q1 := cell_of_block bR2 1 (by simp)
    have z := free_of_block bR2
    simp at q0 q1
    have HB := hide (fun a b : Value => (hB2.setCell (p := ⟨w.heap.size, 0, none⟩) (Nat.le_refl _) a).setCell (p := ⟨w.heap.size, 1, none⟩) (Nat.le_refl _) b)
    clear h2 hB2 HV hpar bR2
    go_wp2_with fail
    refine bodyPost_ret (v := .agg #[.int .i64 0, .int .i64 pi]) ?_ rfl ⟨by rw [unhide HE], unhide HB _ _⟩
    simp [results, Tryz.results110, go_sem, q0, q1]
  · have HE := hide (show Rt.varS S m x = ⟨Rt.declP S.pls x, 0⟩ by rw [unhide HV, if_neg hpi])
    have hpi' : ¬ 0 ≤ pi := hpi
    clear HV hpar
    go_wp2_with fail
    refine (declaration_m _ _ _ _ _ _ _ x h2 hlen).mono ?_
    rintro e w3 ⟨rfl, rfl⟩
    have q0 := cell_of_block bR2 0 (by simp)
    have q1 := cell_of_block bR2 1 (by simp)
    have z := free_of_block bR2
    simp at q0 q1
    have HB := hide (fun a b : Value => (hB2.setCell (p := ⟨w.heap.size, 0, none⟩) (Nat.le_refl _) a).setCell (p := ⟨w.heap.size, 1, none⟩) (Nat.le_refl _) b)
    clear h2 hB2 bR2
    generalize Rt.declP S.pls x = dp at *
    go_wp2_with fail
    refine bodyPost_ret (v := .agg #[.int .i64 dp, .int .i64 0]) ?_ rfl ⟨by rw [unhide HE], unhide HB _ _⟩
    simp [results, Tryz.results110, go_sem, q0, q1]

/-- What looking for a cell says. -/
def cellR : Option Rt.Spot → Value
  | none => .tuple #[.agg #[.int .i64 0, .int .i64 0], .bool false]
  | some s => .tuple #[.agg #[.int .i64 s.line, .int .i64 s.cell], .bool true]
set_option maxHeartbeats 1000000 in
theorem mcell_any (w : World) (M B : Nat) (ty : TypeId) (tail : List Value) (S : Rt.Src) (m : Rt.Mc) (X : McX) (x : ByteArray) (n : Int) (h : McS w M B ty tail S m X) (hm : Mok S m) :
    Calls Tryz.prog 113 #[.pointer (some ⟨M, 0, none⟩), .string x, .int .i64 n] w fun e w' => e = .returned (cellR (Rt.cellS S m x n)) ∧ Below w.heap.size w w' := by
  have hlen := hm.pls
  have hbA := (Below.refl w.heap.size w).alloc (Nat.le_refl _) (.cells #[.int .i64 0, .int .i64 0] 131)
  have hA := h.later hbA
  clear h
  go_enter Tryz.func113, Tryz.ntmps113
  go_wp2_with fail
  refine (declaration_m _ _ _ _ _ _ _ x hA.prog hlen).mono ?_
  rintro e w1 ⟨rfl, rfl⟩
  have HC := hide (show Rt.cellS S m x n = if Rt.hasS m ⟨Rt.declP S.pls x, n⟩ = true then some ⟨Rt.declP S.pls x, n⟩ else none from rfl)
  generalize HDP : (Rt.declP S.pls x : Int) = dp at *
  have hbB := hbA.alloc (by simp) (.cells #[.int .i64 dp, .int .i64 n] 131)
  have hB := hA.later ((Below.refl _ _).alloc (Nat.le_refl _) (.cells #[.int .i64 dp, .int .i64 n] 131))
  have bR := block_alloc (heap_alloc_new w (.cells #[.int .i64 0, .int .i64 0] 131)) (.cells #[.int .i64 dp, .int .i64 n] 131)
  have bS := alloc2_plain w (.cells #[.int .i64 0, .int .i64 0] 131) (.cells #[.int .i64 dp, .int .i64 n] 131)
  clear hA hbA
  go_wp2_with fail
  refine (has_any _ M B ty tail S m X ⟨dp, n⟩ hB hm).mono ?_
  rintro e w2 ⟨rfl, hb2⟩
  have hB2 := hbB.trans (hb2.mono (B' := w.heap.size) (by simp; omega))
  have bR2 := block_later bR hb2
  have bS2 := block_later bS hb2
  have q0 := cell_of_block bR2 0 (by simp)
  have q1 := cell_of_block bR2 1 (by simp)
  have z := free_of_block bR2
  have s0 := cell_of_block bS2 0 (by simp)
  have s1 := cell_of_block bS2 1 (by simp)
  simp at q0 q1 s0 s1
  have HB := hide (fun a b : Value => (hB2.setCell (p := ⟨w.heap.size, 0, none⟩) (Nat.le_refl _) a).setCell (p := ⟨w.heap.size, 1, none⟩) (Nat.le_refl _) b)
  clear hbB hB hb2 hB2 bR bS bR2 bS2 hm
  cases hh : Rt.hasS m ⟨dp, n⟩ with
  | true =>
    have HE := hide (show Rt.cellS S m x n = some ⟨dp, n⟩ by rw [unhide HC, if_pos hh])
    clear HC hh
    go_wp2_with fail
    refine bodyPost_ret (v := .tuple #[.agg #[.int .i64 dp, .int .i64 n], .bool true]) ?_ rfl ⟨by rw [unhide HE]; rfl, unhide HB _ _⟩
    simp [results, Tryz.results113, go_sem, q0, q1]
  | false =>
    have HE := hide (show Rt.cellS S m x n = none by rw [unhide HC, if_neg (by rw [hh]; simp)])
    clear HC hh
    go_wp2_with fail
    refine bodyPost_ret (v := .tuple #[.agg #[.int .i64 0, .int .i64 0], .bool false]) ?_ rfl ⟨by rw [unhide HE]; rfl, unhide HB _ _⟩
    simp [results, Tryz.results113, go_sem, q0, q1]
end Go.Proofs.YtbpajiljfppjcaaGreatDoor

