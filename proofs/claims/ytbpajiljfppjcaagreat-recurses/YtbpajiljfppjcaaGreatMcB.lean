/- The machine in memory: a cell is stored. -/
import Derived.Test.YtbpajiljfppjcaaGreatMcA
namespace Go.Proofs.YtbpajiljfppjcaaGreat
open Go.RowKit

theorem zip_split {α β γ : Type} (f : α → β → γ) : ∀ (a : List α) (b : List β) (i : Nat) (ha : i < a.length) (hb : i < b.length), ∃ P Q, List.zipWith f a b = P ++ f a[i] b[i] :: Q ∧ ∀ g : β → β, List.zipWith f a (b.modify i g) = P ++ f a[i] (g b[i]) :: Q
  | [], _, _, ha, _ => by simp at ha
  | _ :: _, [], _, _, hb => by simp at hb
  | x :: a, y :: b, 0, _, _ => ⟨[], List.zipWith f a b, rfl, fun g => by simp⟩
  | x :: a, y :: b, i + 1, ha, hb => by
    obtain ⟨P, Q, h1, h2⟩ := zip_split f a b i (by simpa using ha) (by simpa using hb)
    refine ⟨f x y :: P, Q, ?_, fun g => ?_⟩
    · simp only [List.zipWith_cons_cons, h1, List.getElem_cons_succ, List.cons_append]
    · simp only [List.modify_succ_cons, List.zipWith_cons_cons, h2 g, List.getElem_cons_succ, List.cons_append]
theorem fCells_mod : ∀ (vs : List Value) (fs : List Rt.Fm) (i : Nat) (g : List Int → List Int), fCells vs (fs.modify i (fun f => ⟨g f.params, f.call⟩)) = fCells vs fs
  | [], _, _, _ => by cases ‹List Rt.Fm› <;> rfl
  | _ :: _, [], i, _ => by cases i <;> rfl
  | v :: vs, f :: fs, 0, g => by simp [fCells]
  | v :: vs, f :: fs, i + 1, g => by simp only [List.modify_succ_cons, fCells, fCells_mod vs fs i g]
theorem map_mod (fs : List Rt.Fm) (i : Nat) (g : List Int → List Int) : (fs.modify i (fun f => ⟨g f.params, f.call⟩)).map Rt.Fm.params = (fs.map Rt.Fm.params).modify i g := by
  induction fs generalizing i with
  | nil => cases i <;> rfl
  | cons f fs ih => cases i with
    | zero => rfl
    | succ i => simp [ih]
theorem intsV_set (l : List Int) (c : Nat) (v : Int) : intsV (l.set c v) = (intsV l).set c (.int .i64 v) := by simp [intsV, List.map_set]

/-- The types of the program's rows. -/
def PTy (t : TypeId) : Prop := t = 79 ∨ t = 127 ∨ t = 9 ∨ t = 141 ∨ t = 74
/-- A machine with other rows, in a world in which the program's blocks are as they were. -/
theorem McS.next {w w' : World} {M B : Nat} {ty : TypeId} {tail tail' : List Value} {S : Rt.Src} {m m' : Rt.Mc} {X X' : McX} (h : McS w M B ty tail S m X)
    (hM : w'.heap[M]? = some (.cells ([X'.lv, X'.iv, X'.fv, X'.vv, .int .i64 m'.taken, X'.ov, .int .i64 m'.line, .int .i64 m'.fin] ++ tail').toArray ty (0, 0))) (hs : w.heap.size ≤ w'.heap.size)
    (hk : ∀ (k : Nat) (x : Obj), w.heap[k]? = some x → k ≠ M → (∃ c t, x = Obj.cells c t (0, 0) ∧ PTy t) → w'.heap[k]? = some x) (ho : Own w' (rowsOf S.input X' m')) (hl : X'.lv = X.lv) (hc : X'.cs = X.cs)
    (fl : X'.fps.length = m'.frames.length) (vl : X'.vps.length = m'.values.length) : McS w' M B ty tail' S m' X' := by
  have hr : ∀ (B : Nat) (t : TypeId) (size n : Nat) (v : Value) (xs : List Value), t ≠ ty → PTy t → w.ownsRow B t size v n xs → w'.ownsRow B t size v n xs := by
    intro B t size n v xs n0 n1 hv
    refine own_same hv (fun g hg => ?_)
    obtain ⟨c, hc⟩ := own_blk hv hg
    rw [hc]
    refine hk g _ hc ?_ ⟨_, _, rfl, n1⟩
    intro e
    rw [e, h.block] at hc
    injection hc with hc
    injection hc with _ hc
    exact n0 hc.symm
  obtain ⟨_, _, _, t1, t2, t3, t4, t5⟩ := h.ty
  have hK : ∀ {v : Array Value} {fm : Rt.PForm}, FormV w B v fm → FormV w' B v fm := by
    intro v fm hf
    obtain ⟨pv, iv, vv, vs, rfl, h1, h2, h3, h4⟩ := hf
    exact ⟨pv, iv, vv, vs, rfl, hr _ _ _ _ _ _ (Ne.symm t3) (Or.inr (Or.inr (Or.inl rfl))) h1, hr _ _ _ _ _ _ (Ne.symm t4) (Or.inr (Or.inr (Or.inr (Or.inl rfl)))) h2, hr _ _ _ _ _ _ (Ne.symm t5) (Or.inr (Or.inr (Or.inr (Or.inr rfl)))) h3, ExprsR.map (fun x o hh => hr _ _ _ _ _ _ (Ne.symm t4) (Or.inr (Or.inr (Or.inr (Or.inl rfl)))) hh) _ _ h4⟩
  have hlines : ∀ ps cs, LinesV w B ps cs → LinesV w' B ps cs := by
    intro ps
    induction ps with
    | nil => intro cs h; cases cs with
      | nil => trivial
      | cons _ _ => exact h.elim
    | cons p ps ih => intro cs h; cases cs with
      | nil => exact h.elim
      | cons c cs =>
        obtain ⟨⟨tv, fv, xe, xf, e, g1, g2⟩, h2⟩ := h
        exact ⟨⟨tv, fv, xe, xf, e, hr _ _ _ _ _ _ (Ne.symm t2) (Or.inr (Or.inl rfl)) g1, hK g2⟩, ih cs h2⟩
  have hcell : w'.cell? ⟨M, 0, none⟩ = some X'.lv := by have := cell_of_block hM 0 (by simp); simpa using this
  refine ⟨hM, ⟨Nat.lt_of_lt_of_le h.prog.lt hs, hcell, ?_, ?_, ?_, h.prog.len⟩, ho, fl, vl, h.ty⟩
  · rw [hl, hc]; exact hr _ _ _ _ _ _ (Ne.symm t1) (Or.inl rfl) h.prog.own
  · rw [hc]; exact hlines _ _ h.prog.lines
  · rw [hl]
    refine h.prog.links.same (fun g hg => ?_)
    obtain ⟨c, hc⟩ := own_blk h.prog.own hg
    rw [hc]
    refine hk g _ hc ?_ ⟨_, _, rfl, Or.inl rfl⟩
    intro e
    rw [e, h.block] at hc
    injection hc with hc
    injection hc with _ hc
    exact t1 hc

theorem row_store {w : World} {A C : List Rw} {v : Value} {l : List Int} (h : Own w (A ++ iRow v l :: C)) {g : Nat} (hg : v.ownBlock = some g) (c : Nat) (x : Int) :
    Own (w.setCell ⟨g, c, none⟩ (.int .i64 x)) (A ++ iRow v (l.set c x) :: C) ∧ Frm w (w.setCell ⟨g, c, none⟩ (.int .i64 x)) (blks (A ++ iRow v l :: C)) := by
  have hrow : w.ownsRow 0 3 1 v l.length (intsV l) := h.rows (iRow v l) (by simp)
  obtain ⟨ad, cap, rfl⟩ := ownsRow_form hrow
  have hv : ad = some ⟨g, 0, none⟩ := by
    rcases hrow.2 with ⟨h', _⟩ | ⟨g', cap', cur, h', _⟩
    · rw [h'] at hg; cases hg
    · rw [h'] at hg
      simp [Value.ownBlock] at hg
      injection h' with h' _ _
      rw [h', hg]
  subst hv
  have hother : ∀ k, k ≠ g → (w.setCell ⟨g, c, none⟩ (.int .i64 x)).heap[k]? = w.heap[k]? := fun k hk => Below.heap_setCell w ⟨g, c, none⟩ _ k hk
  have hst := (hrow.stored c (.int .i64 x)).1
  rw [← intsV_set] at hst
  refine ⟨(h.swap (r' := iRow (.slice (some ⟨g, 0, none⟩) l.length cap) (l.set c x)) (fun k _ hk => hother k (fun e => hk (by rw [e]; rfl))) ?_ (fun g' hg' => Or.inl hg')).1, ⟨rfl, rfl, rfl, by simp [World.setCell], fun k hk hn => hother k (fun e => hn ?_)⟩⟩
  · show World.ownsRow _ 0 3 1 _ (l.set c x).length _
    rw [List.length_set]
    exact hst
  · rw [e]
    exact mem_blks (r := iRow (.slice (some ⟨g, 0, none⟩) l.length cap) l) (by simp) rfl

theorem rows_ty3 {inp : List Int} {X : McX} {m : Rt.Mc} {r : Rw} (h : r ∈ rowsOf inp X m) : r.t = 3 ∨ r.t = 68 ∨ r.t = 24 := by
  unfold rowsOf at h
  have hz : ∀ (a : List Value) (b : List (List Int)), r ∈ List.zipWith iRow a b → r.t = 3 := by
    intro a
    induction a with
    | nil => intro b hb; simp at hb
    | cons x a ih => intro b hb; cases b with
      | nil => simp at hb
      | cons y b =>
        rw [List.zipWith_cons_cons] at hb
        rcases List.mem_cons.mp hb with rfl | hb
        · rfl
        · exact ih b hb
  rcases List.mem_append.mp h with h | h
  · simp only [List.mem_cons, List.not_mem_nil, or_false] at h
    rcases h with rfl | rfl | rfl | rfl
    · exact Or.inl rfl
    · exact Or.inr (Or.inl rfl)
    · exact Or.inr (Or.inr rfl)
    · exact Or.inl rfl
  · rcases List.mem_append.mp h with h | h
    · exact Or.inl (hz _ _ h)
    · exact Or.inl (hz _ _ h)
/-- The cell that is stored. -/
theorem McS.stored {w : World} {M B : Nat} {ty : TypeId} {tail : List Value} {S : Rt.Src} {m : Rt.Mc} {X : McX} (h : McS w M B ty tail S m X) (s : Rt.Spot) (hs : Rt.hasS m s = true) (x : Int) :
    ∃ g cap, cellsV X m s.line = .slice (some ⟨g, 0, none⟩) (Rt.cellsOf m s.line).length cap ∧ g < w.heap.size ∧ McS (w.setCell ⟨g, s.cell.toNat, none⟩ (.int .i64 x)) M B ty tail S (Rt.putS m s x) X ∧ Frm w (w.setCell ⟨g, s.cell.toNat, none⟩ (.int .i64 x)) (blks (rowsOf S.input X m)) := by
  have hin : 0 ≤ s.cell ∧ s.cell < (Rt.cellsOf m s.line).length := of_decide_eq_true hs
  have hcr := h.cellsRow s.line
  have hpos : 0 < (Rt.cellsOf m s.line).length := by omega
  obtain ⟨g, cap, hgv, _, hglt, _⟩ := own_cell hcr (j := 0) (u := .int .i64 ((Rt.cellsOf m s.line)[0])) (by simp [intsV, List.getElem?_eq_getElem hpos])
  have hgb : (cellsV X m s.line).ownBlock = some g := by rw [hgv]; rfl
  have hgI : ∃ c, w.heap[g]? = some (.cells c 3 (0, 0)) := own_blk hcr hgb
  have hMg : M ≠ g := by
    intro e
    obtain ⟨c, hc⟩ := hgI
    rw [← e, h.block] at hc
    injection hc with hc
    injection hc with _ hc
    exact h.ty.1 hc
  have hk : ∀ (k : Nat) (y : Obj), w.heap[k]? = some y → k ≠ M → (∃ c t, y = Obj.cells c t (0, 0) ∧ PTy t) → (w.setCell ⟨g, s.cell.toNat, none⟩ (.int .i64 x)).heap[k]? = some y := by
    intro k y hy _ hne
    rw [Below.heap_setCell w ⟨g, s.cell.toNat, none⟩ _ k (fun e => by
      obtain ⟨c, hc⟩ := hgI
      have e' : k = g := e
      rw [e', hc] at hy
      injection hy with hy
      obtain ⟨c', t', e2, ht⟩ := hne
      rw [← hy] at e2
      injection e2 with _ e2
      rw [← e2] at ht
      exact absurd ht (by unfold PTy; decide))]
    exact hy
  have hMM : (w.setCell ⟨g, s.cell.toNat, none⟩ (.int .i64 x)).heap[M]? = w.heap[M]? := Below.heap_setCell w ⟨g, s.cell.toNat, none⟩ _ M hMg
  have hsz : w.heap.size ≤ (w.setCell ⟨g, s.cell.toNat, none⟩ (.int .i64 x)).heap.size := by simp [World.setCell]
  have key : ∃ A C l v, rowsOf S.input X m = A ++ iRow v l :: C ∧ v = cellsV X m s.line ∧ rowsOf S.input X (Rt.putS m s x) = A ++ iRow v (l.set s.cell.toNat x) :: C ∧ (Rt.putS m s x).taken = m.taken ∧ (Rt.putS m s x).line = m.line ∧ (Rt.putS m s x).fin = m.fin ∧ (Rt.putS m s x).frames.length = m.frames.length ∧ (Rt.putS m s x).values.length = m.values.length := by
    by_cases h1 : 0 < s.line ∧ s.line < m.values.length
    · have hi : s.line.toNat < m.values.length := by omega
      have hi' : s.line.toNat < X.vps.length := by rw [h.vl]; exact hi
      obtain ⟨P, Q, z1, z2⟩ := zip_split iRow X.vps m.values s.line.toNat hi' hi
      have ep : Rt.putS m s x = { m with values := m.values.modify s.line.toNat (fun c => c.set s.cell.toNat x) } := by
        unfold Rt.putS; rw [if_pos hs, if_pos h1.1]
      refine ⟨[iRow X.iv S.input, ⟨68, 2, X.fv, m.frames.length, fCells X.fps m.frames⟩, ⟨24, 1, X.vv, m.values.length, X.vps⟩, iRow X.ov m.output] ++ (List.zipWith iRow X.fps (m.frames.map Rt.Fm.params) ++ P), Q, m.values[s.line.toNat], X.vps[s.line.toNat], ?_, ?_, ?_, ?_⟩
      · unfold rowsOf; rw [z1]; simp
      · unfold cellsV; rw [if_pos h1, List.getElem?_eq_getElem hi']; rfl
      · rw [ep]
        unfold rowsOf
        simp only [List.length_modify]
        rw [z2 (fun c => c.set s.cell.toNat x)]
        simp
      · rw [ep]; exact ⟨rfl, rfl, rfl, rfl, by simp⟩
    · have h2 : s.line = 0 ∧ 0 < m.frames.length := by
        have hp := hpos
        unfold Rt.cellsOf at hp
        rw [if_neg h1] at hp
        by_cases h2 : s.line = 0 ∧ 0 < m.frames.length
        · exact h2
        · rw [if_neg h2] at hp; simp at hp
      have hi : m.frames.length - 1 < (m.frames.map Rt.Fm.params).length := by simp; omega
      have hi' : m.frames.length - 1 < X.fps.length := by rw [h.fl]; omega
      obtain ⟨P, Q, z1, z2⟩ := zip_split iRow X.fps (m.frames.map Rt.Fm.params) (m.frames.length - 1) hi' hi
      have ep : Rt.putS m s x = { m with frames := m.frames.modify (m.frames.length - 1) (fun f => ⟨f.params.set s.cell.toNat x, f.call⟩) } := by
        unfold Rt.putS; rw [if_pos hs, if_neg (by omega)]
      refine ⟨[iRow X.iv S.input, ⟨68, 2, X.fv, m.frames.length, fCells X.fps m.frames⟩, ⟨24, 1, X.vv, m.values.length, X.vps⟩, iRow X.ov m.output] ++ P, Q ++ List.zipWith iRow X.vps m.values, (m.frames.map Rt.Fm.params)[m.frames.length - 1], X.fps[m.frames.length - 1], ?_, ?_, ?_, ?_⟩
      · unfold rowsOf; rw [z1]; simp
      · unfold cellsV; rw [if_neg h1, if_pos h2, List.getElem?_eq_getElem hi']; rfl
      · rw [ep]
        unfold rowsOf
        simp only [List.length_modify]
        rw [map_mod m.frames (m.frames.length - 1) (fun p => p.set s.cell.toNat x), fCells_mod X.fps m.frames (m.frames.length - 1) (fun p => p.set s.cell.toNat x), z2 (fun p => p.set s.cell.toNat x)]
        simp
      · rw [ep]; exact ⟨rfl, rfl, rfl, by simp, rfl⟩
  obtain ⟨A, C, l, v, k1, k2, k3, k4, k5, k6, k7, k8⟩ := key
  have ho := h.own
  rw [k1] at ho
  obtain ⟨o1, o2⟩ := row_store ho (g := g) (by rw [k2]; exact hgb) s.cell.toNat x
  refine ⟨g, cap, hgv, hglt, h.next (by rw [hMM, h.block, k4, k5, k6]) hsz hk (by rw [k3]; exact o1) rfl rfl (by rw [k7]; exact h.fl) (by rw [k8]; exact h.vl), ?_⟩
  rw [k1]
  exact o2

/-- A block of another type than the machine's and the program's is stored into. -/
theorem McS.aside {w : World} {M B : Nat} {ty : TypeId} {tail : List Value} {S : Rt.Src} {m : Rt.Mc} {X : McX} (h : McS w M B ty tail S m X) {N : Nat} {cs : Array Value} {t : TypeId} (hN : w.heap[N]? = some (.cells cs t (0, 0))) (hM : N ≠ M) (ht : ¬ PTy t ∧ t ≠ 3 ∧ t ≠ 68 ∧ t ≠ 24) (i : Nat) (v : Value) : McS (w.setCell ⟨N, i, none⟩ v) M B ty tail S m X := by
  have hother : ∀ k, k ≠ N → (w.setCell ⟨N, i, none⟩ v).heap[k]? = w.heap[k]? := fun k hk => Below.heap_setCell w ⟨N, i, none⟩ _ k hk
  have hrow : ∀ r ∈ rowsOf S.input X m, ∀ g, r.v.ownBlock = some g → g ≠ N := by
    intro r hr g hg e
    obtain ⟨c, hc⟩ := own_blk (h.own.rows r hr) hg
    rw [e, hN] at hc
    injection hc with hc
    injection hc with _ hc
    have := rows_ty3 hr
    rw [← hc] at this
    rcases this with e | e | e
    · exact ht.2.1 e
    · exact ht.2.2.1 e
    · exact ht.2.2.2 e
  refine h.next ?_ (by simp [World.setCell]) (fun k x hk _ hp => ?_) ⟨fun r hr => own_same (h.own.rows r hr) (fun g hg => hother g (hrow r hr g hg)), h.own.apart⟩ rfl rfl h.fl h.vl
  · rw [hother M (Ne.symm hM)]; exact h.block
  · rw [hother k (fun e => by
      rw [e, hN] at hk
      injection hk with hk
      obtain ⟨c', t', e2, hp⟩ := hp
      rw [← hk] at e2
      injection e2 with _ e2
      rw [← e2] at hp
      exact ht.1 hp)]
    exact hk
end Go.Proofs.YtbpajiljfppjcaaGreat

