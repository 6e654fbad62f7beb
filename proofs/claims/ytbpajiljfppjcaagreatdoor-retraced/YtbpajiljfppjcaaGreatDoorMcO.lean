/- The machine: a step. -/
import Derived.Test.YtbpajiljfppjcaaGreatDoorMcL
namespace Go.Proofs.YtbpajiljfppjcaaGreatDoor
open Go.RowKit
attribute [local go_sem ↓] Go.wp_at_zero Go.wp_at_succ

set_option maxHeartbeats 2000000 in
theorem setCell_any (w : World) (M B : Nat) (ty : TypeId) (tail : List Value) (S : Rt.Src) (m : Rt.Mc) (X : McX) (BB : Nat) (fm : Rt.PForm) (a1 a2 a3 : Option Addr) (c1 c2 c3 : Nat) (h : McS w M B ty tail S m X) (hm : Mok S m) (hf : FormV w BB (fmA fm a1 a2 a3 c1 c2 c3) fm) (hsm : Rt.Small fm) (hops : ∀ o ∈ fm.values, o.length ≤ 900) (hk : fm.kind = 9) (hix : fm.index.length ≤ 900) :
    Calls Tryz.prog 96 #[.pointer (some ⟨M, 0, none⟩), .agg (fmA fm a1 a2 a3 c1 c2 c3)] w (OutP M B ty tail S X (Rt.perform S m fm) w) := by
  have hbA := ((Below.refl w.heap.size w).alloc (Nat.le_refl _) (.cells (fmA fm a1 a2 a3 c1 c2 c3) 120)).alloc (by simp) (.cells #[.int .i64 0, .int .i64 0, .slice none 0 0] 128)
  have bF := block_alloc (heap_alloc_new w (.cells (fmA fm a1 a2 a3 c1 c2 c3) 120)) (.cells #[.int .i64 0, .int .i64 0, .slice none 0 0] 128)
  have bR := alloc2_plain w (.cells (fmA fm a1 a2 a3 c1 c2 c3) 120) (.cells #[.int .i64 0, .int .i64 0, .slice none 0 0] 128)
  have hA := h.later hbA
  have hfA := form_later hf hbA
  have HP := hide (show Rt.perform S m fm = if (Rt.evalE S m fm.index).2 = 0 then (if (Rt.valueF S m fm).2 = 0 then (match Rt.cellS S m fm.name (Rt.evalE S m fm.index).1 with | none => Rt.ended m 3 | some s => ⟨0, wrap64 (m.line + 1), [Rt.stay m.line, Rt.stored m s], Rt.putS m s (Rt.valueF S m fm).1⟩) else Rt.ended m (Rt.valueF S m fm).2) else Rt.ended m (Rt.evalE S m fm.index).2 by unfold Rt.perform; simp only; rw [if_neg (by omega), if_pos hk]; rfl)
  have HH := hide h
  clear h hf hk
  go_enter Tryz.func96, Tryz.ntmps96
  go_wp2_with fail
  have hI : (((w.alloc (.cells (fmA fm a1 a2 a3 c1 c2 c3) 120)).alloc (.cells #[.int .i64 0, .int .i64 0, .slice none 0 0] 128)).ownsRow BB 200 3 (.slice a2 fm.index.length c2) fm.index.length (popsCells fm.index)) := by
    obtain ⟨pv, iv, vv, vs, hfe, _, q2, _, _⟩ := hfA
    have : iv = .slice a2 fm.index.length c2 := by simp at hfe; exact hfe.2.1.symm
    rw [← this]; exact q2
  refine (evaluate_any _ M B ty tail S m X BB a2 c2 fm.index hA hm hI hix).mono ?_
  rintro e w0 ⟨rfl, hb0⟩
  have hB0 := hbA.trans (hb0.mono (B' := w.heap.size) (by simp; omega))
  have bF0 := block_later bF hb0
  have bR0 := block_later bR hb0
  have h0 := hA.later hb0
  have hf0 := form_later hfA hb0
  clear hA hfA hbA bF bR hb0 hI
  generalize Rt.evalE S m fm.index = ix at *
  obtain ⟨ix1, ix2⟩ := ix
  simp only at HP
  by_cases hx : ix2 = 0
  case neg =>
    replace HP := hide ((unhide HP).trans (if_neg hx))
    have bv : (ix2 != 0) = true := by simpa using hx
    obtain ⟨r0, r1, r2⟩ := three_cells bR0
    have z := free_of_block bR0
    have HF := hide (fun a b c => (Aft.start (unhide HH) hB0).three bR0 (by omega) (by unfold PTy; decide) a b c)
    clear h0 hB0 bF0 bR0 hx hm hops hsm hf0
    go_wp2_with fail
    refine bodyPost_ret (v := .agg #[.int .i64 ix2, .int .i64 0, .slice none 0 0]) ?_ rfl ⟨_, _, by rw [unhide HP]; rfl, by rw [unhide HP]; exact unhide HF _ _ _, by rw [unhide HP]; exact World.ownsRow_nil _ _ _ _⟩
    simp [results, Tryz.results96, go_sem, r0, r1, r2]
  subst hx
  replace HP := hide ((unhide HP).trans (if_pos rfl))
  have f0 := cell_of_block bF0 0 (by simp)
  have f1 := cell_of_block bF0 1 (by simp)
  have f2 := cell_of_block bF0 2 (by simp)
  have f3 := cell_of_block bF0 3 (by simp)
  have f4 := cell_of_block bF0 4 (by simp)
  have f5 := cell_of_block bF0 5 (by simp)
  simp only [List.getElem_toArray, List.getElem_cons_succ, List.getElem_cons_zero] at f0 f1 f2 f3 f4 f5
  go_wp2_with fail
  refine (value_any _ M B ty tail S m X BB fm a1 a2 a3 c1 c2 c3 h0 hm hf0 hsm hops).mono ?_
  rintro e w1 ⟨rfl, hb1⟩
  have hB1 := hB0.trans (hb1.mono (B' := w.heap.size) hB0.size)
  have bF1 := block_later bF0 hb1
  have bR1 := block_later bR0 hb1
  have k1 := cell_of_block bF1 1 (by simp)
  simp at k1
  have h1 := h0.later hb1
  clear h0 hf0 hB0 bF0 bR0 hb1 f0 f1 f2 f3 f4 f5
  generalize Rt.valueF S m fm = v at *
  obtain ⟨v1, v2⟩ := v
  simp only at HP
  by_cases hv : v2 = 0
  · subst hv
    replace HP := hide ((unhide HP).trans (if_pos rfl))
    go_wp2_with fail
    refine (mcell_any _ M B ty tail S m X fm.name ix1 h1 hm).mono ?_
    rintro e w2 ⟨rfl, hb2⟩
    have hB2 := hB1.trans (hb2.mono (B' := w.heap.size) hB1.size)
    have h2 := h1.later hb2
    have bR2 := block_later bR1 hb2
    clear h1 hb2 hB1 bF1 bR1 k1
    cases hc : Rt.cellS S m fm.name ix1 with
    | none =>
      rw [hc] at HP
      have hbF := (Below.refl w2.heap.size w2).alloc (Nat.le_refl _) (.cells #[.int .i64 0, .int .i64 0] 131)
      have hRlt := block_lt bR2
      have hne1 : ¬ w.heap.size + 1 = w2.heap.size := by omega
      have hne2 : ¬ w2.heap.size = w.heap.size + 1 := by omega
      obtain ⟨r0, r1, r2⟩ := three_cells bR2
      have z := free_of_block bR2
      have HF := hide (fun a b c => ((Aft.start (unhide HH) hB2).three bR2 (by omega) (by unfold PTy; decide) a b c).below ((Below.refl _ _).alloc (Nat.le_refl _) (.cells #[.int .i64 0, .int .i64 0] 131)))
      have HG := hide (fun a b c : Value => three_cells (block_alloc (W3_block bR2 a b c) (.cells #[.int .i64 0, .int .i64 0] 131)))
      clear h2 hB2 bR2 hc hm hops hsm hbF
      simp only [cellR]
      go_wp2_with fail
      refine bodyPost_ret (v := .agg #[.int .i64 3, .int .i64 0, .slice none 0 0]) ?_ rfl ⟨_, _, by rw [unhide HP]; rfl, by rw [unhide HP]; exact unhide HF _ _ _, by rw [unhide HP]; exact World.ownsRow_nil _ _ _ _⟩
      have E := unhide HG (.int .i64 3) (.int .i64 0) (.slice none 0 0)
      revert E
      generalize (W3 w2 (w.heap.size + 1) (.int .i64 3) (.int .i64 0) (.slice none 0 0)).alloc (.cells #[.int .i64 0, .int .i64 0] 131) = wz
      intro E
      simp [results, Tryz.results96, go_sem, E.1, E.2.1, E.2.2]
    | some sp =>
    rw [hc] at HP
    clear hc
    simp only [cellR]
    have hb3 := (Below.refl w2.heap.size w2).alloc (Nat.le_refl _) (.cells #[.int .i64 sp.line, .int .i64 sp.cell] 131)
    have h3 := h2.later hb3
    have hB3 := hB2.trans (hb3.mono (B' := w.heap.size) hB2.size)
    have bR3 := block_later bR2 hb3
    have bT3 := heap_alloc_new w2 (.cells #[.int .i64 sp.line, .int .i64 sp.cell] 131)
    clear h2 hb3 hB2 bR2
    go_wp2_with fail
    refine (store_any _ M B ty tail S m X sp v1 h3 hm).mono ?_
    rintro e w4 ⟨rfl, hp4⟩
    have hA4 := (Aft.start (unhide HH) hB3).put hp4
    have bR4 := (hp4.2.block _ (block_lt bR3) (rows_not h3.own bR3 (by decide))).trans bR3
    clear h3 hB3 bR3 bT3 hp4
    have HRc := hide (show Rt.stored m sp = ⟨4, 0, sp, Rt.getS m sp⟩ from rfl)
    generalize Rt.getS m sp = old at *
    have hb5 := (Below.refl w4.heap.size w4).alloc (Nat.le_refl _) (.cells #[.int .i64 4, .int .i64 0, .int .i64 sp.line, .int .i64 sp.cell, .int .i64 old] 133)
    have hA5 := hA4.below hb5
    have bR5 := block_later bR4 hb5
    have bO5 := heap_alloc_new w4 (.cells #[.int .i64 4, .int .i64 0, .int .i64 sp.line, .int .i64 sp.cell, .int .i64 old] 133)
    have c6 := hA5.mc.c6
    have HL := hide (show (Rt.putS m sp v1).line = m.line from put_line m sp v1)
    rw [unhide HL] at c6
    have HA5 := hide (And.intro hA5 bR5)
    obtain ⟨p0, p1, p2, p3, p4⟩ := five_cells bO5
    clear hA4 hA5 bR4 bR5 hb5 bO5
    go_wp2_with fail
    generalize w4.alloc (.cells #[.int .i64 4, .int .i64 0, .int .i64 sp.line, .int .i64 sp.cell, .int .i64 old] 133) = w5 at *
    generalize w4.heap.size = O at *
    go_region_held3 (fun w' => w'.cell? ⟨M, 6, none⟩ = some (.int .i64 m.line) ∧ w'.cell? ⟨O, 0, none⟩ = some (.int .i64 4) ∧ w'.cell? ⟨O, 1, none⟩ = some (.int .i64 0) ∧ w'.cell? ⟨O, 2, none⟩ = some (.int .i64 sp.line) ∧ w'.cell? ⟨O, 3, none⟩ = some (.int .i64 sp.cell) ∧ w'.cell? ⟨O, 4, none⟩ = some (.int .i64 old)) (go_keep) (fail)
    obtain ⟨hA5, bR5⟩ := unhide HA5
    have hb6 := ((Below.refl w5.heap.size w5).alloc (Nat.le_refl _) (.cells #[.int .i64 1, .int .i64 m.line, .int .i64 0, .int .i64 0, .int .i64 0, .int .i64 4, .int .i64 0, .int .i64 sp.line, .int .i64 sp.cell, .int .i64 old] 133)).drew
    have bQ : (w5.alloc (.cells #[.int .i64 1, .int .i64 m.line, .int .i64 0, .int .i64 0, .int .i64 0, .int .i64 4, .int .i64 0, .int .i64 sp.line, .int .i64 sp.cell, .int .i64 old] 133)).drew.heap[w5.heap.size]? = _ := heap_alloc_new w5 (.cells #[.int .i64 1, .int .i64 m.line, .int .i64 0, .int .i64 0, .int .i64 0, .int .i64 4, .int .i64 0, .int .i64 sp.line, .int .i64 sp.cell, .int .i64 old] 133)
    have hA6 := hA5.below hb6
    have bR6 := block_later bR5 hb6
    have c6' := hA6.mc.c6
    rw [unhide HL] at c6'
    have hQ := hA5.frm.size
    have hQlt := block_lt bQ
    have hRlt := block_lt bR5
    clear hA5 bR5 hb6 HA5 c6 p0 p1 p2 p3 p4
    generalize (w5.alloc (.cells #[.int .i64 1, .int .i64 m.line, .int .i64 0, .int .i64 0, .int .i64 0, .int .i64 4, .int .i64 0, .int .i64 sp.line, .int .i64 sp.cell, .int .i64 old] 133)).drew = w6 at *
    generalize w5.heap.size = q at *
    obtain ⟨r0, r1, r2⟩ := three_cells bR6
    have z := free_of_block bR6
    have HF := hide (fun a b c => And.intro (hA6.three bR6 (by omega) (by unfold PTy; decide) a b c) (rec_row 2 bQ (show q ≠ w.heap.size + 1 by omega) hQ a b c rfl (by omega)))
    clear hA6 bR6 bQ
    go_wp2_with fail
    refine bodyPost_ret (v := .agg #[.int .i64 0, .int .i64 (wrap64 (m.line + 1)), .slice (some ⟨q, 0, none⟩) 2 2]) ?_ rfl ⟨_, _, by rw [unhide HP], by rw [unhide HP]; exact (unhide HF _ _ _).1, by rw [unhide HP, unhide HRc]; exact (unhide HF _ _ _).2⟩
    simp [results, Tryz.results96, go_sem, r0, r1, r2]
  · replace HP := hide ((unhide HP).trans (if_neg hv))
    have bv : (v2 != 0) = true := by simpa using hv
    obtain ⟨r0, r1, r2⟩ := three_cells bR1
    have z := free_of_block bR1
    have HF := hide (fun a b c => (Aft.start (unhide HH) hB1).three bR1 (by omega) (by unfold PTy; decide) a b c)
    clear h1 hB1 bF1 bR1 k1 hv hm hops hsm
    go_wp2_with fail
    refine bodyPost_ret (v := .agg #[.int .i64 v2, .int .i64 0, .slice none 0 0]) ?_ rfl ⟨_, _, by rw [unhide HP]; rfl, by rw [unhide HP]; exact unhide HF _ _ _, by rw [unhide HP]; exact World.ownsRow_nil _ _ _ _⟩
    simp [results, Tryz.results96, go_sem, r0, r1, r2]
end Go.Proofs.YtbpajiljfppjcaaGreatDoor

namespace Go.Proofs.YtbpajiljfppjcaaGreatDoor
open Go.RowKit
attribute [local go_sem ↓] Go.wp_at_zero Go.wp_at_succ

theorem Aft.from {M B : Nat} {ty : TypeId} {tail : List Value} {S : Rt.Src} {m m' : Rt.Mc} {X X' : McX} {w w1 w' : World} (hm : McS w M B ty tail S m X) (hb : Below w.heap.size w w1) (h : Aft M B ty tail S X X' m' w1 w') : Aft M B ty tail S X X' m' w w' :=
  ⟨h.mc, (Frm.of_below _ hb).trans h.frm (Grows.refl _ _), fun k hk => by rcases h.grow k hk with h' | h'; exact Or.inl h'; exact Or.inr (Nat.le_trans hb.size h'), block_lt hm.block⟩
theorem OutP.from {M B : Nat} {ty : TypeId} {tail : List Value} {S : Rt.Src} {m : Rt.Mc} {X : McX} {o : Rt.Out} {w w1 w' : World} {e : Ending} (hm : McS w M B ty tail S m X) (hb : Below w.heap.size w w1) (h : OutP M B ty tail S X o w1 e w') : OutP M B ty tail S X o w e w' := by
  obtain ⟨rv, X', he, ha, ho⟩ := h
  exact ⟨rv, X', he, Aft.from hm hb ha, ownsRow_mono ho hb.size⟩
/-- In the first frame there is nothing to leave. -/
theorem leave_first (w : World) (M B : Nat) (ty : TypeId) (tail : List Value) (S : Rt.Src) (m : Rt.Mc) (X : McX) (h : McS w M B ty tail S m X) (hf : m.frames.length < 2) :
    Calls Tryz.prog 101 #[.pointer (some ⟨M, 0, none⟩)] w (OutP M B ty tail S X (Rt.ended m 1) w) := by
  have hbA := (Below.refl w.heap.size w).alloc (Nat.le_refl _) (.cells #[.int .i64 0, .int .i64 0, .slice none 0 0] 128)
  have c2 := h.c2
  obtain ⟨fad, fcap, hfv⟩ := ownsRow_form h.frames
  rw [hfv] at c2
  have HH := hide h
  have hMlt := block_lt h.block
  clear h hfv
  have hw : IntKind.i64.wrap ((m.frames.length : Int) - 1) = (m.frames.length : Int) - 1 := by rw [IntWalk.i64_left, IntWalk.wrap64_in _ (by omega)]
  have hlt : (m.frames.length : Int) - 1 < 1 := by omega
  generalize m.frames.length = n at *
  go_enter Tryz.func101, Tryz.ntmps101
  go_wp2_with fail
  have HF := hide ((Aft.start (unhide HH) ((Below.refl w.heap.size w).alloc (Nat.le_refl _) (.cells #[.int .i64 1, .int .i64 0, .slice none 0 0] 128))))
  have E := three_cells (heap_alloc_new w (.cells #[.int .i64 1, .int .i64 0, .slice none 0 0] 128))
  refine bodyPost_ret (v := .agg #[.int .i64 1, .int .i64 0, .slice none 0 0]) ?_ rfl ⟨_, _, rfl, unhide HF, World.ownsRow_nil _ _ _ _⟩
  revert E
  generalize w.alloc (.cells #[.int .i64 1, .int .i64 0, .slice none 0 0] 128) = wz
  intro E
  simp [results, Tryz.results101, go_sem, E.1, E.2.1, E.2.2]
/-- A block that is none of the machine's stays behind a call. -/
theorem Aft.keeps {M B : Nat} {ty : TypeId} {tail : List Value} {S : Rt.Src} {m m' : Rt.Mc} {X X' : McX} {w w' : World} (hm : McS w M B ty tail S m X) (h : Aft M B ty tail S X X' m' w w') {N : Nat} {c : Array Value} {t : TypeId} (hN : w.heap[N]? = some (.cells c t (0, 0))) (hne : N ≠ M) (ht : t ≠ 3 ∧ t ≠ 124 ∧ t ≠ 22) : w'.heap[N]? = some (.cells c t (0, 0)) := by
  refine (h.frm.block N (block_lt hN) (fun hk => ?_)).trans hN
  rcases List.mem_cons.mp hk with hk | hk
  · exact hne hk
  · rw [← hm.blks] at hk
    exact rows_not hm.own hN ht hk
/-- What a call has answered, stored in the caller's own block. -/
theorem OutP.held {M B : Nat} {ty : TypeId} {tail : List Value} {S : Rt.Src} {m : Rt.Mc} {X X' : McX} {o : Rt.Out} {w w1 w4 : World} {R : Nat} {v0 v1 v2 rv : Value} (hmc : McS w M B ty tail S m X) (hb : Below w.heap.size w w1) (hR : w1.heap[R]? = some (.cells #[v0, v1, v2] 128 (0, 0))) (hle : w.heap.size ≤ R) (ha : Aft M B ty tail S X X' o.m w1 w4) (ho : w4.ownsRow w1.heap.size 133 5 rv o.recs.length (recsCells o.recs)) :
    w4.heap[R]? = some (.cells #[v0, v1, v2] 128 (0, 0)) ∧ ∀ a b c, OutP M B ty tail S X o w (.returned (.agg #[.int .i64 o.fin, .int .i64 o.next, rv])) (W3 w4 R a b c) := by
  have hlt := block_lt hmc.block
  have h4 := Aft.keeps (hmc.later hb) ha hR (by omega) (by decide)
  refine ⟨h4, fun a b c => ⟨rv, X', rfl, (Aft.from hmc hb ha).three h4 hle (by unfold PTy; decide) a b c, ?_⟩⟩
  refine own_same (ownsRow_mono ho hb.size) (fun g hg => ?_)
  have := (ho.lt g hg).1
  have := block_lt hR
  exact W3_other _ _ _ _ _ _ (by omega)
set_option maxHeartbeats 1000000 in
theorem perform_flat (w : World) (M B : Nat) (ty : TypeId) (tail : List Value) (S : Rt.Src) (m : Rt.Mc) (X : McX) (BB : Nat) (fm : Rt.PForm) (a1 a2 a3 : Option Addr) (c1 c2 c3 : Nat) (h : McS w M B ty tail S m X) (hm : Mok S m) (hf : FormV w BB (fmA fm a1 a2 a3 c1 c2 c3) fm) (hsm : Rt.Small fm) (hops : ∀ o ∈ fm.values, o.length ≤ 900) (hix : fm.index.length ≤ 900) (hfl : m.frames.length < 2) (hnc : fm.kind ≠ 12) :
    Calls Tryz.prog 69 #[.pointer (some ⟨M, 0, none⟩), .agg (fmA fm a1 a2 a3 c1 c2 c3)] w (OutP M B ty tail S X (Rt.perform S m fm) w) := by
  have hbA := ((Below.refl w.heap.size w).alloc (Nat.le_refl _) (.cells (fmA fm a1 a2 a3 c1 c2 c3) 120)).alloc (by simp) (.cells #[.int .i64 0, .int .i64 0, .slice none 0 0] 128)
  have bR := alloc2_plain w (.cells (fmA fm a1 a2 a3 c1 c2 c3) 120) (.cells #[.int .i64 0, .int .i64 0, .slice none 0 0] 128)
  have hA := h.later hbA
  have hfA := form_later hf hbA
  have HL : ¬ fm.kind = 8 → ¬ fm.kind = 9 → ¬ fm.kind = 10 → ¬ fm.kind = 11 → ¬ fm.kind = 5 → ¬ fm.kind = 7 → Rt.perform S m fm = Rt.ended m 1 := by
    intro e1 e2 e3 e4 e5 e6
    unfold Rt.perform
    simp only
    rw [if_neg e1, if_neg e2, if_neg e3, if_neg e4, if_neg (by omega), if_neg hnc, if_pos hfl]
  generalize hO : Rt.perform S m fm = o at *
  go_enter Tryz.func69, Tryz.ntmps69
  go_wp2_with fail
  all_goals
    first
      | exact absurd (by simpa using ‹(fm.kind == 12) = true›) hnc
      | (refine (setName_any _ M B ty tail S m X BB fm a1 a2 a3 c1 c2 c3 hA hm hfA hsm hops (by simpa using ‹(fm.kind == 8) = true›)).mono ?_; rw [hO])
      | (refine (setCell_any _ M B ty tail S m X BB fm a1 a2 a3 c1 c2 c3 hA hm hfA hsm hops (by simpa using ‹(fm.kind == 9) = true›) hix).mono ?_; rw [hO])
      | (refine (print_any _ M B ty tail S m X BB fm a1 a2 a3 c1 c2 c3 hA hm hfA hsm hops (by simpa using ‹(fm.kind == 10) = true›)).mono ?_; rw [hO])
      | (refine (read_any_m _ M B ty tail S m X fm a1 a2 a3 c1 c2 c3 hA hm (by simpa using ‹(fm.kind == 11) = true›)).mono ?_; rw [hO])
      | (refine (branch_any _ M B ty tail S m X BB fm a1 a2 a3 c1 c2 c3 hA hm hfA hsm hops (by first | exact Or.inl (by simpa using ‹(fm.kind == 5) = true›) | exact Or.inr (by simpa using ‹(fm.kind == 7) = true›))).mono ?_; rw [hO])
      | (refine (leave_first _ M B ty tail S m X hA hfl).mono ?_; rw [← HL (by simpa using ‹(fm.kind == 8) = false›) (by simpa using ‹(fm.kind == 9) = false›) (by simpa using ‹(fm.kind == 10) = false›) (by simpa using ‹(fm.kind == 11) = false›) (by simpa using ‹(fm.kind == 5) = false›) (by simpa using ‹(fm.kind == 7) = false›)])
    (rintro e w4 ⟨rv, X', rfl, ha, ho⟩; obtain ⟨ad, cp, rfl⟩ := ownsRow_form ho; have q := OutP.held h hbA bR (by omega) ha ho; have HQ := hide q.2; obtain ⟨r0, r1, r2⟩ := three_cells q.1; have z := free_of_block q.1; clear q ha ho)
    go_wp2_with fail
    refine bodyPost_ret (v := .agg #[.int .i64 o.fin, .int .i64 o.next, .slice ad o.recs.length cp]) ?_ rfl (unhide HQ _ _ _)
    simp [results, Tryz.results69, go_sem, r0, r1, r2]
end Go.Proofs.YtbpajiljfppjcaaGreatDoor

namespace Go.Proofs.YtbpajiljfppjcaaGreatDoor
open Go.RowKit
attribute [local go_sem ↓] Go.wp_at_zero Go.wp_at_succ

/-- What a step says. -/
def StepP (M B : Nat) (ty : TypeId) (tail : List Value) (S : Rt.Src) (X : McX) (m : Rt.Mc) (w : World) (e : Ending) (w' : World) : Prop :=
  ∃ rv X', e = .returned rv ∧ Aft M B ty tail S X X' (Rt.stepM S m).1 w w' ∧ w'.ownsRow w.heap.size 133 5 rv (Rt.stepM S m).2.length (recsCells (Rt.stepM S m).2)
theorem perform_ended (S : Rt.Src) (m : Rt.Mc) (f : Rt.PForm) (h : (Rt.perform S m f).fin ≠ 0) : (Rt.perform S m f).m = m := by
  unfold Rt.perform at h ⊢
  simp only at h ⊢
  repeat' split at h
  all_goals first | rfl | exact absurd rfl h | skip
  all_goals simp_all [Rt.ended]
theorem wrap_range (x : Int) : -9223372036854775808 ≤ wrap64 x ∧ wrap64 x ≤ 9223372036854775807 := by unfold wrap64; omega
theorem perform_range (S : Rt.Src) (m : Rt.Mc) (f : Rt.PForm) : -9223372036854775808 ≤ (Rt.perform S m f).next ∧ (Rt.perform S m f).next ≤ 9223372036854775807 := by
  have h0 : (-9223372036854775808 : Int) ≤ 0 ∧ (0 : Int) ≤ 9223372036854775807 := by omega
  unfold Rt.perform
  simp only
  repeat' split
  all_goals first | exact h0 | exact wrap_range _ | skip
  all_goals
    unfold Rt.otherwise
    split
    all_goals exact wrap_range _
theorem rec_fresh (n : Nat) (w : World) (B : Nat) (cs : Array Value) (hB : B ≤ w.heap.size) (hn : cs.size = n * 5) (h1 : n ≤ 1000) : (w.alloc (.cells cs 133)).ownsRow B 133 5 (.slice (some ⟨w.heap.size, 0, none⟩) n n) n cs.toList := by
  refine ⟨by simp [hn], Or.inr ⟨w.heap.size, n, cs, rfl, hB, heap_alloc_new w _, Nat.le_refl _, by unfold maxLen; omega, hn, ?_⟩⟩
  exact List.take_of_length_le (by simp [hn])
theorem cutL {Goal : Prop} {F : Nat → Option Addr → Option Addr → Option Addr → Option Addr → Nat → Nat → Nat → Nat → World → Prop} {R : Code} {post : Exit → Act → World → Prop} {fr : Nat → Option Addr → Option Addr → Option Addr → Option Addr → Nat → Nat → Nat → Nat → Act} (main : (∀ O a0 a1 a2 a3 c0 c1 c2 c3 wy, F O a0 a1 a2 a3 c0 c1 c2 c3 wy → Code.wp Tryz.prog R post (fr O a0 a1 a2 a3 c0 c1 c2 c3) wy) → Goal) (pf : ∀ O a0 a1 a2 a3 c0 c1 c2 c3 wy, F O a0 a1 a2 a3 c0 c1 c2 c3 wy → Code.wp Tryz.prog R post (fr O a0 a1 a2 a3 c0 c1 c2 c3) wy) : Goal := main pf
/-- The present line's form, laid into a block. -/
structure StepF (B : Nat) (fm : Rt.PForm) (w : World) (O : Nat) (a1 a2 a3 : Option Addr) (c1 c2 c3 : Nat) (wy : World) : Prop where
  below : Below w.heap.size w wy
  form : wy.heap[O]? = some (.cells (fmA fm a1 a2 a3 c1 c2 c3) 120 (0, 0))
  fv : FormV wy B (fmA fm a1 a2 a3 c1 c2 c3) fm
  le : w.heap.size ≤ O
theorem StepF.one {B : Nat} {fm : Rt.PForm} {w w1 : World} {a1 a2 a3 : Option Addr} {c1 c2 c3 : Nat} (hb : Below w.heap.size w w1) (hf : FormV w1 B (fmA fm a1 a2 a3 c1 c2 c3) fm) : StepF B fm w w1.heap.size a1 a2 a3 c1 c2 c3 (w1.alloc (.cells (fmA fm a1 a2 a3 c1 c2 c3) 120)) := by
  have hbx := (Below.refl w1.heap.size w1).alloc (Nat.le_refl _) (.cells (fmA fm a1 a2 a3 c1 c2 c3) 120)
  exact ⟨hb.trans (hbx.mono (B' := w.heap.size) hb.size), heap_alloc_new _ _, form_later hf hbx, hb.size⟩
theorem StepF.two {B : Nat} {fm : Rt.PForm} {w w1 : World} {O : Nat} {v0 v1 v2 v3 v4 v5 : Value} {a1 a2 a3 : Option Addr} {c1 c2 c3 : Nat} (hb : Below w.heap.size w w1) (hO : w1.heap[O]? = some (.cells #[v0, v1, v2, v3, v4, v5] 120 (0, 0))) (hf : FormV w1 B (fmA fm a1 a2 a3 c1 c2 c3) fm) (hle : w.heap.size ≤ O) : StepF B fm w O a1 a2 a3 c1 c2 c3 (W6 w1 O (.int .i64 fm.kind) (.string fm.name) (.int .i64 fm.cells) (.slice a1 fm.params.length c1) (.slice a2 fm.index.length c2) (.slice a3 fm.values.length c3)) := by
  refine ⟨below_set6 hb hle _ _ _ _ _ _, ?_, ?_, hle⟩
  · have := set_block (set_block (set_block (set_block (set_block (set_block hO 0 (.int .i64 fm.kind)) 1 (.string fm.name)) 2 (.int .i64 fm.cells)) 3 (.slice a1 fm.params.length c1)) 4 (.slice a2 fm.index.length c2)) 5 (.slice a3 fm.values.length c3)
    simpa using this
  · exact FormV_set6_ty hf hO _ _ _ _ _ _
set_option maxHeartbeats 1000000 in
theorem step_flat (w : World) (M B : Nat) (ty : TypeId) (tail : List Value) (S : Rt.Src) (m : Rt.Mc) (X : McX) (h : McS w M B ty tail S m X) (hm : Mok S m) (hops : ∀ o ∈ (Rt.formAt S.pls m.line).values, o.length ≤ 900) (hix : (Rt.formAt S.pls m.line).index.length ≤ 900) (hsm : Rt.Small (Rt.formAt S.pls m.line)) (hfl : m.frames.length < 2) (hnc : (Rt.formAt S.pls m.line).kind ≠ 12) (hfw : LkFwd S.pls S.lk) :
    Calls Tryz.prog 38 #[.pointer (some ⟨M, 0, none⟩)] w (StepP M B ty tail S X m w) := by
  have c6 := h.c6
  have c7 := h.c7
  have HH := hide h
  have HM := hide hm
  have hMlt := block_lt h.block
  by_cases hz : m.fin = 0
  · clear h hm
    rw [hz] at c7
    have hb0 := (Below.refl w.heap.size w).alloc (Nat.le_refl _) (.cells #[.int .i64 0, .string ⟨#[]⟩, .int .i64 0, .slice none 0 0, .slice none 0 0, .slice none 0 0] 120)
    have hMne : ¬ M = w.heap.size := by omega
    have HF := hide (show (Rt.lineAtP S.pls m.line).form = Rt.formAt S.pls m.line from Rt.lineAtP_form _ _)
    have HB := hide hb0
    have HO := hide (heap_alloc_new w (.cells #[.int .i64 0, .string ⟨#[]⟩, .int .i64 0, .slice none 0 0, .slice none 0 0, .slice none 0 0] 120))
    clear hb0
    go_enter Tryz.func38, Tryz.ntmps38
    go_wp2_with fail
    apply cutL (F := fun O a0 a1 a2 a3 c0 c1 c2 c3 wy => StepF B (Rt.lineAtP S.pls m.line).form w O a1 a2 a3 c1 c2 c3 wy)
    · intro HT
      have HT' := hide HT
      clear HT
      go_region_with (first | (go_at_call 68; refine (Line_m _ _ _ _ _ _ _ m.line ((unhide HH).prog.later (below_to_drew _))).mono ?_; rintro e w1 ⟨a0, a1, a2, a3, k0, k1, k2, k3, rfl, -, hfv, hb⟩; have hf := Tryz.fieldL1 a0 (Rt.lineAtP S.pls m.line).toks.length k0 (Rt.lineAtP S.pls m.line).form.kind (Rt.lineAtP S.pls m.line).form.name (Rt.lineAtP S.pls m.line).form.cells a1 (Rt.lineAtP S.pls m.line).form.params.length k1 a2 (Rt.lineAtP S.pls m.line).form.index.length k2 a3 (Rt.lineAtP S.pls m.line).form.values.length k3 (Rt.lineAtP S.pls m.line).depth (Rt.lineAtP S.pls m.line).opener (Rt.lkAt S.lk m.line).1 (Rt.lkAt S.lk m.line).2 (Rt.lineAtP S.pls m.line).proc; have HR := hide (StepF.one (below_of_drew hb) hfv); clear hb hfv) | (go_at_call 68; refine (Line_m _ _ _ _ _ _ _ m.line ((unhide HH).prog.later ((unhide HB).drew))).mono ?_; rintro e w1 ⟨a0, a1, a2, a3, k0, k1, k2, k3, rfl, -, hfv, hb⟩; have hf := Tryz.fieldL1 a0 (Rt.lineAtP S.pls m.line).toks.length k0 (Rt.lineAtP S.pls m.line).form.kind (Rt.lineAtP S.pls m.line).form.name (Rt.lineAtP S.pls m.line).form.cells a1 (Rt.lineAtP S.pls m.line).form.params.length k1 a2 (Rt.lineAtP S.pls m.line).form.index.length k2 a3 (Rt.lineAtP S.pls m.line).form.values.length k3 (Rt.lineAtP S.pls m.line).depth (Rt.lineAtP S.pls m.line).opener (Rt.lkAt S.lk m.line).1 (Rt.lkAt S.lk m.line).2 (Rt.lineAtP S.pls m.line).proc; have hO := block_later (unhide HO) (below_of_drew hb); have HR := hide (StepF.two ((unhide HB).trans ((below_of_drew hb).mono (by simp))) hO hfv (Nat.le_refl _)); obtain ⟨y0, y1, y2, y3, y4, y5, z0, z1, z2, z3, z4, z5⟩ := six hO; have yz := block_lt hO; clear hb hfv hO))
      all_goals
        rename_i hKK
        refine hKK _ _ ?_
        have HR' := unhide HR
        revert HR'
        first
          | (generalize w1.alloc (.cells (fmA (Rt.lineAtP S.pls m.line).form a1 a2 a3 k1 k2 k3) 120) = wy; generalize w1.heap.size = O)
          | (generalize W6 w1 w.heap.size (.int .i64 (Rt.lineAtP S.pls m.line).form.kind) (.string (Rt.lineAtP S.pls m.line).form.name) (.int .i64 (Rt.lineAtP S.pls m.line).form.cells) (.slice a1 (Rt.lineAtP S.pls m.line).form.params.length k1) (.slice a2 (Rt.lineAtP S.pls m.line).form.index.length k2) (.slice a3 (Rt.lineAtP S.pls m.line).form.values.length k3) = wy; generalize w.heap.size = O)
        intro HR'
        exact unhide HT' _ a0 _ _ _ k0 _ _ _ _ HR'
    · intro O a0 a1 a2 a3 c0 c1 c2 c3 wy hR
      have HS := hide (show Rt.stepM S m = if (Rt.perform S m (Rt.formAt S.pls m.line)).fin = 0 then ({ (Rt.perform S m (Rt.formAt S.pls m.line)).m with line := Rt.goOn S.pls S.lk 102 (Rt.perform S m (Rt.formAt S.pls m.line)).next }, (Rt.perform S m (Rt.formAt S.pls m.line)).recs) else ({ m with fin := (Rt.perform S m (Rt.formAt S.pls m.line)).fin }, [Rt.stay m.line]) by unfold Rt.stepM; rw [if_pos hz])
      rw [unhide HF] at hR ⊢
      obtain ⟨hbY, bO, hfv, hle⟩ := hR
      have hY := (unhide HH).later hbY
      obtain ⟨y0, y1, y2, y3, y4, y5, z0, z1, z2, z3, z4, z5⟩ := six bO
      go_wp2_with fail
      refine (perform_flat _ M B ty tail S m X B _ a1 a2 a3 c1 c2 c3 hY (unhide HM) hfv hsm hops hix hfl hnc).mono ?_
      rintro e w4 ⟨rv, X', rfl, ha, ho⟩
      have HEN := hide (perform_ended S m (Rt.formAt S.pls m.line))
      have HRG := hide (perform_range S m (Rt.formAt S.pls m.line))
      generalize Rt.perform S m (Rt.formAt S.pls m.line) = o at *
      obtain ⟨ad, cp, rfl⟩ := ownsRow_form ho
      have ha' := Aft.from (unhide HH) hbY ha
      have ho' := ownsRow_mono ho hbY.size
      have hb5 := (Below.refl w4.heap.size w4).alloc (Nat.le_refl _) (.cells #[.int .i64 o.fin, .int .i64 o.next, .slice ad o.recs.length cp] 128)
      have HA5 := hide (And.intro (ha'.below hb5) (And.intro (own_later ho' hb5) (heap_alloc_new w4 (.cells #[.int .i64 o.fin, .int .i64 o.next, .slice ad o.recs.length cp] 128))))
      have HA4 := hide ha'
      have hO5 : M < w4.heap.size := Nat.lt_of_lt_of_le ha'.lt ha'.frm.size
      have hO6 : ¬ M = w4.heap.size := by omega
      have hO7 : w.heap.size ≤ w4.heap.size := ha'.frm.size
      have d7 := ha'.mc.c7
      have d6 := ha'.mc.c6
      have e7 := ha'.mc.fz 7
      have e6 := ha'.mc.fz 6
      clear ha ho ha' ho' hb5 hY hfv bO y0 y1 y2 y3 y4 y5 z0 z1 z2 z3 z4 z5 c6 c7
      by_cases hfn : o.fin = 0
      · replace HS := hide ((unhide HS).trans (if_pos hfn))
        have hfn' : (o.fin != 0) = false := by simpa using hfn
        rw [hfn] at HA5
        go_wp2_with fail
        go_region_with ((go_at_call 70; refine (goOn_any _ M B S.pls S.lk _ _ o.next ((unhide HA5).1.mc.prog.later (below_to_drew _)) (unhide HM).pls hfw (unhide HRG)).mono ?_; rintro e w6 ⟨rfl, hb6'⟩; have hb6 := below_of_drew hb6'; obtain ⟨hA5, ho5, bO5⟩ := unhide HA5; have hA6 := hA5.below hb6; have ho6 := own_later ho5 hb6; have bO6 := block_later bO5 hb6; have g6 := hA6.mc.c6; have k6 := hA6.mc.fz 6; obtain ⟨r0, r1, r2⟩ := three_cells bO6; have HF1 := hide (hA6.own (m' := { o.m with line := Rt.goOn S.pls S.lk 102 o.next }) 6 (.int .i64 (Rt.goOn S.pls S.lk 102 o.next)) (by simp [mcCells]) rfl rfl rfl); have HF2 := hide (own_same (w' := w6.setCell ⟨M, 6, none⟩ (.int .i64 (Rt.goOn S.pls S.lk 102 o.next))) ho6 (fun g hg => Below.heap_setCell w6 ⟨M, 6, none⟩ _ g (by have := (ho6.lt g hg).1; show g ≠ M; omega))); clear hA5 ho5 bO5 hA6 ho6 bO6 hb6 hb6'))
        all_goals
          clear d6 d7 e6 e7
          go_wp2_with fail
          go_ret
          exact ⟨_, _, rfl, by rw [unhide HS]; exact unhide HF1, by rw [unhide HS]; exact unhide HF2⟩
      · replace HS := hide ((unhide HS).trans (if_neg hfn))
        have hfn' : (o.fin != 0) = true := by simpa using hfn
        have hom := unhide HEN hfn
        have hA4 := unhide HA4
        rw [hom] at hA4 d6 d7
        have hA6 := (hA4.own (m' := { m with fin := o.fin }) 7 (.int .i64 o.fin) (by simp [mcCells]) rfl rfl rfl).below ((Below.refl _ _).alloc (Nat.le_refl _) (.cells #[.int .i64 o.fin, .int .i64 o.next, .slice ad o.recs.length cp] 128))
        have hsz : ((w4.setCell ⟨M, 7, none⟩ (.int .i64 o.fin)).alloc (.cells #[.int .i64 o.fin, .int .i64 o.next, .slice ad o.recs.length cp] 128)).heap.size = w4.heap.size + 1 := by simp [World.setCell]
        have HF1 := hide (hA6.below ((Below.refl _ _).alloc (Nat.le_refl _) (.cells #[.int .i64 1, .int .i64 m.line, .int .i64 0, .int .i64 0, .int .i64 0] 133)))
        have hfr := rec_fresh 1 ((w4.setCell ⟨M, 7, none⟩ (.int .i64 o.fin)).alloc (.cells #[.int .i64 o.fin, .int .i64 o.next, .slice ad o.recs.length cp] 128)) w.heap.size #[.int .i64 1, .int .i64 m.line, .int .i64 0, .int .i64 0, .int .i64 0] (hA6.frm.size) rfl (by omega)
        rw [hsz] at hfr
        have HF2 := hide hfr
        clear hA4 hA6 hfr hsz
        go_wp2_with fail
        go_ret
        exact ⟨_, _, rfl, by rw [unhide HS]; exact unhide HF1, by rw [unhide HS]; exact unhide HF2⟩
  · have hz' : (m.fin != 0) = true := by simpa using hz
    have HS := hide (show Rt.stepM S m = (m, []) by unfold Rt.stepM; rw [if_neg hz])
    clear h hm
    go_enter Tryz.func38, Tryz.ntmps38
    go_wp2_with fail
    go_ret
    exact ⟨_, X, rfl, by rw [unhide HS]; exact Aft.start (unhide HH) (Below.refl _ _), by rw [unhide HS]; exact World.ownsRow_nil _ _ _ _⟩
end Go.Proofs.YtbpajiljfppjcaaGreatDoor

