/- The machine: what the present line comes to. -/
import Derived.Test.YtbpajiljfppjcaaGreatMcK
import Derived.Test.YtbpajiljfppjcaaGreatMcL
namespace Go.Proofs.YtbpajiljfppjcaaGreat
open Go.RowKit
attribute [local go_sem ↓] Go.wp_at_zero Go.wp_at_succ

set_option maxHeartbeats 2000000 in
theorem setCell_any (w : World) (M B : Nat) (ty : TypeId) (tail : List Value) (S : Rt.Src) (m : Rt.Mc) (X : McX) (BB : Nat) (fm : Rt.PForm) (a1 a2 a3 : Option Addr) (c1 c2 c3 : Nat) (h : McS w M B ty tail S m X) (hm : Mok S m) (hf : FormV w BB (fmA fm a1 a2 a3 c1 c2 c3) fm) (hsm : Rt.Small fm) (hops : ∀ o ∈ fm.values, o.length ≤ 900) (hk : fm.kind = 9) (hix : fm.index.length ≤ 900) :
    Calls Tryz.prog 55 #[.pointer (some ⟨M, 0, none⟩), .agg (fmA fm a1 a2 a3 c1 c2 c3)] w (OutP M B ty tail S X (Rt.perform S m fm) w) := by
  have hbA := ((Below.refl w.heap.size w).alloc (Nat.le_refl _) (.cells (fmA fm a1 a2 a3 c1 c2 c3) 77)).alloc (by simp) (.cells #[.int .i64 0, .int .i64 0, .slice none 0 0] 82)
  have bF := block_alloc (heap_alloc_new w (.cells (fmA fm a1 a2 a3 c1 c2 c3) 77)) (.cells #[.int .i64 0, .int .i64 0, .slice none 0 0] 82)
  have bR := alloc2_plain w (.cells (fmA fm a1 a2 a3 c1 c2 c3) 77) (.cells #[.int .i64 0, .int .i64 0, .slice none 0 0] 82)
  have hA := h.later hbA
  have hfA := form_later hf hbA
  have HP := hide (show Rt.perform S m fm = if (Rt.evalE S m fm.index).2 = 0 then (if (Rt.valueF S m fm).2 = 0 then (match Rt.cellS S m fm.name (Rt.evalE S m fm.index).1 with | none => Rt.ended m 3 | some s => ⟨0, wrap64 (m.line + 1), [Rt.stay m.line, Rt.stored m s], Rt.putS m s (Rt.valueF S m fm).1⟩) else Rt.ended m (Rt.valueF S m fm).2) else Rt.ended m (Rt.evalE S m fm.index).2 by unfold Rt.perform; simp only; rw [if_neg (by omega), if_pos hk]; rfl)
  have HH := hide h
  clear h hf hk
  go_enter Tryz.func55, Tryz.ntmps55
  go_wp2_with fail
  have hI : (((w.alloc (.cells (fmA fm a1 a2 a3 c1 c2 c3) 77)).alloc (.cells #[.int .i64 0, .int .i64 0, .slice none 0 0] 82)).ownsRow BB 141 3 (.slice a2 fm.index.length c2) fm.index.length (popsCells fm.index)) := by
    obtain ⟨pv, iv, vv, vs, hfe, _, q2, _, _⟩ := hfA
    have : iv = .slice a2 fm.index.length c2 := by simp at hfe; exact hfe.2.1.symm
    rw [← this]; exact q2
  refine (evaluate_any _ M B ty tail S m X BB a2 c2 fm.index hA hm hI hix).mono ?_
  rintro e w0 ⟨rfl, hb0⟩
  have hB0 := hbA.trans (hb0.mono (B' := w.heap.size) (by simp; omega))
  have bF0 := block_later bF hb0
  have bR0 := block_later bR hb0
  have h0 := hA.later hb0
  have hf0 := form_later hfA hb0
  clear hA hfA hbA bF bR hb0 hI
  generalize Rt.evalE S m fm.index = ix at *
  obtain ⟨ix1, ix2⟩ := ix
  simp only at HP
  by_cases hx : ix2 = 0
  case neg =>
    replace HP := hide ((unhide HP).trans (if_neg hx))
    have bv : (ix2 != 0) = true := by simpa using hx
    obtain ⟨r0, r1, r2⟩ := three_cells bR0
    have z := free_of_block bR0
    have HF := hide (fun a b c => (Aft.start (unhide HH) hB0).three bR0 (by omega) (by unfold PTy; decide) a b c)
    clear h0 hB0 bF0 bR0 hx hm hops hsm hf0
    go_wp2_with fail
    refine bodyPost_ret (v := .agg #[.int .i64 ix2, .int .i64 0, .slice none 0 0]) ?_ rfl ⟨_, _, by rw [unhide HP]; rfl, by rw [unhide HP]; exact unhide HF _ _ _, by rw [unhide HP]; exact World.ownsRow_nil _ _ _ _⟩
    simp [results, Tryz.results55, go_sem, r0, r1, r2]
  subst hx
  replace HP := hide ((unhide HP).trans (if_pos rfl))
  have f0 := cell_of_block bF0 0 (by simp)
  have f1 := cell_of_block bF0 1 (by simp)
  have f2 := cell_of_block bF0 2 (by simp)
  have f3 := cell_of_block bF0 3 (by simp)
  have f4 := cell_of_block bF0 4 (by simp)
  have f5 := cell_of_block bF0 5 (by simp)
  simp only [List.getElem_toArray, List.getElem_cons_succ, List.getElem_cons_zero] at f0 f1 f2 f3 f4 f5
  go_wp2_with fail
  refine (value_any _ M B ty tail S m X BB fm a1 a2 a3 c1 c2 c3 h0 hm hf0 hsm hops).mono ?_
  rintro e w1 ⟨rfl, hb1⟩
  have hB1 := hB0.trans (hb1.mono (B' := w.heap.size) hB0.size)
  have bF1 := block_later bF0 hb1
  have bR1 := block_later bR0 hb1
  have k1 := cell_of_block bF1 1 (by simp)
  simp at k1
  have h1 := h0.later hb1
  clear h0 hf0 hB0 bF0 bR0 hb1 f0 f1 f2 f3 f4 f5
  generalize Rt.valueF S m fm = v at *
  obtain ⟨v1, v2⟩ := v
  simp only at HP
  by_cases hv : v2 = 0
  · subst hv
    replace HP := hide ((unhide HP).trans (if_pos rfl))
    go_wp2_with fail
    refine (mcell_any _ M B ty tail S m X fm.name ix1 h1 hm).mono ?_
    rintro e w2 ⟨rfl, hb2⟩
    have hB2 := hB1.trans (hb2.mono (B' := w.heap.size) hB1.size)
    have h2 := h1.later hb2
    have bR2 := block_later bR1 hb2
    clear h1 hb2 hB1 bF1 bR1 k1
    cases hc : Rt.cellS S m fm.name ix1 with
    | none =>
      rw [hc] at HP
      have hbF := (Below.refl w2.heap.size w2).alloc (Nat.le_refl _) (.cells #[.int .i64 0, .int .i64 0] 85)
      have hRlt := block_lt bR2
      have hne1 : ¬ w.heap.size + 1 = w2.heap.size := by omega
      have hne2 : ¬ w2.heap.size = w.heap.size + 1 := by omega
      obtain ⟨r0, r1, r2⟩ := three_cells bR2
      have z := free_of_block bR2
      have HF := hide (fun a b c => ((Aft.start (unhide HH) hB2).three bR2 (by omega) (by unfold PTy; decide) a b c).below ((Below.refl _ _).alloc (Nat.le_refl _) (.cells #[.int .i64 0, .int .i64 0] 85)))
      have HG := hide (fun a b c : Value => three_cells (block_alloc (W3_block bR2 a b c) (.cells #[.int .i64 0, .int .i64 0] 85)))
      clear h2 hB2 bR2 hc hm hops hsm hbF
      simp only [cellR]
      go_wp2_with fail
      refine bodyPost_ret (v := .agg #[.int .i64 3, .int .i64 0, .slice none 0 0]) ?_ rfl ⟨_, _, by rw [unhide HP]; rfl, by rw [unhide HP]; exact unhide HF _ _ _, by rw [unhide HP]; exact World.ownsRow_nil _ _ _ _⟩
      have E := unhide HG (.int .i64 3) (.int .i64 0) (.slice none 0 0)
      revert E
      generalize (W3 w2 (w.heap.size + 1) (.int .i64 3) (.int .i64 0) (.slice none 0 0)).alloc (.cells #[.int .i64 0, .int .i64 0] 85) = wz
      intro E
      simp [results, Tryz.results55, go_sem, E.1, E.2.1, E.2.2]
    | some sp =>
    rw [hc] at HP
    clear hc
    simp only [cellR]
    have hb3 := (Below.refl w2.heap.size w2).alloc (Nat.le_refl _) (.cells #[.int .i64 sp.line, .int .i64 sp.cell] 85)
    have h3 := h2.later hb3
    have hB3 := hB2.trans (hb3.mono (B' := w.heap.size) hB2.size)
    have bR3 := block_later bR2 hb3
    have bT3 := heap_alloc_new w2 (.cells #[.int .i64 sp.line, .int .i64 sp.cell] 85)
    clear h2 hb3 hB2 bR2
    go_wp2_with fail
    refine (store_any _ M B ty tail S m X sp v1 h3 hm).mono ?_
    rintro e w4 ⟨rfl, hp4⟩
    have hA4 := (Aft.start (unhide HH) hB3).put hp4
    have bR4 := (hp4.2.block _ (block_lt bR3) (rows_not h3.own bR3 (by decide))).trans bR3
    clear h3 hB3 bR3 bT3 hp4
    have HRc := hide (show Rt.stored m sp = ⟨4, 0, sp, Rt.getS m sp⟩ from rfl)
    generalize Rt.getS m sp = old at *
    have hb5 := (Below.refl w4.heap.size w4).alloc (Nat.le_refl _) (.cells #[.int .i64 4, .int .i64 0, .int .i64 sp.line, .int .i64 sp.cell, .int .i64 old] 87)
    have hA5 := hA4.below hb5
    have bR5 := block_later bR4 hb5
    have bO5 := heap_alloc_new w4 (.cells #[.int .i64 4, .int .i64 0, .int .i64 sp.line, .int .i64 sp.cell, .int .i64 old] 87)
    have c6 := hA5.mc.c6
    have HL := hide (show (Rt.putS m sp v1).line = m.line from put_line m sp v1)
    rw [unhide HL] at c6
    have HA5 := hide (And.intro hA5 bR5)
    obtain ⟨p0, p1, p2, p3, p4⟩ := five_cells bO5
    clear hA4 hA5 bR4 bR5 hb5 bO5
    go_wp2_with fail
    generalize w4.alloc (.cells #[.int .i64 4, .int .i64 0, .int .i64 sp.line, .int .i64 sp.cell, .int .i64 old] 87) = w5 at *
    generalize w4.heap.size = O at *
    go_region_held3 (fun w' => w'.cell? ⟨M, 6, none⟩ = some (.int .i64 m.line) ∧ w'.cell? ⟨O, 0, none⟩ = some (.int .i64 4) ∧ w'.cell? ⟨O, 1, none⟩ = some (.int .i64 0) ∧ w'.cell? ⟨O, 2, none⟩ = some (.int .i64 sp.line) ∧ w'.cell? ⟨O, 3, none⟩ = some (.int .i64 sp.cell) ∧ w'.cell? ⟨O, 4, none⟩ = some (.int .i64 old)) (go_keep) (fail)
    obtain ⟨hA5, bR5⟩ := unhide HA5
    have hb6 := ((Below.refl w5.heap.size w5).alloc (Nat.le_refl _) (.cells #[.int .i64 1, .int .i64 m.line, .int .i64 0, .int .i64 0, .int .i64 0, .int .i64 4, .int .i64 0, .int .i64 sp.line, .int .i64 sp.cell, .int .i64 old] 87)).drew
    have bQ : (w5.alloc (.cells #[.int .i64 1, .int .i64 m.line, .int .i64 0, .int .i64 0, .int .i64 0, .int .i64 4, .int .i64 0, .int .i64 sp.line, .int .i64 sp.cell, .int .i64 old] 87)).drew.heap[w5.heap.size]? = _ := heap_alloc_new w5 (.cells #[.int .i64 1, .int .i64 m.line, .int .i64 0, .int .i64 0, .int .i64 0, .int .i64 4, .int .i64 0, .int .i64 sp.line, .int .i64 sp.cell, .int .i64 old] 87)
    have hA6 := hA5.below hb6
    have bR6 := block_later bR5 hb6
    have c6' := hA6.mc.c6
    rw [unhide HL] at c6'
    have hQ := hA5.frm.size
    have hQlt := block_lt bQ
    have hRlt := block_lt bR5
    clear hA5 bR5 hb6 HA5 c6 p0 p1 p2 p3 p4
    generalize (w5.alloc (.cells #[.int .i64 1, .int .i64 m.line, .int .i64 0, .int .i64 0, .int .i64 0, .int .i64 4, .int .i64 0, .int .i64 sp.line, .int .i64 sp.cell, .int .i64 old] 87)).drew = w6 at *
    generalize w5.heap.size = q at *
    obtain ⟨r0, r1, r2⟩ := three_cells bR6
    have z := free_of_block bR6
    have HF := hide (fun a b c => And.intro (hA6.three bR6 (by omega) (by unfold PTy; decide) a b c) (rec_row 2 bQ (show q ≠ w.heap.size + 1 by omega) hQ a b c rfl (by omega)))
    clear hA6 bR6 bQ
    go_wp2_with fail
    refine bodyPost_ret (v := .agg #[.int .i64 0, .int .i64 (wrap64 (m.line + 1)), .slice (some ⟨q, 0, none⟩) 2 2]) ?_ rfl ⟨_, _, by rw [unhide HP], by rw [unhide HP]; exact (unhide HF _ _ _).1, by rw [unhide HP, unhide HRc]; exact (unhide HF _ _ _).2⟩
    simp [results, Tryz.results55, go_sem, r0, r1, r2]
  · replace HP := hide ((unhide HP).trans (if_neg hv))
    have bv : (v2 != 0) = true := by simpa using hv
    obtain ⟨r0, r1, r2⟩ := three_cells bR1
    have z := free_of_block bR1
    have HF := hide (fun a b c => (Aft.start (unhide HH) hB1).three bR1 (by omega) (by unfold PTy; decide) a b c)
    clear h1 hB1 bF1 bR1 k1 hv hm hops hsm
    go_wp2_with fail
    refine bodyPost_ret (v := .agg #[.int .i64 v2, .int .i64 0, .slice none 0 0]) ?_ rfl ⟨_, _, by rw [unhide HP]; rfl, by rw [unhide HP]; exact unhide HF _ _ _, by rw [unhide HP]; exact World.ownsRow_nil _ _ _ _⟩
    simp [results, Tryz.results55, go_sem, r0, r1, r2]
end Go.Proofs.YtbpajiljfppjcaaGreat

namespace Go.Proofs.YtbpajiljfppjcaaGreat
open Go.RowKit
attribute [local go_sem ↓] Go.wp_at_zero Go.wp_at_succ

theorem Aft.from {M B : Nat} {ty : TypeId} {tail : List Value} {S : Rt.Src} {m m' : Rt.Mc} {X X' : McX} {w w1 w' : World} (hm : McS w M B ty tail S m X) (hb : Below w.heap.size w w1) (h : Aft M B ty tail S X X' m' w1 w') : Aft M B ty tail S X X' m' w w' :=
  ⟨h.mc, (Frm.of_below _ hb).trans h.frm (Grows.refl _ _), fun k hk => by rcases h.grow k hk with h' | h'; exact Or.inl h'; exact Or.inr (Nat.le_trans hb.size h'), block_lt hm.block⟩
theorem OutP.from {M B : Nat} {ty : TypeId} {tail : List Value} {S : Rt.Src} {m : Rt.Mc} {X : McX} {o : Rt.Out} {w w1 w' : World} {e : Ending} (hm : McS w M B ty tail S m X) (hb : Below w.heap.size w w1) (h : OutP M B ty tail S X o w1 e w') : OutP M B ty tail S X o w e w' := by
  obtain ⟨rv, X', he, ha, ho⟩ := h
  exact ⟨rv, X', he, Aft.from hm hb ha, ownsRow_mono ho hb.size⟩
/-- In the first frame there is nothing to leave. -/
theorem leave_first (w : World) (M B : Nat) (ty : TypeId) (tail : List Value) (S : Rt.Src) (m : Rt.Mc) (X : McX) (h : McS w M B ty tail S m X) (hf : m.frames.length < 2) :
    Calls Tryz.prog 60 #[.pointer (some ⟨M, 0, none⟩)] w (OutP M B ty tail S X (Rt.ended m 1) w) := by
  have hbA := (Below.refl w.heap.size w).alloc (Nat.le_refl _) (.cells #[.int .i64 0, .int .i64 0, .slice none 0 0] 82)
  have c2 := h.c2
  obtain ⟨fad, fcap, hfv⟩ := ownsRow_form h.frames
  rw [hfv] at c2
  have HH := hide h
  have hMlt := block_lt h.block
  clear h hfv
  have hw : IntKind.i64.wrap ((m.frames.length : Int) - 1) = (m.frames.length : Int) - 1 := by rw [IntWalk.i64_left, IntWalk.wrap64_in _ (by omega)]
  have hlt : (m.frames.length : Int) - 1 < 1 := by omega
  generalize m.frames.length = n at *
  go_enter Tryz.func60, Tryz.ntmps60
  go_wp2_with fail
  have HF := hide ((Aft.start (unhide HH) ((Below.refl w.heap.size w).alloc (Nat.le_refl _) (.cells #[.int .i64 1, .int .i64 0, .slice none 0 0] 82))))
  have E := three_cells (heap_alloc_new w (.cells #[.int .i64 1, .int .i64 0, .slice none 0 0] 82))
  refine bodyPost_ret (v := .agg #[.int .i64 1, .int .i64 0, .slice none 0 0]) ?_ rfl ⟨_, _, rfl, unhide HF, World.ownsRow_nil _ _ _ _⟩
  revert E
  generalize w.alloc (.cells #[.int .i64 1, .int .i64 0, .slice none 0 0] 82) = wz
  intro E
  simp [results, Tryz.results60, go_sem, E.1, E.2.1, E.2.2]
/-- A block that is none of the machine's stays behind a call. -/
theorem Aft.keeps {M B : Nat} {ty : TypeId} {tail : List Value} {S : Rt.Src} {m m' : Rt.Mc} {X X' : McX} {w w' : World} (hm : McS w M B ty tail S m X) (h : Aft M B ty tail S X X' m' w w') {N : Nat} {c : Array Value} {t : TypeId} (hN : w.heap[N]? = some (.cells c t (0, 0))) (hne : N ≠ M) (ht : t ≠ 3 ∧ t ≠ 68 ∧ t ≠ 24) : w'.heap[N]? = some (.cells c t (0, 0)) := by
  refine (h.frm.block N (block_lt hN) (fun hk => ?_)).trans hN
  rcases List.mem_cons.mp hk with hk | hk
  · exact hne hk
  · rw [← hm.blks] at hk
    exact rows_not hm.own hN ht hk
/-- What a call has answered, stored in the caller's own block. -/
theorem OutP.held {M B : Nat} {ty : TypeId} {tail : List Value} {S : Rt.Src} {m : Rt.Mc} {X X' : McX} {o : Rt.Out} {w w1 w4 : World} {R : Nat} {v0 v1 v2 rv : Value} (hmc : McS w M B ty tail S m X) (hb : Below w.heap.size w w1) (hR : w1.heap[R]? = some (.cells #[v0, v1, v2] 82 (0, 0))) (hle : w.heap.size ≤ R) (ha : Aft M B ty tail S X X' o.m w1 w4) (ho : w4.ownsRow w1.heap.size 87 5 rv o.recs.length (recsCells o.recs)) :
    w4.heap[R]? = some (.cells #[v0, v1, v2] 82 (0, 0)) ∧ ∀ a b c, OutP M B ty tail S X o w (.returned (.agg #[.int .i64 o.fin, .int .i64 o.next, rv])) (W3 w4 R a b c) := by
  have hlt := block_lt hmc.block
  have h4 := Aft.keeps (hmc.later hb) ha hR (by omega) (by decide)
  refine ⟨h4, fun a b c => ⟨rv, X', rfl, (Aft.from hmc hb ha).three h4 hle (by unfold PTy; decide) a b c, ?_⟩⟩
  refine own_same (ownsRow_mono ho hb.size) (fun g hg => ?_)
  have := (ho.lt g hg).1
  have := block_lt hR
  exact W3_other _ _ _ _ _ _ (by omega)
set_option maxHeartbeats 1000000 in
theorem perform_flat (w : World) (M B : Nat) (ty : TypeId) (tail : List Value) (S : Rt.Src) (m : Rt.Mc) (X : McX) (BB : Nat) (fm : Rt.PForm) (a1 a2 a3 : Option Addr) (c1 c2 c3 : Nat) (h : McS w M B ty tail S m X) (hm : Mok S m) (hf : FormV w BB (fmA fm a1 a2 a3 c1 c2 c3) fm) (hsm : Rt.Small fm) (hops : ∀ o ∈ fm.values, o.length ≤ 900) (hix : fm.index.length ≤ 900) (hfl : m.frames.length < 2) (hnc : fm.kind ≠ 12) :
    Calls Tryz.prog 38 #[.pointer (some ⟨M, 0, none⟩), .agg (fmA fm a1 a2 a3 c1 c2 c3)] w (OutP M B ty tail S X (Rt.perform S m fm) w) := by
  have hbA := ((Below.refl w.heap.size w).alloc (Nat.le_refl _) (.cells (fmA fm a1 a2 a3 c1 c2 c3) 77)).alloc (by simp) (.cells #[.int .i64 0, .int .i64 0, .slice none 0 0] 82)
  have bR := alloc2_plain w (.cells (fmA fm a1 a2 a3 c1 c2 c3) 77) (.cells #[.int .i64 0, .int .i64 0, .slice none 0 0] 82)
  have hA := h.later hbA
  have hfA := form_later hf hbA
  have HL : ¬ fm.kind = 8 → ¬ fm.kind = 9 → ¬ fm.kind = 10 → ¬ fm.kind = 11 → ¬ fm.kind = 5 → ¬ fm.kind = 7 → Rt.perform S m fm = Rt.ended m 1 := by
    intro e1 e2 e3 e4 e5 e6
    unfold Rt.perform
    simp only
    rw [if_neg e1, if_neg e2, if_neg e3, if_neg e4, if_neg (by omega), if_neg hnc, if_pos hfl]
  generalize hO : Rt.perform S m fm = o at *
  go_enter Tryz.func38, Tryz.ntmps38
  go_wp2_with fail
  all_goals
    first
      | exact absurd (by simpa using ‹(fm.kind == 12) = true›) hnc
      | (refine (setName_any _ M B ty tail S m X BB fm a1 a2 a3 c1 c2 c3 hA hm hfA hsm hops (by simpa using ‹(fm.kind == 8) = true›)).mono ?_; rw [hO])
      | (refine (setCell_any _ M B ty tail S m X BB fm a1 a2 a3 c1 c2 c3 hA hm hfA hsm hops (by simpa using ‹(fm.kind == 9) = true›) hix).mono ?_; rw [hO])
      | (refine (print_any _ M B ty tail S m X BB fm a1 a2 a3 c1 c2 c3 hA hm hfA hsm hops (by simpa using ‹(fm.kind == 10) = true›)).mono ?_; rw [hO])
      | (refine (read_any_m _ M B ty tail S m X fm a1 a2 a3 c1 c2 c3 hA hm (by simpa using ‹(fm.kind == 11) = true›)).mono ?_; rw [hO])
      | (refine (branch_any _ M B ty tail S m X BB fm a1 a2 a3 c1 c2 c3 hA hm hfA hsm hops (by first | exact Or.inl (by simpa using ‹(fm.kind == 5) = true›) | exact Or.inr (by simpa using ‹(fm.kind == 7) = true›))).mono ?_; rw [hO])
      | (refine (leave_first _ M B ty tail S m X hA hfl).mono ?_; rw [← HL (by simpa using ‹(fm.kind == 8) = false›) (by simpa using ‹(fm.kind == 9) = false›) (by simpa using ‹(fm.kind == 10) = false›) (by simpa using ‹(fm.kind == 11) = false›) (by simpa using ‹(fm.kind == 5) = false›) (by simpa using ‹(fm.kind == 7) = false›)])
    (rintro e w4 ⟨rv, X', rfl, ha, ho⟩; obtain ⟨ad, cp, rfl⟩ := ownsRow_form ho; have q := OutP.held h hbA bR (by omega) ha ho; have HQ := hide q.2; obtain ⟨r0, r1, r2⟩ := three_cells q.1; have z := free_of_block q.1; clear q ha ho)
    go_wp2_with fail
    refine bodyPost_ret (v := .agg #[.int .i64 o.fin, .int .i64 o.next, .slice ad o.recs.length cp]) ?_ rfl (unhide HQ _ _ _)
    simp [results, Tryz.results38, go_sem, r0, r1, r2]
end Go.Proofs.YtbpajiljfppjcaaGreat

