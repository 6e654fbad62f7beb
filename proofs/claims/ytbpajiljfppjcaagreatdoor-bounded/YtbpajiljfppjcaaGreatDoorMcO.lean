/- The machine: a step. -/
import Derived.Test.YtbpajiljfppjcaaGreatDoorMcM
namespace Go.Proofs.YtbpajiljfppjcaaGreatDoor
open Go.RowKit
attribute [local go_sem ↓] Go.wp_at_zero Go.wp_at_succ

theorem Aft.from {M B : Nat} {ty : TypeId} {tail : List Value} {S : Rt.Src} {m m' : Rt.Mc} {X X' : McX} {w w1 w' : World} (hm : McS w M B ty tail S m X) (hb : Below w.heap.size w w1) (h : Aft M B ty tail S X X' m' w1 w') : Aft M B ty tail S X X' m' w w' :=
  ⟨h.mc, (Frm.of_below _ hb).trans h.frm (Grows.refl _ _), fun k hk => by rcases h.grow k hk with h' | h'; exact Or.inl h'; exact Or.inr (Nat.le_trans hb.size h'), block_lt hm.block⟩
theorem OutP.from {M B : Nat} {ty : TypeId} {tail : List Value} {S : Rt.Src} {m : Rt.Mc} {X : McX} {o : Rt.Out} {w w1 w' : World} {e : Ending} (hm : McS w M B ty tail S m X) (hb : Below w.heap.size w w1) (h : OutP M B ty tail S X o w1 e w') : OutP M B ty tail S X o w e w' := by
  obtain ⟨rv, X', he, ha, ho⟩ := h
  exact ⟨rv, X', he, Aft.from hm hb ha, ownsRow_mono ho hb.size⟩
/-- In the first frame there is nothing to leave. -/
theorem leave_first (w : World) (M B : Nat) (ty : TypeId) (tail : List Value) (S : Rt.Src) (m : Rt.Mc) (X : McX) (h : McS w M B ty tail S m X) (hf : m.frames.length < 2) :
    Calls Tryz.prog 101 #[.pointer (some ⟨M, 0, none⟩)] w (OutP M B ty tail S X (Rt.ended m 1) w) := by
  have hbA := (Below.refl w.heap.size w).alloc (Nat.le_refl _) (.cells #[.int .i64 0, .int .i64 0, .slice none 0 0] 128)
  have c2 := h.c2
  obtain ⟨fad, fcap, hfv⟩ := ownsRow_form h.frames
  rw [hfv] at c2
  have HH := hide h
  have hMlt := block_lt h.block
  clear h hfv
  have hw : IntKind.i64.wrap ((m.frames.length : Int) - 1) = (m.frames.length : Int) - 1 := by rw [IntWalk.i64_left, IntWalk.wrap64_in _ (by omega)]
  have hlt : (m.frames.length : Int) - 1 < 1 := by omega
  generalize m.frames.length = n at *
  go_enter Tryz.func101, Tryz.ntmps101
  go_wp2_with fail
  have HF := hide ((Aft.start (unhide HH) ((Below.refl w.heap.size w).alloc (Nat.le_refl _) (.cells #[.int .i64 1, .int .i64 0, .slice none 0 0] 128))))
  have E := three_cells (heap_alloc_new w (.cells #[.int .i64 1, .int .i64 0, .slice none 0 0] 128))
  refine bodyPost_ret (v := .agg #[.int .i64 1, .int .i64 0, .slice none 0 0]) ?_ rfl ⟨_, _, rfl, unhide HF, World.ownsRow_nil _ _ _ _⟩
  revert E
  generalize w.alloc (.cells #[.int .i64 1, .int .i64 0, .slice none 0 0] 128) = wz
  intro E
  simp [results, Tryz.results101, go_sem, E.1, E.2.1, E.2.2]
/-- A block that is none of the machine's stays behind a call. -/
theorem Aft.keeps {M B : Nat} {ty : TypeId} {tail : List Value} {S : Rt.Src} {m m' : Rt.Mc} {X X' : McX} {w w' : World} (hm : McS w M B ty tail S m X) (h : Aft M B ty tail S X X' m' w w') {N : Nat} {c : Array Value} {t : TypeId} (hN : w.heap[N]? = some (.cells c t (0, 0))) (hne : N ≠ M) (ht : t ≠ 3 ∧ t ≠ 124 ∧ t ≠ 22) : w'.heap[N]? = some (.cells c t (0, 0)) := by
  refine (h.frm.block N (block_lt hN) (fun hk => ?_)).trans hN
  rcases List.mem_cons.mp hk with hk | hk
  · exact hne hk
  · rw [← hm.blks] at hk
    exact rows_not hm.own hN ht hk
/-- What a call has answered, stored in the caller's own block. -/
theorem OutP.held {M B : Nat} {ty : TypeId} {tail : List Value} {S : Rt.Src} {m : Rt.Mc} {X X' : McX} {o : Rt.Out} {w w1 w4 : World} {R : Nat} {v0 v1 v2 rv : Value} (hmc : McS w M B ty tail S m X) (hb : Below w.heap.size w w1) (hR : w1.heap[R]? = some (.cells #[v0, v1, v2] 128 (0, 0))) (hle : w.heap.size ≤ R) (ha : Aft M B ty tail S X X' o.m w1 w4) (ho : w4.ownsRow w1.heap.size 133 5 rv o.recs.length (recsCells o.recs)) :
    w4.heap[R]? = some (.cells #[v0, v1, v2] 128 (0, 0)) ∧ ∀ a b c, OutP M B ty tail S X o w (.returned (.agg #[.int .i64 o.fin, .int .i64 o.next, rv])) (W3 w4 R a b c) := by
  have hlt := block_lt hmc.block
  have h4 := Aft.keeps (hmc.later hb) ha hR (by omega) (by decide)
  refine ⟨h4, fun a b c => ⟨rv, X', rfl, (Aft.from hmc hb ha).three h4 hle (by unfold PTy; decide) a b c, ?_⟩⟩
  refine own_same (ownsRow_mono ho hb.size) (fun g hg => ?_)
  have := (ho.lt g hg).1
  have := block_lt hR
  exact W3_other _ _ _ _ _ _ (by omega)
set_option maxHeartbeats 1000000 in
theorem perform_flat (w : World) (M B : Nat) (ty : TypeId) (tail : List Value) (S : Rt.Src) (m : Rt.Mc) (X : McX) (BB : Nat) (fm : Rt.PForm) (a1 a2 a3 : Option Addr) (c1 c2 c3 : Nat) (h : McS w M B ty tail S m X) (hm : Mok S m) (hf : FormV w BB (fmA fm a1 a2 a3 c1 c2 c3) fm) (hsm : Rt.Small fm) (hops : ∀ o ∈ fm.values, o.length ≤ 900) (hix : fm.index.length ≤ 900) (hfl : m.frames.length < 2) (hnc : fm.kind ≠ 12) :
    Calls Tryz.prog 69 #[.pointer (some ⟨M, 0, none⟩), .agg (fmA fm a1 a2 a3 c1 c2 c3)] w (OutP M B ty tail S X (Rt.perform S m fm) w) := by
  have hbA := ((Below.refl w.heap.size w).alloc (Nat.le_refl _) (.cells (fmA fm a1 a2 a3 c1 c2 c3) 120)).alloc (by simp) (.cells #[.int .i64 0, .int .i64 0, .slice none 0 0] 128)
  have bR := alloc2_plain w (.cells (fmA fm a1 a2 a3 c1 c2 c3) 120) (.cells #[.int .i64 0, .int .i64 0, .slice none 0 0] 128)
  have hA := h.later hbA
  have hfA := form_later hf hbA
  have HL : ¬ fm.kind = 8 → ¬ fm.kind = 9 → ¬ fm.kind = 10 → ¬ fm.kind = 11 → ¬ fm.kind = 5 → ¬ fm.kind = 7 → Rt.perform S m fm = Rt.ended m 1 := by
    intro e1 e2 e3 e4 e5 e6
    unfold Rt.perform
    simp only
    rw [if_neg e1, if_neg e2, if_neg e3, if_neg e4, if_neg (by omega), if_neg hnc, if_pos hfl]
  generalize hO : Rt.perform S m fm = o at *
  go_enter Tryz.func69, Tryz.ntmps69
  go_wp2_with fail
  all_goals
    first
      | exact absurd (by simpa using ‹(fm.kind == 12) = true›) hnc
      | (refine (setName_any _ M B ty tail S m X BB fm a1 a2 a3 c1 c2 c3 hA hm hfA hsm hops (by simpa using ‹(fm.kind == 8) = true›)).mono ?_; rw [hO])
      | (refine (setCell_any _ M B ty tail S m X BB fm a1 a2 a3 c1 c2 c3 hA hm hfA hsm hops (by simpa using ‹(fm.kind == 9) = true›) hix).mono ?_; rw [hO])
      | (refine (print_any _ M B ty tail S m X BB fm a1 a2 a3 c1 c2 c3 hA hm hfA hsm hops (by simpa using ‹(fm.kind == 10) = true›)).mono ?_; rw [hO])
      | (refine (read_any_m _ M B ty tail S m X fm a1 a2 a3 c1 c2 c3 hA hm (by simpa using ‹(fm.kind == 11) = true›)).mono ?_; rw [hO])
      | (refine (branch_any _ M B ty tail S m X BB fm a1 a2 a3 c1 c2 c3 hA hm hfA hsm hops (by first | exact Or.inl (by simpa using ‹(fm.kind == 5) = true›) | exact Or.inr (by simpa using ‹(fm.kind == 7) = true›))).mono ?_; rw [hO])
      | (refine (leave_first _ M B ty tail S m X hA hfl).mono ?_; rw [← HL (by simpa using ‹(fm.kind == 8) = false›) (by simpa using ‹(fm.kind == 9) = false›) (by simpa using ‹(fm.kind == 10) = false›) (by simpa using ‹(fm.kind == 11) = false›) (by simpa using ‹(fm.kind == 5) = false›) (by simpa using ‹(fm.kind == 7) = false›)])
    (rintro e w4 ⟨rv, X', rfl, ha, ho⟩; obtain ⟨ad, cp, rfl⟩ := ownsRow_form ho; have q := OutP.held h hbA bR (by omega) ha ho; have HQ := hide q.2; obtain ⟨r0, r1, r2⟩ := three_cells q.1; have z := free_of_block q.1; clear q ha ho)
    go_wp2_with fail
    refine bodyPost_ret (v := .agg #[.int .i64 o.fin, .int .i64 o.next, .slice ad o.recs.length cp]) ?_ rfl (unhide HQ _ _ _)
    simp [results, Tryz.results69, go_sem, r0, r1, r2]
end Go.Proofs.YtbpajiljfppjcaaGreatDoor

namespace Go.Proofs.YtbpajiljfppjcaaGreatDoor
open Go.RowKit
attribute [local go_sem ↓] Go.wp_at_zero Go.wp_at_succ

/-- What a step says. -/
def StepP (M B : Nat) (ty : TypeId) (tail : List Value) (S : Rt.Src) (X : McX) (m : Rt.Mc) (w : World) (e : Ending) (w' : World) : Prop :=
  ∃ rv X', e = .returned rv ∧ Aft M B ty tail S X X' (Rt.stepM S m).1 w w' ∧ w'.ownsRow w.heap.size 133 5 rv (Rt.stepM S m).2.length (recsCells (Rt.stepM S m).2)
theorem perform_ended (S : Rt.Src) (m : Rt.Mc) (f : Rt.PForm) (h : (Rt.perform S m f).fin ≠ 0) : (Rt.perform S m f).m = m := by
  unfold Rt.perform at h ⊢
  simp only at h ⊢
  repeat' split at h
  all_goals first | rfl | exact absurd rfl h | skip
  all_goals simp_all [Rt.ended]
theorem wrap_range (x : Int) : -9223372036854775808 ≤ wrap64 x ∧ wrap64 x ≤ 9223372036854775807 := by unfold wrap64; omega
theorem perform_range (S : Rt.Src) (m : Rt.Mc) (f : Rt.PForm) : -9223372036854775808 ≤ (Rt.perform S m f).next ∧ (Rt.perform S m f).next ≤ 9223372036854775807 := by
  have h0 : (-9223372036854775808 : Int) ≤ 0 ∧ (0 : Int) ≤ 9223372036854775807 := by omega
  unfold Rt.perform
  simp only
  repeat' split
  all_goals first | exact h0 | exact wrap_range _ | skip
  all_goals
    unfold Rt.otherwise
    split
    all_goals exact wrap_range _
theorem rec_fresh (n : Nat) (w : World) (B : Nat) (cs : Array Value) (hB : B ≤ w.heap.size) (hn : cs.size = n * 5) (h1 : n ≤ 1000) : (w.alloc (.cells cs 133)).ownsRow B 133 5 (.slice (some ⟨w.heap.size, 0, none⟩) n n) n cs.toList := by
  refine ⟨by simp [hn], Or.inr ⟨w.heap.size, n, cs, rfl, hB, heap_alloc_new w _, Nat.le_refl _, by unfold maxLen; omega, hn, ?_⟩⟩
  exact List.take_of_length_le (by simp [hn])
theorem cutL {Goal : Prop} {F : Nat → Option Addr → Option Addr → Option Addr → Option Addr → Nat → Nat → Nat → Nat → World → Prop} {R : Code} {post : Exit → Act → World → Prop} {fr : Nat → Option Addr → Option Addr → Option Addr → Option Addr → Nat → Nat → Nat → Nat → Act} (main : (∀ O a0 a1 a2 a3 c0 c1 c2 c3 wy, F O a0 a1 a2 a3 c0 c1 c2 c3 wy → Code.wp Tryz.prog R post (fr O a0 a1 a2 a3 c0 c1 c2 c3) wy) → Goal) (pf : ∀ O a0 a1 a2 a3 c0 c1 c2 c3 wy, F O a0 a1 a2 a3 c0 c1 c2 c3 wy → Code.wp Tryz.prog R post (fr O a0 a1 a2 a3 c0 c1 c2 c3) wy) : Goal := main pf
/-- The present line's form, laid into a block. -/
structure StepF (B : Nat) (fm : Rt.PForm) (w : World) (O : Nat) (a1 a2 a3 : Option Addr) (c1 c2 c3 : Nat) (wy : World) : Prop where
  below : Below w.heap.size w wy
  form : wy.heap[O]? = some (.cells (fmA fm a1 a2 a3 c1 c2 c3) 120 (0, 0))
  fv : FormV wy B (fmA fm a1 a2 a3 c1 c2 c3) fm
  le : w.heap.size ≤ O
theorem StepF.one {B : Nat} {fm : Rt.PForm} {w w1 : World} {a1 a2 a3 : Option Addr} {c1 c2 c3 : Nat} (hb : Below w.heap.size w w1) (hf : FormV w1 B (fmA fm a1 a2 a3 c1 c2 c3) fm) : StepF B fm w w1.heap.size a1 a2 a3 c1 c2 c3 (w1.alloc (.cells (fmA fm a1 a2 a3 c1 c2 c3) 120)) := by
  have hbx := (Below.refl w1.heap.size w1).alloc (Nat.le_refl _) (.cells (fmA fm a1 a2 a3 c1 c2 c3) 120)
  exact ⟨hb.trans (hbx.mono (B' := w.heap.size) hb.size), heap_alloc_new _ _, form_later hf hbx, hb.size⟩
theorem StepF.two {B : Nat} {fm : Rt.PForm} {w w1 : World} {O : Nat} {v0 v1 v2 v3 v4 v5 : Value} {a1 a2 a3 : Option Addr} {c1 c2 c3 : Nat} (hb : Below w.heap.size w w1) (hO : w1.heap[O]? = some (.cells #[v0, v1, v2, v3, v4, v5] 120 (0, 0))) (hf : FormV w1 B (fmA fm a1 a2 a3 c1 c2 c3) fm) (hle : w.heap.size ≤ O) : StepF B fm w O a1 a2 a3 c1 c2 c3 (W6 w1 O (.int .i64 fm.kind) (.string fm.name) (.int .i64 fm.cells) (.slice a1 fm.params.length c1) (.slice a2 fm.index.length c2) (.slice a3 fm.values.length c3)) := by
  refine ⟨below_set6 hb hle _ _ _ _ _ _, ?_, ?_, hle⟩
  · have := set_block (set_block (set_block (set_block (set_block (set_block hO 0 (.int .i64 fm.kind)) 1 (.string fm.name)) 2 (.int .i64 fm.cells)) 3 (.slice a1 fm.params.length c1)) 4 (.slice a2 fm.index.length c2)) 5 (.slice a3 fm.values.length c3)
    simpa using this
  · exact FormV_set6_ty hf hO _ _ _ _ _ _
set_option maxHeartbeats 1000000 in
theorem step_flat (w : World) (M B : Nat) (ty : TypeId) (tail : List Value) (S : Rt.Src) (m : Rt.Mc) (X : McX) (h : McS w M B ty tail S m X) (hm : Mok S m) (hops : ∀ o ∈ (Rt.formAt S.pls m.line).values, o.length ≤ 900) (hix : (Rt.formAt S.pls m.line).index.length ≤ 900) (hsm : Rt.Small (Rt.formAt S.pls m.line)) (hfl : m.frames.length < 2) (hnc : (Rt.formAt S.pls m.line).kind ≠ 12) (hfw : LkFwd S.pls S.lk) :
    Calls Tryz.prog 38 #[.pointer (some ⟨M, 0, none⟩)] w (StepP M B ty tail S X m w) := by
  have c6 := h.c6
  have c7 := h.c7
  have HH := hide h
  have HM := hide hm
  have hMlt := block_lt h.block
  by_cases hz : m.fin = 0
  · clear h hm
    rw [hz] at c7
    have hb0 := (Below.refl w.heap.size w).alloc (Nat.le_refl _) (.cells #[.int .i64 0, .string ⟨#[]⟩, .int .i64 0, .slice none 0 0, .slice none 0 0, .slice none 0 0] 120)
    have hMne : ¬ M = w.heap.size := by omega
    have HF := hide (show (Rt.lineAtP S.pls m.line).form = Rt.formAt S.pls m.line from Rt.lineAtP_form _ _)
    have HB := hide hb0
    have HO := hide (heap_alloc_new w (.cells #[.int .i64 0, .string ⟨#[]⟩, .int .i64 0, .slice none 0 0, .slice none 0 0, .slice none 0 0] 120))
    clear hb0
    go_enter Tryz.func38, Tryz.ntmps38
    go_wp2_with fail
    apply cutL (F := fun O a0 a1 a2 a3 c0 c1 c2 c3 wy => StepF B (Rt.lineAtP S.pls m.line).form w O a1 a2 a3 c1 c2 c3 wy)
    · intro HT
      have HT' := hide HT
      clear HT
      go_region_with (first | (go_at_call 68; refine (Line_m _ _ _ _ _ _ _ m.line ((unhide HH).prog.later (below_to_drew _))).mono ?_; rintro e w1 ⟨a0, a1, a2, a3, k0, k1, k2, k3, rfl, -, hfv, hb⟩; have hf := Tryz.fieldL1 a0 (Rt.lineAtP S.pls m.line).toks.length k0 (Rt.lineAtP S.pls m.line).form.kind (Rt.lineAtP S.pls m.line).form.name (Rt.lineAtP S.pls m.line).form.cells a1 (Rt.lineAtP S.pls m.line).form.params.length k1 a2 (Rt.lineAtP S.pls m.line).form.index.length k2 a3 (Rt.lineAtP S.pls m.line).form.values.length k3 (Rt.lineAtP S.pls m.line).depth (Rt.lineAtP S.pls m.line).opener (Rt.lkAt S.lk m.line).1 (Rt.lkAt S.lk m.line).2 (Rt.lineAtP S.pls m.line).proc; have HR := hide (StepF.one (below_of_drew hb) hfv); clear hb hfv) | (go_at_call 68; refine (Line_m _ _ _ _ _ _ _ m.line ((unhide HH).prog.later ((unhide HB).drew))).mono ?_; rintro e w1 ⟨a0, a1, a2, a3, k0, k1, k2, k3, rfl, -, hfv, hb⟩; have hf := Tryz.fieldL1 a0 (Rt.lineAtP S.pls m.line).toks.length k0 (Rt.lineAtP S.pls m.line).form.kind (Rt.lineAtP S.pls m.line).form.name (Rt.lineAtP S.pls m.line).form.cells a1 (Rt.lineAtP S.pls m.line).form.params.length k1 a2 (Rt.lineAtP S.pls m.line).form.index.length k2 a3 (Rt.lineAtP S.pls m.line).form.values.length k3 (Rt.lineAtP S.pls m.line).depth (Rt.lineAtP S.pls m.line).opener (Rt.lkAt S.lk m.line).1 (Rt.lkAt S.lk m.line).2 (Rt.lineAtP S.pls m.line).proc; have hO := block_later (unhide HO) (below_of_drew hb); have HR := hide (StepF.two ((unhide HB).trans ((below_of_drew hb).mono (by simp))) hO hfv (Nat.le_refl _)); obtain ⟨y0, y1, y2, y3, y4, y5, z0, z1, z2, z3, z4, z5⟩ := six hO; have yz := block_lt hO; clear hb hfv hO))
      all_goals
        rename_i hKK
        refine hKK _ _ ?_
        have HR' := unhide HR
        revert HR'
        first
          | (generalize w1.alloc (.cells (fmA (Rt.lineAtP S.pls m.line).form a1 a2 a3 k1 k2 k3) 120) = wy; generalize w1.heap.size = O)
          | (generalize W6 w1 w.heap.size (.int .i64 (Rt.lineAtP S.pls m.line).form.kind) (.string (Rt.lineAtP S.pls m.line).form.name) (.int .i64 (Rt.lineAtP S.pls m.line).form.cells) (.slice a1 (Rt.lineAtP S.pls m.line).form.params.length k1) (.slice a2 (Rt.lineAtP S.pls m.line).form.index.length k2) (.slice a3 (Rt.lineAtP S.pls m.line).form.values.length k3) = wy; generalize w.heap.size = O)
        intro HR'
        exact unhide HT' _ a0 _ _ _ k0 _ _ _ _ HR'
    · intro O a0 a1 a2 a3 c0 c1 c2 c3 wy hR
      have HS := hide (show Rt.stepM S m = if (Rt.perform S m (Rt.formAt S.pls m.line)).fin = 0 then ({ (Rt.perform S m (Rt.formAt S.pls m.line)).m with line := Rt.goOn S.pls S.lk 102 (Rt.perform S m (Rt.formAt S.pls m.line)).next }, (Rt.perform S m (Rt.formAt S.pls m.line)).recs) else ({ m with fin := (Rt.perform S m (Rt.formAt S.pls m.line)).fin }, [Rt.stay m.line]) by unfold Rt.stepM; rw [if_pos hz])
      rw [unhide HF] at hR ⊢
      obtain ⟨hbY, bO, hfv, hle⟩ := hR
      have hY := (unhide HH).later hbY
      obtain ⟨y0, y1, y2, y3, y4, y5, z0, z1, z2, z3, z4, z5⟩ := six bO
      go_wp2_with fail
      refine (perform_flat _ M B ty tail S m X B _ a1 a2 a3 c1 c2 c3 hY (unhide HM) hfv hsm hops hix hfl hnc).mono ?_
      rintro e w4 ⟨rv, X', rfl, ha, ho⟩
      have HEN := hide (perform_ended S m (Rt.formAt S.pls m.line))
      have HRG := hide (perform_range S m (Rt.formAt S.pls m.line))
      generalize Rt.perform S m (Rt.formAt S.pls m.line) = o at *
      obtain ⟨ad, cp, rfl⟩ := ownsRow_form ho
      have ha' := Aft.from (unhide HH) hbY ha
      have ho' := ownsRow_mono ho hbY.size
      have hb5 := (Below.refl w4.heap.size w4).alloc (Nat.le_refl _) (.cells #[.int .i64 o.fin, .int .i64 o.next, .slice ad o.recs.length cp] 128)
      have HA5 := hide (And.intro (ha'.below hb5) (And.intro (own_later ho' hb5) (heap_alloc_new w4 (.cells #[.int .i64 o.fin, .int .i64 o.next, .slice ad o.recs.length cp] 128))))
      have HA4 := hide ha'
      have hO5 : M < w4.heap.size := Nat.lt_of_lt_of_le ha'.lt ha'.frm.size
      have hO6 : ¬ M = w4.heap.size := by omega
      have hO7 : w.heap.size ≤ w4.heap.size := ha'.frm.size
      have d7 := ha'.mc.c7
      have d6 := ha'.mc.c6
      have e7 := ha'.mc.fz 7
      have e6 := ha'.mc.fz 6
      clear ha ho ha' ho' hb5 hY hfv bO y0 y1 y2 y3 y4 y5 z0 z1 z2 z3 z4 z5 c6 c7
      by_cases hfn : o.fin = 0
      · replace HS := hide ((unhide HS).trans (if_pos hfn))
        have hfn' : (o.fin != 0) = false := by simpa using hfn
        rw [hfn] at HA5
        go_wp2_with fail
        go_region_with ((go_at_call 70; refine (goOn_any _ M B S.pls S.lk _ _ o.next ((unhide HA5).1.mc.prog.later (below_to_drew _)) (unhide HM).pls hfw (unhide HRG)).mono ?_; rintro e w6 ⟨rfl, hb6'⟩; have hb6 := below_of_drew hb6'; obtain ⟨hA5, ho5, bO5⟩ := unhide HA5; have hA6 := hA5.below hb6; have ho6 := own_later ho5 hb6; have bO6 := block_later bO5 hb6; have g6 := hA6.mc.c6; have k6 := hA6.mc.fz 6; obtain ⟨r0, r1, r2⟩ := three_cells bO6; have HF1 := hide (hA6.own (m' := { o.m with line := Rt.goOn S.pls S.lk 102 o.next }) 6 (.int .i64 (Rt.goOn S.pls S.lk 102 o.next)) (by simp [mcCells]) rfl rfl rfl); have HF2 := hide (own_same (w' := w6.setCell ⟨M, 6, none⟩ (.int .i64 (Rt.goOn S.pls S.lk 102 o.next))) ho6 (fun g hg => Below.heap_setCell w6 ⟨M, 6, none⟩ _ g (by have := (ho6.lt g hg).1; show g ≠ M; omega))); clear hA5 ho5 bO5 hA6 ho6 bO6 hb6 hb6'))
        all_goals
          clear d6 d7 e6 e7
          go_wp2_with fail
          go_ret
          exact ⟨_, _, rfl, by rw [unhide HS]; exact unhide HF1, by rw [unhide HS]; exact unhide HF2⟩
      · replace HS := hide ((unhide HS).trans (if_neg hfn))
        have hfn' : (o.fin != 0) = true := by simpa using hfn
        have hom := unhide HEN hfn
        have hA4 := unhide HA4
        rw [hom] at hA4 d6 d7
        have hA6 := (hA4.own (m' := { m with fin := o.fin }) 7 (.int .i64 o.fin) (by simp [mcCells]) rfl rfl rfl).below ((Below.refl _ _).alloc (Nat.le_refl _) (.cells #[.int .i64 o.fin, .int .i64 o.next, .slice ad o.recs.length cp] 128))
        have hsz : ((w4.setCell ⟨M, 7, none⟩ (.int .i64 o.fin)).alloc (.cells #[.int .i64 o.fin, .int .i64 o.next, .slice ad o.recs.length cp] 128)).heap.size = w4.heap.size + 1 := by simp [World.setCell]
        have HF1 := hide (hA6.below ((Below.refl _ _).alloc (Nat.le_refl _) (.cells #[.int .i64 1, .int .i64 m.line, .int .i64 0, .int .i64 0, .int .i64 0] 133)))
        have hfr := rec_fresh 1 ((w4.setCell ⟨M, 7, none⟩ (.int .i64 o.fin)).alloc (.cells #[.int .i64 o.fin, .int .i64 o.next, .slice ad o.recs.length cp] 128)) w.heap.size #[.int .i64 1, .int .i64 m.line, .int .i64 0, .int .i64 0, .int .i64 0] (hA6.frm.size) rfl (by omega)
        rw [hsz] at hfr
        have HF2 := hide hfr
        clear hA4 hA6 hfr hsz
        go_wp2_with fail
        go_ret
        exact ⟨_, _, rfl, by rw [unhide HS]; exact unhide HF1, by rw [unhide HS]; exact unhide HF2⟩
  · have hz' : (m.fin != 0) = true := by simpa using hz
    have HS := hide (show Rt.stepM S m = (m, []) by unfold Rt.stepM; rw [if_neg hz])
    clear h hm
    go_enter Tryz.func38, Tryz.ntmps38
    go_wp2_with fail
    go_ret
    exact ⟨_, X, rfl, by rw [unhide HS]; exact Aft.start (unhide HH) (Below.refl _ _), by rw [unhide HS]; exact World.ownsRow_nil _ _ _ _⟩
end Go.Proofs.YtbpajiljfppjcaaGreatDoor

