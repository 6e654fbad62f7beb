/- The machine: a frame more, a frame less. -/
import Derived.Test.YtbpajiljfppjcaaGreatMcN
namespace Go.Proofs.YtbpajiljfppjcaaGreat
open Go.RowKit
attribute [local go_sem ↓] Go.wp_at_zero Go.wp_at_succ

/-- What a step says. -/
def StepP (M B : Nat) (ty : TypeId) (tail : List Value) (S : Rt.Src) (X : McX) (m : Rt.Mc) (w : World) (e : Ending) (w' : World) : Prop :=
  ∃ rv X', e = .returned rv ∧ Aft M B ty tail S X X' (Rt.stepM S m).1 w w' ∧ w'.ownsRow w.heap.size 87 5 rv (Rt.stepM S m).2.length (recsCells (Rt.stepM S m).2)
theorem perform_ended (S : Rt.Src) (m : Rt.Mc) (f : Rt.PForm) (h : (Rt.perform S m f).fin ≠ 0) : (Rt.perform S m f).m = m := by
  unfold Rt.perform at h ⊢
  simp only at h ⊢
  repeat' split at h
  all_goals first | rfl | exact absurd rfl h | skip
  all_goals simp_all [Rt.ended]
theorem wrap_range (x : Int) : -9223372036854775808 ≤ wrap64 x ∧ wrap64 x ≤ 9223372036854775807 := by unfold wrap64; omega
theorem perform_range (S : Rt.Src) (m : Rt.Mc) (f : Rt.PForm) : -9223372036854775808 ≤ (Rt.perform S m f).next ∧ (Rt.perform S m f).next ≤ 9223372036854775807 := by
  have h0 : (-9223372036854775808 : Int) ≤ 0 ∧ (0 : Int) ≤ 9223372036854775807 := by omega
  unfold Rt.perform
  simp only
  repeat' split
  all_goals first | exact h0 | exact wrap_range _ | skip
  all_goals
    unfold Rt.otherwise
    split
    all_goals exact wrap_range _
theorem rec_fresh (n : Nat) (w : World) (B : Nat) (cs : Array Value) (hB : B ≤ w.heap.size) (hn : cs.size = n * 5) (h1 : n ≤ 1000) : (w.alloc (.cells cs 87)).ownsRow B 87 5 (.slice (some ⟨w.heap.size, 0, none⟩) n n) n cs.toList := by
  refine ⟨by simp [hn], Or.inr ⟨w.heap.size, n, cs, rfl, hB, heap_alloc_new w _, Nat.le_refl _, by unfold maxLen; omega, hn, ?_⟩⟩
  exact List.take_of_length_le (by simp [hn])
theorem cutL {Goal : Prop} {F : Nat → Option Addr → Option Addr → Option Addr → Option Addr → Nat → Nat → Nat → Nat → World → Prop} {R : Code} {post : Exit → Act → World → Prop} {fr : Nat → Option Addr → Option Addr → Option Addr → Option Addr → Nat → Nat → Nat → Nat → Act} (main : (∀ O a0 a1 a2 a3 c0 c1 c2 c3 wy, F O a0 a1 a2 a3 c0 c1 c2 c3 wy → Code.wp Tryz.prog R post (fr O a0 a1 a2 a3 c0 c1 c2 c3) wy) → Goal) (pf : ∀ O a0 a1 a2 a3 c0 c1 c2 c3 wy, F O a0 a1 a2 a3 c0 c1 c2 c3 wy → Code.wp Tryz.prog R post (fr O a0 a1 a2 a3 c0 c1 c2 c3) wy) : Goal := main pf
/-- The present line's form, laid into a block. -/
structure StepF (B : Nat) (fm : Rt.PForm) (w : World) (O : Nat) (a1 a2 a3 : Option Addr) (c1 c2 c3 : Nat) (wy : World) : Prop where
  below : Below w.heap.size w wy
  form : wy.heap[O]? = some (.cells (fmA fm a1 a2 a3 c1 c2 c3) 77 (0, 0))
  fv : FormV wy B (fmA fm a1 a2 a3 c1 c2 c3) fm
  le : w.heap.size ≤ O
theorem StepF.one {B : Nat} {fm : Rt.PForm} {w w1 : World} {a1 a2 a3 : Option Addr} {c1 c2 c3 : Nat} (hb : Below w.heap.size w w1) (hf : FormV w1 B (fmA fm a1 a2 a3 c1 c2 c3) fm) : StepF B fm w w1.heap.size a1 a2 a3 c1 c2 c3 (w1.alloc (.cells (fmA fm a1 a2 a3 c1 c2 c3) 77)) := by
  have hbx := (Below.refl w1.heap.size w1).alloc (Nat.le_refl _) (.cells (fmA fm a1 a2 a3 c1 c2 c3) 77)
  exact ⟨hb.trans (hbx.mono (B' := w.heap.size) hb.size), heap_alloc_new _ _, form_later hf hbx, hb.size⟩
theorem StepF.two {B : Nat} {fm : Rt.PForm} {w w1 : World} {O : Nat} {v0 v1 v2 v3 v4 v5 : Value} {a1 a2 a3 : Option Addr} {c1 c2 c3 : Nat} (hb : Below w.heap.size w w1) (hO : w1.heap[O]? = some (.cells #[v0, v1, v2, v3, v4, v5] 77 (0, 0))) (hf : FormV w1 B (fmA fm a1 a2 a3 c1 c2 c3) fm) (hle : w.heap.size ≤ O) : StepF B fm w O a1 a2 a3 c1 c2 c3 (W6 w1 O (.int .i64 fm.kind) (.string fm.name) (.int .i64 fm.cells) (.slice a1 fm.params.length c1) (.slice a2 fm.index.length c2) (.slice a3 fm.values.length c3)) := by
  refine ⟨below_set6 hb hle _ _ _ _ _ _, ?_, ?_, hle⟩
  · have := set_block (set_block (set_block (set_block (set_block (set_block hO 0 (.int .i64 fm.kind)) 1 (.string fm.name)) 2 (.int .i64 fm.cells)) 3 (.slice a1 fm.params.length c1)) 4 (.slice a2 fm.index.length c2)) 5 (.slice a3 fm.values.length c3)
    simpa using this
  · exact FormV_set6_ty hf hO _ _ _ _ _ _
set_option maxHeartbeats 1000000 in
theorem step_flat (w : World) (M B : Nat) (ty : TypeId) (tail : List Value) (S : Rt.Src) (m : Rt.Mc) (X : McX) (h : McS w M B ty tail S m X) (hm : Mok S m) (hops : ∀ o ∈ (Rt.formAt S.pls m.line).values, o.length ≤ 900) (hix : (Rt.formAt S.pls m.line).index.length ≤ 900) (hsm : Rt.Small (Rt.formAt S.pls m.line)) (hfl : m.frames.length < 2) (hnc : (Rt.formAt S.pls m.line).kind ≠ 12) (hfw : LkFwd S.pls S.lk) :
    Calls Tryz.prog 24 #[.pointer (some ⟨M, 0, none⟩)] w (StepP M B ty tail S X m w) := by
  have c6 := h.c6
  have c7 := h.c7
  have HH := hide h
  have HM := hide hm
  have hMlt := block_lt h.block
  by_cases hz : m.fin = 0
  · clear h hm
    rw [hz] at c7
    have hb0 := (Below.refl w.heap.size w).alloc (Nat.le_refl _) (.cells #[.int .i64 0, .string ⟨#[]⟩, .int .i64 0, .slice none 0 0, .slice none 0 0, .slice none 0 0] 77)
    have hMne : ¬ M = w.heap.size := by omega
    have HF := hide (show (Rt.lineAtP S.pls m.line).form = Rt.formAt S.pls m.line from Rt.lineAtP_form _ _)
    have HB := hide hb0
    have HO := hide (heap_alloc_new w (.cells #[.int .i64 0, .string ⟨#[]⟩, .int .i64 0, .slice none 0 0, .slice none 0 0, .slice none 0 0] 77))
    clear hb0
    go_enter Tryz.func24, Tryz.ntmps24
    go_wp2_with fail
    apply cutL (F := fun O a0 a1 a2 a3 c0 c1 c2 c3 wy => StepF B (Rt.lineAtP S.pls m.line).form w O a1 a2 a3 c1 c2 c3 wy)
    · intro HT
      have HT' := hide HT
      clear HT
      go_region_with (first | (go_at_call 37; refine (Line_m _ _ _ _ _ _ _ m.line ((unhide HH).prog.later (below_to_drew _))).mono ?_; rintro e w1 ⟨a0, a1, a2, a3, k0, k1, k2, k3, rfl, -, hfv, hb⟩; have hf := Tryz.fieldL1 a0 (Rt.lineAtP S.pls m.line).toks.length k0 (Rt.lineAtP S.pls m.line).form.kind (Rt.lineAtP S.pls m.line).form.name (Rt.lineAtP S.pls m.line).form.cells a1 (Rt.lineAtP S.pls m.line).form.params.length k1 a2 (Rt.lineAtP S.pls m.line).form.index.length k2 a3 (Rt.lineAtP S.pls m.line).form.values.length k3 (Rt.lineAtP S.pls m.line).depth (Rt.lineAtP S.pls m.line).opener (Rt.lkAt S.lk m.line).1 (Rt.lkAt S.lk m.line).2 (Rt.lineAtP S.pls m.line).proc; have HR := hide (StepF.one (below_of_drew hb) hfv); clear hb hfv) | (go_at_call 37; refine (Line_m _ _ _ _ _ _ _ m.line ((unhide HH).prog.later ((unhide HB).drew))).mono ?_; rintro e w1 ⟨a0, a1, a2, a3, k0, k1, k2, k3, rfl, -, hfv, hb⟩; have hf := Tryz.fieldL1 a0 (Rt.lineAtP S.pls m.line).toks.length k0 (Rt.lineAtP S.pls m.line).form.kind (Rt.lineAtP S.pls m.line).form.name (Rt.lineAtP S.pls m.line).form.cells a1 (Rt.lineAtP S.pls m.line).form.params.length k1 a2 (Rt.lineAtP S.pls m.line).form.index.length k2 a3 (Rt.lineAtP S.pls m.line).form.values.length k3 (Rt.lineAtP S.pls m.line).depth (Rt.lineAtP S.pls m.line).opener (Rt.lkAt S.lk m.line).1 (Rt.lkAt S.lk m.line).2 (Rt.lineAtP S.pls m.line).proc; have hO := block_later (unhide HO) (below_of_drew hb); have HR := hide (StepF.two ((unhide HB).trans ((below_of_drew hb).mono (by simp))) hO hfv (Nat.le_refl _)); obtain ⟨y0, y1, y2, y3, y4, y5, z0, z1, z2, z3, z4, z5⟩ := six hO; have yz := block_lt hO; clear hb hfv hO))
      all_goals
        rename_i hKK
        refine hKK _ _ ?_
        have HR' := unhide HR
        revert HR'
        first
          | (generalize w1.alloc (.cells (fmA (Rt.lineAtP S.pls m.line).form a1 a2 a3 k1 k2 k3) 77) = wy; generalize w1.heap.size = O)
          | (generalize W6 w1 w.heap.size (.int .i64 (Rt.lineAtP S.pls m.line).form.kind) (.string (Rt.lineAtP S.pls m.line).form.name) (.int .i64 (Rt.lineAtP S.pls m.line).form.cells) (.slice a1 (Rt.lineAtP S.pls m.line).form.params.length k1) (.slice a2 (Rt.lineAtP S.pls m.line).form.index.length k2) (.slice a3 (Rt.lineAtP S.pls m.line).form.values.length k3) = wy; generalize w.heap.size = O)
        intro HR'
        exact unhide HT' _ a0 _ _ _ k0 _ _ _ _ HR'
    · intro O a0 a1 a2 a3 c0 c1 c2 c3 wy hR
      have HS := hide (show Rt.stepM S m = if (Rt.perform S m (Rt.formAt S.pls m.line)).fin = 0 then ({ (Rt.perform S m (Rt.formAt S.pls m.line)).m with line := Rt.goOn S.pls S.lk 102 (Rt.perform S m (Rt.formAt S.pls m.line)).next }, (Rt.perform S m (Rt.formAt S.pls m.line)).recs) else ({ m with fin := (Rt.perform S m (Rt.formAt S.pls m.line)).fin }, [Rt.stay m.line]) by unfold Rt.stepM; rw [if_pos hz])
      rw [unhide HF] at hR ⊢
      obtain ⟨hbY, bO, hfv, hle⟩ := hR
      have hY := (unhide HH).later hbY
      obtain ⟨y0, y1, y2, y3, y4, y5, z0, z1, z2, z3, z4, z5⟩ := six bO
      go_wp2_with fail
      refine (perform_flat _ M B ty tail S m X B _ a1 a2 a3 c1 c2 c3 hY (unhide HM) hfv hsm hops hix hfl hnc).mono ?_
      rintro e w4 ⟨rv, X', rfl, ha, ho⟩
      have HEN := hide (perform_ended S m (Rt.formAt S.pls m.line))
      have HRG := hide (perform_range S m (Rt.formAt S.pls m.line))
      generalize Rt.perform S m (Rt.formAt S.pls m.line) = o at *
      obtain ⟨ad, cp, rfl⟩ := ownsRow_form ho
      have ha' := Aft.from (unhide HH) hbY ha
      have ho' := ownsRow_mono ho hbY.size
      have hb5 := (Below.refl w4.heap.size w4).alloc (Nat.le_refl _) (.cells #[.int .i64 o.fin, .int .i64 o.next, .slice ad o.recs.length cp] 82)
      have HA5 := hide (And.intro (ha'.below hb5) (And.intro (own_later ho' hb5) (heap_alloc_new w4 (.cells #[.int .i64 o.fin, .int .i64 o.next, .slice ad o.recs.length cp] 82))))
      have HA4 := hide ha'
      have hO5 : M < w4.heap.size := Nat.lt_of_lt_of_le ha'.lt ha'.frm.size
      have hO6 : ¬ M = w4.heap.size := by omega
      have hO7 : w.heap.size ≤ w4.heap.size := ha'.frm.size
      have d7 := ha'.mc.c7
      have d6 := ha'.mc.c6
      have e7 := ha'.mc.fz 7
      have e6 := ha'.mc.fz 6
      clear ha ho ha' ho' hb5 hY hfv bO y0 y1 y2 y3 y4 y5 z0 z1 z2 z3 z4 z5 c6 c7
      by_cases hfn : o.fin = 0
      · replace HS := hide ((unhide HS).trans (if_pos hfn))
        have hfn' : (o.fin != 0) = false := by simpa using hfn
        rw [hfn] at HA5
        go_wp2_with fail
        go_region_with ((go_at_call 39; refine (goOn_any _ M B S.pls S.lk _ _ o.next ((unhide HA5).1.mc.prog.later (below_to_drew _)) (unhide HM).pls hfw (unhide HRG)).mono ?_; rintro e w6 ⟨rfl, hb6'⟩; have hb6 := below_of_drew hb6'; obtain ⟨hA5, ho5, bO5⟩ := unhide HA5; have hA6 := hA5.below hb6; have ho6 := own_later ho5 hb6; have bO6 := block_later bO5 hb6; have g6 := hA6.mc.c6; have k6 := hA6.mc.fz 6; obtain ⟨r0, r1, r2⟩ := three_cells bO6; have HF1 := hide (hA6.own (m' := { o.m with line := Rt.goOn S.pls S.lk 102 o.next }) 6 (.int .i64 (Rt.goOn S.pls S.lk 102 o.next)) (by simp [mcCells]) rfl rfl rfl); have HF2 := hide (own_same (w' := w6.setCell ⟨M, 6, none⟩ (.int .i64 (Rt.goOn S.pls S.lk 102 o.next))) ho6 (fun g hg => Below.heap_setCell w6 ⟨M, 6, none⟩ _ g (by have := (ho6.lt g hg).1; show g ≠ M; omega))); clear hA5 ho5 bO5 hA6 ho6 bO6 hb6 hb6'))
        all_goals
          clear d6 d7 e6 e7
          go_wp2_with fail
          go_ret
          exact ⟨_, _, rfl, by rw [unhide HS]; exact unhide HF1, by rw [unhide HS]; exact unhide HF2⟩
      · replace HS := hide ((unhide HS).trans (if_neg hfn))
        have hfn' : (o.fin != 0) = true := by simpa using hfn
        have hom := unhide HEN hfn
        have hA4 := unhide HA4
        rw [hom] at hA4 d6 d7
        have hA6 := (hA4.own (m' := { m with fin := o.fin }) 7 (.int .i64 o.fin) (by simp [mcCells]) rfl rfl rfl).below ((Below.refl _ _).alloc (Nat.le_refl _) (.cells #[.int .i64 o.fin, .int .i64 o.next, .slice ad o.recs.length cp] 82))
        have hsz : ((w4.setCell ⟨M, 7, none⟩ (.int .i64 o.fin)).alloc (.cells #[.int .i64 o.fin, .int .i64 o.next, .slice ad o.recs.length cp] 82)).heap.size = w4.heap.size + 1 := by simp [World.setCell]
        have HF1 := hide (hA6.below ((Below.refl _ _).alloc (Nat.le_refl _) (.cells #[.int .i64 1, .int .i64 m.line, .int .i64 0, .int .i64 0, .int .i64 0] 87)))
        have hfr := rec_fresh 1 ((w4.setCell ⟨M, 7, none⟩ (.int .i64 o.fin)).alloc (.cells #[.int .i64 o.fin, .int .i64 o.next, .slice ad o.recs.length cp] 82)) w.heap.size #[.int .i64 1, .int .i64 m.line, .int .i64 0, .int .i64 0, .int .i64 0] (hA6.frm.size) rfl (by omega)
        rw [hsz] at hfr
        have HF2 := hide hfr
        clear hA4 hA6 hfr hsz
        go_wp2_with fail
        go_ret
        exact ⟨_, _, rfl, by rw [unhide HS]; exact unhide HF1, by rw [unhide HS]; exact unhide HF2⟩
  · have hz' : (m.fin != 0) = true := by simpa using hz
    have HS := hide (show Rt.stepM S m = (m, []) by unfold Rt.stepM; rw [if_neg hz])
    clear h hm
    go_enter Tryz.func24, Tryz.ntmps24
    go_wp2_with fail
    go_ret
    exact ⟨_, X, rfl, by rw [unhide HS]; exact Aft.start (unhide HH) (Below.refl _ _), by rw [unhide HS]; exact World.ownsRow_nil _ _ _ _⟩
end Go.Proofs.YtbpajiljfppjcaaGreat

namespace Go.Proofs.YtbpajiljfppjcaaGreat
open Go.RowKit

theorem mem_blks_mid {A B : List Rw} {r : Rw} {k : Nat} (h : k ∈ blks (A ++ r :: B)) : k ∈ blks (A ++ B) ∨ r.v.ownBlock = some k := by
  rw [blks_app, blks_cons] at h
  rw [blks_app]
  rcases List.mem_append.mp h with h | h
  · exact Or.inl (List.mem_append_left _ h)
  · cases e : r.v.ownBlock with
    | none => rw [e] at h; exact Or.inl (List.mem_append_right _ h)
    | some g =>
      rw [e] at h
      rcases List.mem_cons.mp h with rfl | h
      · exact Or.inr rfl
      · exact Or.inl (List.mem_append_right _ h)
/-- The frames' row is none of the others. -/
theorem McS.frameNe {w : World} {M B : Nat} {ty : TypeId} {tail : List Value} {S : Rt.Src} {m : Rt.Mc} {X : McX} (h : McS w M B ty tail S m X) : X.fv.ownBlock ≠ some M := by
  intro e
  obtain ⟨c, hc⟩ := own_blk h.frames e
  rw [h.block] at hc
  injection hc with hc
  injection hc with _ hc
  exact h.ty.2.1 hc
theorem McS.frameKeep {w w1 : World} {M B : Nat} {ty : TypeId} {tail : List Value} {S : Rt.Src} {m : Rt.Mc} {X : McX} (h : McS w M B ty tail S m X) (hkeep : ∀ k, k < w.heap.size → X.fv.ownBlock ≠ some k → w1.heap[k]? = w.heap[k]?) :
    ∀ (k : Nat) (x : Obj), w.heap[k]? = some x → (∃ c t, x = Obj.cells c t (0, 0) ∧ PTy t) → w1.heap[k]? = some x := by
  intro k x hx hp
  rw [hkeep k (block_lt hx) (fun e => by
    obtain ⟨c, hc⟩ := own_blk h.frames e
    rw [hx] at hc
    injection hc with hc
    obtain ⟨c', t', e2, hp⟩ := hp
    rw [hc] at e2
    injection e2 with _ e2
    rw [← e2] at hp
    exact absurd hp (by unfold PTy; decide))]
  exact hx
def frameRow (X : McX) (m : Rt.Mc) : Rw := ⟨68, 2, X.fv, m.frames.length, fCells X.fps m.frames⟩
theorem rows_frame (inp : List Int) (X : McX) (m : Rt.Mc) : rowsOf inp X m = [iRow X.iv inp] ++ frameRow X m :: ([⟨24, 1, X.vv, m.values.length, X.vps⟩, iRow X.ov m.output] ++ (List.zipWith iRow X.fps (m.frames.map Rt.Fm.params) ++ List.zipWith iRow X.vps m.values)) := rfl
/-- A frame more. -/
theorem McS.framePush {w wx wy w1 : World} {M B : Nat} {ty : TypeId} {tail : List Value} {S : Rt.Src} {m : Rt.Mc} {X : McX} (h : McS w M B ty tail S m X) (hb : Below w.heap.size w wx) (hby : Below wx.heap.size wx wy) (pv : Value) (ps : List Int) (call : Int) (hn : wx.ownsRow w.heap.size 3 1 pv ps.length (intsV ps))
    (hg : wy.grownBy w1 X.fv.ownBlock) (fv' : Value) (hown : w1.ownsRow 0 68 2 fv' (m.frames.length + 1) (fCells X.fps m.frames ++ [pv, .int .i64 call])) (hat : ∀ g, fv'.ownBlock = some g → X.fv.ownBlock = some g ∨ wx.heap.size ≤ g) :
    McS (w1.setCell ⟨M, 2, none⟩ fv') M B ty tail S { m with frames := m.frames ++ [⟨ps, call⟩] } { X with fv := fv', fps := X.fps ++ [pv] } ∧ Frm w (w1.setCell ⟨M, 2, none⟩ fv') (M :: blkX X) ∧ Grows w (blkX X) (blkX { X with fv := fv', fps := X.fps ++ [pv] }) := by
  have hkx : ∀ k, k < wx.heap.size → X.fv.ownBlock ≠ some k → w1.heap[k]? = wx.heap[k]? := fun k hk hv => (hg.block k (Nat.lt_of_lt_of_le hk hby.size) (Ne.symm hv)).trans (hby.block k hk)
  have hkeep : ∀ k, k < w.heap.size → X.fv.ownBlock ≠ some k → w1.heap[k]? = w.heap[k]? := fun k hk hv => (hkx k (Nat.lt_of_lt_of_le hk hb.size) hv).trans (hb.block k hk)
  have hMne := h.frameNe
  have hk := h.frameKeep hkeep
  have ho0 := h.own.later hb
  have hpv : ∀ g, pv.ownBlock = some g → g ∉ Go.Proofs.YtbpajiljfppjcaaGreat.blks (rowsOf S.input X m) := fun g hg hm => by
    have h1 := h.own.lt g hm
    have h2 := (hn.lt g hg).1
    omega
  have ho1 : Own wx (([iRow X.iv S.input, frameRow X m, ⟨24, 1, X.vv, m.values.length, X.vps⟩, iRow X.ov m.output] ++ List.zipWith iRow X.fps (m.frames.map Rt.Fm.params)) ++ iRow pv ps :: List.zipWith iRow X.vps m.values) :=
    Own.add (by rw [List.append_assoc]; exact ho0) (own_zero hn) (fun g hg => by rw [List.append_assoc]; exact hpv g hg)
  have hre : ([iRow X.iv S.input, frameRow X m, ⟨24, 1, X.vv, m.values.length, X.vps⟩, iRow X.ov m.output] ++ List.zipWith iRow X.fps (m.frames.map Rt.Fm.params)) ++ iRow pv ps :: List.zipWith iRow X.vps m.values = [iRow X.iv S.input] ++ frameRow X m :: ([⟨24, 1, X.vv, m.values.length, X.vps⟩, iRow X.ov m.output] ++ (List.zipWith iRow X.fps (m.frames.map Rt.Fm.params) ++ iRow pv ps :: List.zipWith iRow X.vps m.values)) := by simp
  have ho2 := ho1
  rw [hre] at ho2
  obtain ⟨o1, o2⟩ := Own.swap (w' := w1) ho2 (r' := ⟨68, 2, fv', m.frames.length + 1, fCells X.fps m.frames ++ [pv, .int .i64 call]⟩) hkx hown hat
  have hz : List.zipWith iRow (X.fps ++ [pv]) ((m.frames ++ [(⟨ps, call⟩ : Rt.Fm)]).map Rt.Fm.params) = List.zipWith iRow X.fps (m.frames.map Rt.Fm.params) ++ [iRow pv ps] := by
    rw [List.map_append, List.zipWith_append (by rw [List.length_map]; exact h.fl)]; rfl
  have hrows' : rowsOf S.input { X with fv := fv', fps := X.fps ++ [pv] } { m with frames := m.frames ++ [⟨ps, call⟩] } = [iRow X.iv S.input] ++ ⟨68, 2, fv', m.frames.length + 1, fCells X.fps m.frames ++ [pv, .int .i64 call]⟩ :: ([⟨24, 1, X.vv, m.values.length, X.vps⟩, iRow X.ov m.output] ++ (List.zipWith iRow X.fps (m.frames.map Rt.Fm.params) ++ iRow pv ps :: List.zipWith iRow X.vps m.values)) := by
    unfold rowsOf
    simp only [hz, fCells_snoc _ _ _ _ h.fl, List.length_append, List.length_singleton, List.append_assoc, List.cons_append, List.nil_append]
  have hmc := h.step (w1 := w1) (m' := { m with frames := m.frames ++ [⟨ps, call⟩] }) (X' := { X with fv := fv', fps := X.fps ++ [pv] }) (Nat.le_trans (Nat.le_trans hb.size hby.size) hg.size) (hkeep M (block_lt h.block) hMne) hk 2 fv' (by simp [mcCells]) (by rw [hrows']; exact o1) rfl rfl (by simp [h.fl]) h.vl
  refine ⟨hmc, ?_, ?_⟩
  · refine Frm.setM ⟨hg.os.trans (hby.os.trans hb.os), hg.tape.trans (hby.tape.trans hb.tape), hg.output.trans (hby.output.trans hb.output), Nat.le_trans (Nat.le_trans hb.size hby.size) hg.size, fun k hk2 hn => hkeep k hk2 (fun e => hn (List.mem_cons_of_mem _ ?_))⟩ _ _
    rw [← h.blks]
    exact mem_blks (r := frameRow X m) (by rw [rows_frame]; simp) e
  · rw [← h.blks, ← hmc.blks, hrows']
    intro k hk3
    rcases o2 k hk3 with hk4 | hk4
    · rw [← hre] at hk4
      rcases mem_blks_mid hk4 with hk5 | hk5
      · rw [List.append_assoc] at hk5
        exact Or.inl hk5
      · exact Or.inr (hn.lt k hk5).1
    · exact Or.inr (Nat.le_trans hb.size hk4)
/-- A frame less. -/
theorem McS.framePop {w w1 : World} {M B : Nat} {ty : TypeId} {tail : List Value} {S : Rt.Src} {m : Rt.Mc} {X : McX} (h : McS w M B ty tail S m X) (fs : List Rt.Fm) (f : Rt.Fm) (hf : m.frames = fs ++ [f]) (g cap : Nat) (hv : X.fv = .slice (some ⟨g, 0, none⟩) (fs.length + 1) cap) (hb : Below w.heap.size w w1) :
    McS (w1.setCell ⟨M, 2, none⟩ (.slice (some ⟨g, 0, none⟩) fs.length cap)) M B ty tail S { m with frames := fs } { X with fv := .slice (some ⟨g, 0, none⟩) fs.length cap, fps := X.fps.dropLast } ∧ Frm w (w1.setCell ⟨M, 2, none⟩ (.slice (some ⟨g, 0, none⟩) fs.length cap)) (M :: blkX X) ∧ Grows w (blkX X) (blkX { X with fv := .slice (some ⟨g, 0, none⟩) fs.length cap, fps := X.fps.dropLast }) := by
  have hfl := h.fl
  rw [hf, List.length_append, List.length_singleton] at hfl
  obtain ⟨fps, pv, hfps⟩ : ∃ fps pv, X.fps = fps ++ [pv] := by
    have hne : X.fps ≠ [] := by intro e; rw [e] at hfl; simp at hfl
    exact ⟨X.fps.dropLast, X.fps.getLast hne, (List.dropLast_concat_getLast hne).symm⟩
  have hl : fps.length = fs.length := by rw [hfps] at hfl; simpa using hfl
  have hdl : X.fps.dropLast = fps := by rw [hfps, List.dropLast_concat]
  have hkeep : ∀ k, k < w.heap.size → X.fv.ownBlock ≠ some k → w1.heap[k]? = w.heap[k]? := fun k hk _ => hb.block k hk
  have hk := h.frameKeep hkeep
  have hrow : w1.ownsRow 0 68 2 (.slice (some ⟨g, 0, none⟩) fs.length cap) fs.length (fCells fps fs) := by
    have h1 := own_later h.frames hb
    rw [hf, hfps, hv, fCells_snoc _ _ _ _ hl] at h1
    obtain ⟨q1, q2⟩ := h1
    rcases q2 with ⟨q2, _⟩ | ⟨g', cap', cur, e, q3, q4, q5, q6, q7, q8⟩
    · cases q2
    · simp only [Value.slice.injEq, Option.some.injEq, Addr.mk.injEq, and_true] at e
      obtain ⟨rfl, e2, rfl⟩ := e
      refine ⟨by rw [fCells_len _ _ hl], Or.inr ⟨g, cap, cur, rfl, q3, q4, by simp at q5; omega, q6, q7, ?_⟩⟩
      have := congrArg (List.take (fs.length * 2)) q8
      rw [List.take_take, List.take_left' (by rw [fCells_len _ _ hl])] at this
      rw [← this]
      congr 1
      simp
  have hre : rowsOf S.input X m = ([iRow X.iv S.input, frameRow X m, ⟨24, 1, X.vv, m.values.length, X.vps⟩, iRow X.ov m.output] ++ List.zipWith iRow fps (fs.map Rt.Fm.params)) ++ iRow pv f.params :: List.zipWith iRow X.vps m.values := by
    rw [rows_frame]
    have : List.zipWith iRow X.fps (m.frames.map Rt.Fm.params) = List.zipWith iRow fps (fs.map Rt.Fm.params) ++ [iRow pv f.params] := by
      rw [hf, hfps, List.map_append, List.zipWith_append (by rw [List.length_map]; exact hl)]; rfl
    rw [this]
    simp
  have ho0 := h.own.later hb
  rw [hre] at ho0
  have ho1 := ho0.drop
  have hre2 : [iRow X.iv S.input, frameRow X m, ⟨24, 1, X.vv, m.values.length, X.vps⟩, iRow X.ov m.output] ++ List.zipWith iRow fps (fs.map Rt.Fm.params) ++ List.zipWith iRow X.vps m.values = [iRow X.iv S.input] ++ frameRow X m :: ([⟨24, 1, X.vv, m.values.length, X.vps⟩, iRow X.ov m.output] ++ (List.zipWith iRow fps (fs.map Rt.Fm.params) ++ List.zipWith iRow X.vps m.values)) := by simp
  rw [hre2] at ho1
  obtain ⟨o1, o2⟩ := Own.swap (w' := w1) ho1 (r' := ⟨68, 2, .slice (some ⟨g, 0, none⟩) fs.length cap, fs.length, fCells fps fs⟩) (fun k _ _ => rfl) hrow (fun k hk => Or.inl (by show X.fv.ownBlock = some k; rw [hv]; exact hk))
  have hrows' : rowsOf S.input { X with fv := .slice (some ⟨g, 0, none⟩) fs.length cap, fps := X.fps.dropLast } { m with frames := fs } = [iRow X.iv S.input] ++ ⟨68, 2, .slice (some ⟨g, 0, none⟩) fs.length cap, fs.length, fCells fps fs⟩ :: ([⟨24, 1, X.vv, m.values.length, X.vps⟩, iRow X.ov m.output] ++ (List.zipWith iRow fps (fs.map Rt.Fm.params) ++ List.zipWith iRow X.vps m.values)) := by
    rw [hdl]; rfl
  have hmc := h.step (w1 := w1) (m' := { m with frames := fs }) (X' := { X with fv := .slice (some ⟨g, 0, none⟩) fs.length cap, fps := X.fps.dropLast }) hb.size (hb.block M (block_lt h.block)) hk 2 (.slice (some ⟨g, 0, none⟩) fs.length cap) (by simp [mcCells]) (by rw [hrows']; exact o1) rfl rfl (by rw [hdl]; exact hl) h.vl
  refine ⟨hmc, Frm.setM (Frm.of_below _ hb) _ _, ?_⟩
  rw [← h.blks, ← hmc.blks, hrows']
  intro k hk3
  rcases o2 k hk3 with hk4 | hk4
  · rw [← hre2] at hk4
    left
    rw [hre]
    exact blks_drop _ _ _ k hk4
  · exact Or.inr (Nat.le_trans hb.size hk4)
end Go.Proofs.YtbpajiljfppjcaaGreat

