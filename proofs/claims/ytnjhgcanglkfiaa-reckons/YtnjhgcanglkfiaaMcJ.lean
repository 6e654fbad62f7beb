/- The machine: a cell of its own is stored; a row of it grows. -/
import Derived.Test.YtnjhgcanglkfiaaMcH
namespace Go.Proofs.Ytnjhgcanglkfiaa
open Go.RowKit
attribute [local go_sem ↓] Go.wp_at_zero Go.wp_at_succ

set_option maxHeartbeats 2000000 in
theorem branch_any (w : World) (M B : Nat) (ty : TypeId) (tail : List Value) (S : Rt.Src) (m : Rt.Mc) (X : McX) (BB : Nat) (fm : Rt.PForm) (a1 a2 a3 : Option Addr) (c1 c2 c3 : Nat) (h : McS w M B ty tail S m X) (hm : Mok S m) (hf : FormV w BB (fmA fm a1 a2 a3 c1 c2 c3) fm) (hsm : Rt.Small fm) (hops : ∀ o ∈ fm.values, o.length ≤ 900) (hk : fm.kind = 5 ∨ fm.kind = 7) :
    Calls Try.prog 30 #[.pointer (some ⟨M, 0, none⟩), .agg (fmA fm a1 a2 a3 c1 c2 c3)] w (OutP M B ty tail S X (Rt.perform S m fm) w) := by
  have hbA := ((Below.refl w.heap.size w).alloc (Nat.le_refl _) (.cells (fmA fm a1 a2 a3 c1 c2 c3) 58)).alloc (by simp) (.cells #[.int .i64 0, .int .i64 0, .slice none 0 0] 63)
  have bF := block_alloc (heap_alloc_new w (.cells (fmA fm a1 a2 a3 c1 c2 c3) 58)) (.cells #[.int .i64 0, .int .i64 0, .slice none 0 0] 63)
  have bR := alloc2_plain w (.cells (fmA fm a1 a2 a3 c1 c2 c3) 58) (.cells #[.int .i64 0, .int .i64 0, .slice none 0 0] 63)
  have hA := h.later hbA
  have hfA := form_later hf hbA
  have HP := hide (show Rt.perform S m fm = if (Rt.valueF S m fm).2 = 0 then ⟨0, if (Rt.valueF S m fm).1 = 0 then Rt.otherwise S.lk m.line else wrap64 (m.line + 1), [Rt.stay m.line], m⟩ else Rt.ended m (Rt.valueF S m fm).2 by unfold Rt.perform; simp only; rw [if_neg (by omega), if_neg (by omega), if_neg (by omega), if_neg (by omega), if_pos hk])
  have HH := hide h
  clear h hf hk
  go_enter Try.func30, Try.ntmps30
  go_wp2_with fail
  refine (value_any _ M B ty tail S m X BB fm a1 a2 a3 c1 c2 c3 hA hm hfA hsm hops).mono ?_
  rintro e w1 ⟨rfl, hb1⟩
  have hB1 := hbA.trans (hb1.mono (B' := w.heap.size) (by simp; omega))
  have bR1 := block_later bR hb1
  have h1 := hA.later hb1
  clear hA hfA hbA bF bR hb1
  generalize Rt.valueF S m fm = v at *
  obtain ⟨v1, v2⟩ := v
  simp only at HP
  by_cases hv : v2 = 0
  · subst hv
    replace HP := hide ((unhide HP).trans (if_pos rfl))
    have c6 := h1.c6
    have HA := hide (And.intro (Aft.start (unhide HH) hB1) bR1)
    have HPr := hide h1.prog
    clear h1 hB1 bR1 hm hops hsm
    by_cases hz : v1 = 0
    · subst hz
      rw [if_pos rfl] at HP
      go_wp2_with fail
      go_region_with ((go_at_call 48; refine (otherwise_any _ _ _ _ _ _ _ m.line ((unhide HPr).later (below_to_drew _))).mono ?_; rintro e w2 ⟨rfl, hb2⟩))
      all_goals
        have hAx := (unhide HA).1.below (below_of_drew hb2)
        have bRx := block_later (unhide HA).2 (below_of_drew hb2)
        clear hb2 HA HPr c6
        generalize Rt.otherwise S.lk m.line = nx at *
        have c6x := hAx.mc.c6
        have hQ := hAx.frm.size
        have hRlt := block_lt bRx
        obtain ⟨r0, r1, r2⟩ := three_cells bRx
        have z := free_of_block bRx
        have hne1 : ¬ w.heap.size + 1 = w2.heap.size := by omega
        have hne2 : ¬ w2.heap.size = w.heap.size + 1 := by omega
        have hMlt : M < w2.heap.size := Nat.lt_of_lt_of_le hAx.lt hQ
        have hne3 : ¬ M = w2.heap.size := by omega
        have HF := hide (fun a b c => And.intro ((hAx.three bRx (by omega) (by unfold PTy; decide) a b c).below ((Below.refl _ _).alloc (Nat.le_refl _) (.cells #[.int .i64 1, .int .i64 m.line, .int .i64 0, .int .i64 0, .int .i64 0] 68))) (rec_new 1 w2 w.heap.size (w.heap.size + 1) #[.int .i64 1, .int .i64 m.line, .int .i64 0, .int .i64 0, .int .i64 0] hQ a b c rfl (by omega)))
        have HG := hide (fun a b c : Value => three_cells (block_alloc (W3_block bRx a b c) (.cells #[.int .i64 1, .int .i64 m.line, .int .i64 0, .int .i64 0, .int .i64 0] 68)))
        clear hAx bRx
        go_wp2_with fail
        refine bodyPost_ret (v := .agg #[.int .i64 0, .int .i64 (nx), .slice (some ⟨w2.heap.size, 0, none⟩) 1 1]) ?_ rfl ⟨_, _, by rw [unhide HP], by rw [unhide HP]; exact (unhide HF _ _ _).1, by rw [unhide HP]; exact (unhide HF _ _ _).2⟩
        have E := unhide HG (.int .i64 0) (.int .i64 (nx)) (.slice (some ⟨w2.heap.size, 0, none⟩) 1 1)
        revert E
        generalize (W3 w2 (w.heap.size + 1) (.int .i64 0) (.int .i64 (nx)) (.slice (some ⟨w2.heap.size, 0, none⟩) 1 1)).alloc (.cells #[.int .i64 1, .int .i64 m.line, .int .i64 0, .int .i64 0, .int .i64 0] 68) = wz
        intro E
        simp [results, Try.results30, go_sem, E.1, E.2.1, E.2.2]
    · rw [if_neg hz] at HP
      have bz : (v1 == 0) = false := by rw [beq_eq_false_iff_ne]; exact hz
      obtain ⟨hAx, bRx⟩ := unhide HA
      clear HA HPr hz
      have c6x := hAx.mc.c6
      have hQ := hAx.frm.size
      have hRlt := block_lt bRx
      obtain ⟨r0, r1, r2⟩ := three_cells bRx
      have z := free_of_block bRx
      have hne1 : ¬ w.heap.size + 1 = w1.heap.size := by omega
      have hne2 : ¬ w1.heap.size = w.heap.size + 1 := by omega
      have hMlt : M < w1.heap.size := Nat.lt_of_lt_of_le hAx.lt hQ
      have hne3 : ¬ M = w1.heap.size := by omega
      have HF := hide (fun a b c => And.intro ((hAx.three bRx (by omega) (by unfold PTy; decide) a b c).below ((Below.refl _ _).alloc (Nat.le_refl _) (.cells #[.int .i64 1, .int .i64 m.line, .int .i64 0, .int .i64 0, .int .i64 0] 68))) (rec_new 1 w1 w.heap.size (w.heap.size + 1) #[.int .i64 1, .int .i64 m.line, .int .i64 0, .int .i64 0, .int .i64 0] hQ a b c rfl (by omega)))
      have HG := hide (fun a b c : Value => three_cells (block_alloc (W3_block bRx a b c) (.cells #[.int .i64 1, .int .i64 m.line, .int .i64 0, .int .i64 0, .int .i64 0] 68)))
      clear hAx bRx
      go_wp2_with fail
      refine bodyPost_ret (v := .agg #[.int .i64 0, .int .i64 (wrap64 (m.line + 1)), .slice (some ⟨w1.heap.size, 0, none⟩) 1 1]) ?_ rfl ⟨_, _, by rw [unhide HP], by rw [unhide HP]; exact (unhide HF _ _ _).1, by rw [unhide HP]; exact (unhide HF _ _ _).2⟩
      have E := unhide HG (.int .i64 0) (.int .i64 (wrap64 (m.line + 1))) (.slice (some ⟨w1.heap.size, 0, none⟩) 1 1)
      revert E
      generalize (W3 w1 (w.heap.size + 1) (.int .i64 0) (.int .i64 (wrap64 (m.line + 1))) (.slice (some ⟨w1.heap.size, 0, none⟩) 1 1)).alloc (.cells #[.int .i64 1, .int .i64 m.line, .int .i64 0, .int .i64 0, .int .i64 0] 68) = wz
      intro E
      simp [results, Try.results30, go_sem, E.1, E.2.1, E.2.2]
  · replace HP := hide ((unhide HP).trans (if_neg hv))
    have bv : (v2 != 0) = true := by simpa using hv
    obtain ⟨r0, r1, r2⟩ := three_cells bR1
    have z := free_of_block bR1
    have HF := hide (fun a b c => (Aft.start (unhide HH) hB1).three bR1 (by omega) (by unfold PTy; decide) a b c)
    clear h1 hB1 bR1 hv hm hops hsm
    go_wp2_with fail
    refine bodyPost_ret (v := .agg #[.int .i64 v2, .int .i64 0, .slice none 0 0]) ?_ rfl ⟨_, _, by rw [unhide HP]; rfl, by rw [unhide HP]; exact unhide HF _ _ _, by rw [unhide HP]; exact World.ownsRow_nil _ _ _ _⟩
    simp [results, Try.results30, go_sem, r0, r1, r2]
end Go.Proofs.Ytnjhgcanglkfiaa

namespace Go.Proofs.Ytnjhgcanglkfiaa
open Go.RowKit
attribute [local go_sem ↓] Go.wp_at_zero Go.wp_at_succ

/-- The machine's own cells. -/
def mcCells (X : McX) (m : Rt.Mc) (tail : List Value) : Array Value := ([X.lv, X.iv, X.fv, X.vv, .int .i64 m.taken, X.ov, .int .i64 m.line, .int .i64 m.fin] ++ tail).toArray
/-- A cell of the machine's own is stored, in a world in which its rows are others. -/
theorem McS.step {w w1 : World} {M B : Nat} {ty : TypeId} {tail : List Value} {S : Rt.Src} {m m' : Rt.Mc} {X X' : McX} (h : McS w M B ty tail S m X) (hs : w.heap.size ≤ w1.heap.size) (hM : w1.heap[M]? = w.heap[M]?)
    (hk : ∀ (k : Nat) (x : Obj), w.heap[k]? = some x → (∃ c t, x = Obj.cells c t (0, 0) ∧ PTy t) → w1.heap[k]? = some x) (i : Nat) (v : Value) (hb : (mcCells X m tail).setIfInBounds i v = mcCells X' m' tail) (ho : Own w1 (rowsOf S.input X' m')) (hl : X'.lv = X.lv) (hc : X'.cs = X.cs)
    (fl : X'.fps.length = m'.frames.length) (vl : X'.vps.length = m'.values.length) : McS (w1.setCell ⟨M, i, none⟩ v) M B ty tail S m' X' := by
  have hother : ∀ k, k ≠ M → (w1.setCell ⟨M, i, none⟩ v).heap[k]? = w1.heap[k]? := fun k hk => Below.heap_setCell w1 ⟨M, i, none⟩ _ k hk
  have hM1 : w1.heap[M]? = some (.cells (mcCells X m tail) ty (0, 0)) := hM.trans h.block
  refine h.next ?_ (by simpa [World.setCell] using hs) (fun k x hx hne hp => by rw [hother k hne]; exact hk k x hx hp) ⟨fun r hr => own_same (ho.rows r hr) (fun g hg => hother g ?_), ho.apart⟩ hl hc fl vl
  · have := set_block hM1 i v
    rw [hb] at this
    exact this
  · intro e
    obtain ⟨c, hc⟩ := own_blk (ho.rows r hr) hg
    rw [e, hM1] at hc
    injection hc with hc
    injection hc with _ hc
    have h3 := rows_ty3 hr
    rw [← hc] at h3
    rcases h3 with e | e | e
    · exact h.ty.1 e
    · exact h.ty.2.1 e
    · exact h.ty.2.2.1 e
theorem Frm.setM {w w1 : World} {M : Nat} {F : List Nat} (h : Frm w w1 (M :: F)) (i : Nat) (v : Value) : Frm w (w1.setCell ⟨M, i, none⟩ v) (M :: F) :=
  ⟨h.os, h.tape, h.output, Nat.le_trans h.size (by simp [World.setCell]), fun k hk hn => by
    rw [Below.heap_setCell w1 ⟨M, i, none⟩ v k (fun e => hn (by rw [show k = M from e]; exact List.mem_cons_self ..))]
    exact h.block k hk hn⟩
/-- What is printed grows by a number. -/
theorem McS.outPush {w w1 wx : World} {M B : Nat} {ty : TypeId} {tail : List Value} {S : Rt.Src} {m : Rt.Mc} {X : McX} (h : McS w M B ty tail S m X) (hb : Below w.heap.size w wx) (hg : wx.grownBy w1 X.ov.ownBlock) (v : Int) (ov' : Value)
    (hown : w1.ownsRow 0 3 1 ov' (m.output.length + 1) (intsV (m.output ++ [v]))) (hat : ∀ g, ov'.ownBlock = some g → X.ov.ownBlock = some g ∨ w.heap.size ≤ g) :
    McS (w1.setCell ⟨M, 5, none⟩ ov') M B ty tail S { m with output := m.output ++ [v] } { X with ov := ov' } ∧ Frm w (w1.setCell ⟨M, 5, none⟩ ov') (M :: blkX X) ∧ Grows w (blkX X) (blkX { X with ov := ov' }) := by
  have hrow := h.out
  have hkeep : ∀ k, k < w.heap.size → X.ov.ownBlock ≠ some k → w1.heap[k]? = w.heap[k]? := fun k hk hv => (hg.block k (Nat.lt_of_lt_of_le hk hb.size) (Ne.symm hv)).trans (hb.block k hk)
  have hint : ∀ g, X.ov.ownBlock = some g → ∃ c, w.heap[g]? = some (.cells c 3 (0, 0)) := fun g hg => own_blk hrow hg
  have hMne : X.ov.ownBlock ≠ some M := by
    intro e
    obtain ⟨c, hc⟩ := hint M e
    rw [h.block] at hc
    injection hc with hc
    injection hc with _ hc
    exact h.ty.1 hc
  have hk : ∀ (k : Nat) (x : Obj), w.heap[k]? = some x → (∃ c t, x = Obj.cells c t (0, 0) ∧ PTy t) → w1.heap[k]? = some x := by
    intro k x hx hp
    rw [hkeep k (block_lt hx) (fun e => by
      obtain ⟨c, hc⟩ := hint k e
      rw [hx] at hc
      injection hc with hc
      obtain ⟨c', t', e2, hp⟩ := hp
      rw [hc] at e2
      injection e2 with _ e2
      rw [← e2] at hp
      exact absurd hp (by unfold PTy; decide))]
    exact hx
  have hrows : rowsOf S.input X m = [iRow X.iv S.input, ⟨49, 2, X.fv, m.frames.length, fCells X.fps m.frames⟩, ⟨22, 1, X.vv, m.values.length, X.vps⟩] ++ iRow X.ov m.output :: (List.zipWith iRow X.fps (m.frames.map Rt.Fm.params) ++ List.zipWith iRow X.vps m.values) := rfl
  have ho := h.own
  rw [hrows] at ho
  obtain ⟨o1, o2⟩ := ho.swap (w' := w1) (r' := iRow ov' (m.output ++ [v])) hkeep (by show World.ownsRow _ 0 3 1 _ (m.output ++ [v]).length _; rw [List.length_append]; exact hown) hat
  have hmc := h.step (w1 := w1) (m' := { m with output := m.output ++ [v] }) (X' := { X with ov := ov' }) (Nat.le_trans hb.size hg.size) (hkeep M (block_lt h.block) hMne) hk 5 ov' (by simp [mcCells]) o1 rfl rfl h.fl h.vl
  refine ⟨hmc, ?_, ?_⟩
  · refine Frm.setM ⟨hg.os.trans hb.os, hg.tape.trans hb.tape, hg.output.trans hb.output, Nat.le_trans hb.size hg.size, fun k hk2 hn => hkeep k hk2 (fun e => hn (List.mem_cons_of_mem _ ?_))⟩ _ _
    rw [← h.blks]
    exact mem_blks (r := iRow X.ov m.output) (by rw [hrows]; simp) e
  · rw [← h.blks, ← hmc.blks]
    exact o2
end Go.Proofs.Ytnjhgcanglkfiaa

