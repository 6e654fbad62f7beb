/- The machine: a number printed. -/
import Derived.Test.YtbpajiljfppjcaaGreatMcJ
namespace Go.Proofs.YtbpajiljfppjcaaGreat
open Go.RowKit
attribute [local go_sem ↓] Go.wp_at_zero Go.wp_at_succ

theorem Aft.more {M B : Nat} {ty : TypeId} {tail : List Value} {S : Rt.Src} {m m2 : Rt.Mc} {X X1 X2 : McX} {w w1 w2 : World} (h : Aft M B ty tail S X X1 m w w1) (hmc : McS w2 M B ty tail S m2 X2) (hf : Frm w1 w2 (M :: blkX X1)) (hg : Grows w1 (blkX X1) (blkX X2)) : Aft M B ty tail S X X2 m2 w w2 := by
  refine ⟨hmc, h.frm.trans hf ?_, h.grow.trans hg h.frm.size, h.lt⟩
  intro k hk
  rcases List.mem_cons.mp hk with rfl | hk
  · exact Or.inl (List.mem_cons_self ..)
  · rcases h.grow k hk with h' | h'
    · exact Or.inl (List.mem_cons_of_mem _ h')
    · exact Or.inr h'
set_option maxHeartbeats 2000000 in
set_option maxRecDepth 100000 in
theorem print_any (w : World) (M B : Nat) (ty : TypeId) (tail : List Value) (S : Rt.Src) (m : Rt.Mc) (X : McX) (BB : Nat) (fm : Rt.PForm) (a1 a2 a3 : Option Addr) (c1 c2 c3 : Nat) (h : McS w M B ty tail S m X) (hm : Mok S m) (hf : FormV w BB (fmA fm a1 a2 a3 c1 c2 c3) fm) (hsm : Rt.Small fm) (hops : ∀ o ∈ fm.values, o.length ≤ 900) (hk : fm.kind = 10) :
    Calls Tryz.prog 56 #[.pointer (some ⟨M, 0, none⟩), .agg (fmA fm a1 a2 a3 c1 c2 c3)] w (OutP M B ty tail S X (Rt.perform S m fm) w) := by
  obtain ⟨i0, hi0, hz0, hz1, hz2⟩ := info_parts Tryz.infoIntK
  have hbA := ((Below.refl w.heap.size w).alloc (Nat.le_refl _) (.cells (fmA fm a1 a2 a3 c1 c2 c3) 77)).alloc (by simp) (.cells #[.int .i64 0, .int .i64 0, .slice none 0 0] 82)
  have bR := alloc2_plain w (.cells (fmA fm a1 a2 a3 c1 c2 c3) 77) (.cells #[.int .i64 0, .int .i64 0, .slice none 0 0] 82)
  have hA := h.later hbA
  have hfA := form_later hf hbA
  have HP := hide (show Rt.perform S m fm = if (Rt.valueF S m fm).2 = 0 then (if 50 ≤ m.output.length then Rt.ended m 6 else ⟨0, wrap64 (m.line + 1), [Rt.stay m.line, ⟨5, 0, ⟨0, 0⟩, 0⟩], { m with output := m.output ++ [(Rt.valueF S m fm).1] }⟩) else Rt.ended m (Rt.valueF S m fm).2 by unfold Rt.perform; simp only; rw [if_neg (by omega), if_neg (by omega), if_pos hk])
  have HH := hide h
  have hol := hm.output
  clear h hf hk
  go_enter Tryz.func56, Tryz.ntmps56
  go_wp2_with fail
  refine (value_any _ M B ty tail S m X BB fm a1 a2 a3 c1 c2 c3 hA hm hfA hsm hops).mono ?_
  rintro e w1 ⟨rfl, hb1⟩
  have hB1 := hbA.trans (hb1.mono (B' := w.heap.size) (by simp; omega))
  have bR1 := block_later bR hb1
  have h1 := hA.later hb1
  clear hA hfA hbA bR hb1
  generalize Rt.valueF S m fm = v at *
  obtain ⟨v1, v2⟩ := v
  simp only at HP
  have c5 := h1.c5
  by_cases hv : v2 = 0
  · subst hv
    replace HP := hide ((unhide HP).trans (if_pos rfl))
    obtain ⟨oad, ocap, hov⟩ := ownsRow_form h1.out
    by_cases h50 : 50 ≤ m.output.length
    · replace HP := hide ((unhide HP).trans (if_pos h50))
      have h50' : (50 : Int) ≤ (m.output.length : Int) := by omega
      obtain ⟨r0, r1, r2⟩ := three_cells bR1
      have z := free_of_block bR1
      have HF := hide (fun a b c => (Aft.start (unhide HH) hB1).three bR1 (by omega) (by unfold PTy; decide) a b c)
      rw [hov] at c5
      clear h1 hB1 bR1 hm hops hsm hov h50
      go_wp2_with fail
      refine bodyPost_ret (v := .agg #[.int .i64 6, .int .i64 0, .slice none 0 0]) ?_ rfl ⟨_, _, by rw [unhide HP]; rfl, by rw [unhide HP]; exact unhide HF _ _ _, by rw [unhide HP]; exact World.ownsRow_nil _ _ _ _⟩
      simp [results, Tryz.results56, go_sem, r0, r1, r2]
    · replace HP := hide ((unhide HP).trans (if_neg h50))
      have h50' : ¬ (50 : Int) ≤ (m.output.length : Int) := by omega
      have hown := h1.out
      have hMlt := block_lt h1.block
      have H1 := hide h1
      have HA1 := hide (And.intro (Aft.start (unhide HH) hB1) bR1)
      have H5 := hide hov
      rw [hov] at c5 hown
      clear h1 hB1 bR1 hm hops hsm hov h50
      go_wp2_with (at_builtin; refine wpList_append_lies _ rfl _ _ 24 rfl 0 3 i0 _ 1 8 Tryz.underlying24 hi0 hz0 hz1 hz2 rfl (by decide) _ _ _ rfl (hown.alloc _) ⟨w1.heap.size, 0, none⟩ 1 1 [.int .i64 v1] rfl rfl (cell_one_new _ _ _) (by simp [Value.oneCell']) (by omega) (by unfold maxLen; omega) (by omega) (Nat.zero_le _) (w1.heap.size + 1) (by simp) ?_)
      intro g cap' w4 hown4 hgrow hat hlt4
      rw [← unhide H5] at hgrow hat
      have hbN := (Below.refl w1.heap.size w1).alloc (Nat.le_refl _) (.cells #[.int .i64 v1] 3)
      obtain ⟨q1, q2, q3⟩ := (unhide H1).outPush hbN hgrow v1 (.slice (some ⟨g, 0, none⟩) (m.output.length + 1) cap') (by rw [intsV, List.map_append]; exact hown4) (fun g' hg' => by simp [Value.ownBlock] at hg'; subst hg'; rcases hat with h | h; exact Or.inl h; exact Or.inr (by omega))
      obtain ⟨hA1, bR1⟩ := unhide HA1
      have hne : ∀ (N : Nat) (c : Array Value) (t : TypeId), w1.heap[N]? = some (.cells c t (0, 0)) → t ≠ 3 → w4.heap[N]? = some (.cells c t (0, 0)) := by
        intro N c t hN ht
        rw [hgrow.block N (Nat.lt_of_lt_of_le (block_lt hN) hbN.size) (fun e => by
          obtain ⟨c', hc⟩ := own_blk (unhide H1).out e.symm
          rw [hN] at hc
          injection hc with hc
          injection hc with _ hc
          exact ht hc), hbN.block N (block_lt hN)]
        exact hN
      have bM4 := hne M _ _ (unhide H1).block (unhide H1).ty.1
      have bR4 := hne _ _ _ bR1 (by decide)
      have c5' : w4.cell? ⟨M, 5, none⟩ = some X.ov := by have := cell_of_block bM4 5 (by simp); simpa using this
      have f5' := free_of_block bM4 5
      have hMR : M ≠ w.heap.size + 1 := by have := hA1.lt; omega
      have bR5 : (w4.setCell ⟨M, 5, none⟩ (.slice (some ⟨g, 0, none⟩) (m.output.length + 1) cap')).heap[w.heap.size + 1]? = some (.cells #[.int .i64 0, .int .i64 0, .slice none 0 0] 82 (0, 0)) := by
        rw [Below.heap_setCell w4 ⟨M, 5, none⟩ _ _ (by show w.heap.size + 1 ≠ M; omega)]; exact bR4
      have hAx := hA1.more q1 q2 q3
      have c6' : w4.cell? ⟨M, 6, none⟩ = some (.int .i64 m.line) := by have := cell_of_block bM4 6 (by simp); simpa using this
      obtain ⟨r0, r1, r2⟩ := three_cells bR4
      have z := free_of_block bR4
      have hRlt := block_lt bR4
      have hM4 := block_lt bM4
      have hQ := hAx.frm.size
      have hsz : (w4.setCell ⟨M, 5, none⟩ (.slice (some ⟨g, 0, none⟩) (m.output.length + 1) cap')).heap.size = w4.heap.size := by simp [World.setCell]
      have hne1 : ¬ w.heap.size + 1 = w4.heap.size := by omega
      have hne2 : ¬ w4.heap.size = w.heap.size + 1 := by omega
      have hne3 : ¬ M = w4.heap.size := by omega
      have hne4 : ¬ M = w.heap.size + 1 := hMR
      have hne5 : ¬ w.heap.size + 1 = M := fun e => hMR e.symm
      have HF := hide (fun a b c => And.intro ((hAx.three bR5 (by omega) (by unfold PTy; decide) a b c).below ((Below.refl _ _).alloc (Nat.le_refl _) (.cells #[.int .i64 1, .int .i64 m.line, .int .i64 0, .int .i64 0, .int .i64 0, .int .i64 5, .int .i64 0, .int .i64 0, .int .i64 0, .int .i64 0] 87))) (rec_new 2 _ w.heap.size (w.heap.size + 1) #[.int .i64 1, .int .i64 m.line, .int .i64 0, .int .i64 0, .int .i64 0, .int .i64 5, .int .i64 0, .int .i64 0, .int .i64 0, .int .i64 0] hQ a b c rfl (by omega)))
      have HG := hide (fun a b c : Value => three_cells (block_alloc (W3_block bR5 a b c) (.cells #[.int .i64 1, .int .i64 m.line, .int .i64 0, .int .i64 0, .int .i64 0, .int .i64 5, .int .i64 0, .int .i64 0, .int .i64 0, .int .i64 0] 87)))
      rw [hsz] at HF
      clear hown4 hgrow hat hown hlt4 q1 q2 q3 hA1 bR1 HA1 H1 bM4 bR4 bR5 hAx hne hbN hsz
      go_wp2_with fail
      refine bodyPost_ret (v := .agg #[.int .i64 0, .int .i64 (wrap64 (m.line + 1)), .slice (some ⟨w4.heap.size, 0, none⟩) 2 2]) ?_ rfl ⟨_, _, by rw [unhide HP], by rw [unhide HP]; exact (unhide HF _ _ _).1, by rw [unhide HP]; exact (unhide HF _ _ _).2⟩
      have E := unhide HG (.int .i64 0) (.int .i64 (wrap64 (m.line + 1))) (.slice (some ⟨w4.heap.size, 0, none⟩) 2 2)
      revert E
      generalize (W3 (w4.setCell ⟨M, 5, none⟩ (.slice (some ⟨g, 0, none⟩) (m.output.length + 1) cap')) (w.heap.size + 1) (.int .i64 0) (.int .i64 (wrap64 (m.line + 1))) (.slice (some ⟨w4.heap.size, 0, none⟩) 2 2)).alloc (.cells #[.int .i64 1, .int .i64 m.line, .int .i64 0, .int .i64 0, .int .i64 0, .int .i64 5, .int .i64 0, .int .i64 0, .int .i64 0, .int .i64 0] 87) = wz
      intro E
      simp [results, Tryz.results56, go_sem, E.1, E.2.1, E.2.2]
  · replace HP := hide ((unhide HP).trans (if_neg hv))
    have bv : (v2 != 0) = true := by simpa using hv
    obtain ⟨r0, r1, r2⟩ := three_cells bR1
    have z := free_of_block bR1
    have HF := hide (fun a b c => (Aft.start (unhide HH) hB1).three bR1 (by omega) (by unfold PTy; decide) a b c)
    clear h1 hB1 bR1 hv hm hops hsm c5
    go_wp2_with fail
    refine bodyPost_ret (v := .agg #[.int .i64 v2, .int .i64 0, .slice none 0 0]) ?_ rfl ⟨_, _, by rw [unhide HP]; rfl, by rw [unhide HP]; exact unhide HF _ _ _, by rw [unhide HP]; exact World.ownsRow_nil _ _ _ _⟩
    simp [results, Tryz.results56, go_sem, r0, r1, r2]
end Go.Proofs.YtbpajiljfppjcaaGreat

