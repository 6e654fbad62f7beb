/- The machine: a number read. -/
import Derived.Test.YtbpajiljfppjcaaGreatDoorMcJ
namespace Go.Proofs.YtbpajiljfppjcaaGreatDoor
open Go.RowKit
attribute [local go_sem ↓] Go.wp_at_zero Go.wp_at_succ

theorem Aft.more {M B : Nat} {ty : TypeId} {tail : List Value} {S : Rt.Src} {m m2 : Rt.Mc} {X X1 X2 : McX} {w w1 w2 : World} (h : Aft M B ty tail S X X1 m w w1) (hmc : McS w2 M B ty tail S m2 X2) (hf : Frm w1 w2 (M :: blkX X1)) (hg : Grows w1 (blkX X1) (blkX X2)) : Aft M B ty tail S X X2 m2 w w2 := by
  refine ⟨hmc, h.frm.trans hf ?_, h.grow.trans hg h.frm.size, h.lt⟩
  intro k hk
  rcases List.mem_cons.mp hk with rfl | hk
  · exact Or.inl (List.mem_cons_self ..)
  · rcases h.grow k hk with h' | h'
    · exact Or.inl (List.mem_cons_of_mem _ h')
    · exact Or.inr h'
set_option maxHeartbeats 2000000 in
set_option maxRecDepth 100000 in
theorem print_any (w : World) (M B : Nat) (ty : TypeId) (tail : List Value) (S : Rt.Src) (m : Rt.Mc) (X : McX) (BB : Nat) (fm : Rt.PForm) (a1 a2 a3 : Option Addr) (c1 c2 c3 : Nat) (h : McS w M B ty tail S m X) (hm : Mok S m) (hf : FormV w BB (fmA fm a1 a2 a3 c1 c2 c3) fm) (hsm : Rt.Small fm) (hops : ∀ o ∈ fm.values, o.length ≤ 900) (hk : fm.kind = 10) :
    Calls Tryz.prog 97 #[.pointer (some ⟨M, 0, none⟩), .agg (fmA fm a1 a2 a3 c1 c2 c3)] w (OutP M B ty tail S X (Rt.perform S m fm) w) := by
  obtain ⟨i0, hi0, hz0, hz1, hz2⟩ := info_parts Tryz.infoIntK
  have hbA := ((Below.refl w.heap.size w).alloc (Nat.le_refl _) (.cells (fmA fm a1 a2 a3 c1 c2 c3) 120)).alloc (by simp) (.cells #[.int .i64 0, .int .i64 0, .slice none 0 0] 128)
  have bR := alloc2_plain w (.cells (fmA fm a1 a2 a3 c1 c2 c3) 120) (.cells #[.int .i64 0, .int .i64 0, .slice none 0 0] 128)
  have hA := h.later hbA
  have hfA := form_later hf hbA
  have HP := hide (show Rt.perform S m fm = if (Rt.valueF S m fm).2 = 0 then (if 50 ≤ m.output.length then Rt.ended m 6 else ⟨0, wrap64 (m.line + 1), [Rt.stay m.line, ⟨5, 0, ⟨0, 0⟩, 0⟩], { m with output := m.output ++ [(Rt.valueF S m fm).1] }⟩) else Rt.ended m (Rt.valueF S m fm).2 by unfold Rt.perform; simp only; rw [if_neg (by omega), if_neg (by omega), if_pos hk])
  have HH := hide h
  have hol := hm.output
  clear h hf hk
  go_enter Tryz.func97, Tryz.ntmps97
  go_wp2_with fail
  refine (value_any _ M B ty tail S m X BB fm a1 a2 a3 c1 c2 c3 hA hm hfA hsm hops).mono ?_
  rintro e w1 ⟨rfl, hb1⟩
  have hB1 := hbA.trans (hb1.mono (B' := w.heap.size) (by simp; omega))
  have bR1 := block_later bR hb1
  have h1 := hA.later hb1
  clear hA hfA hbA bR hb1
  generalize Rt.valueF S m fm = v at *
  obtain ⟨v1, v2⟩ := v
  simp only at HP
  have c5 := h1.c5
  by_cases hv : v2 = 0
  · subst hv
    replace HP := hide ((unhide HP).trans (if_pos rfl))
    obtain ⟨oad, ocap, hov⟩ := ownsRow_form h1.out
    by_cases h50 : 50 ≤ m.output.length
    · replace HP := hide ((unhide HP).trans (if_pos h50))
      have h50' : (50 : Int) ≤ (m.output.length : Int) := by omega
      obtain ⟨r0, r1, r2⟩ := three_cells bR1
      have z := free_of_block bR1
      have HF := hide (fun a b c => (Aft.start (unhide HH) hB1).three bR1 (by omega) (by unfold PTy; decide) a b c)
      rw [hov] at c5
      clear h1 hB1 bR1 hm hops hsm hov h50
      go_wp2_with fail
      refine bodyPost_ret (v := .agg #[.int .i64 6, .int .i64 0, .slice none 0 0]) ?_ rfl ⟨_, _, by rw [unhide HP]; rfl, by rw [unhide HP]; exact unhide HF _ _ _, by rw [unhide HP]; exact World.ownsRow_nil _ _ _ _⟩
      simp [results, Tryz.results97, go_sem, r0, r1, r2]
    · replace HP := hide ((unhide HP).trans (if_neg h50))
      have h50' : ¬ (50 : Int) ≤ (m.output.length : Int) := by omega
      have hown := h1.out
      have hMlt := block_lt h1.block
      have H1 := hide h1
      have HA1 := hide (And.intro (Aft.start (unhide HH) hB1) bR1)
      have H5 := hide hov
      rw [hov] at c5 hown
      clear h1 hB1 bR1 hm hops hsm hov h50
      go_wp2_with (at_builtin; refine wpList_append_lies _ rfl _ _ 22 rfl 0 3 i0 _ 1 8 Tryz.underlying22 hi0 hz0 hz1 hz2 rfl (by decide) _ _ _ rfl (hown.alloc _) ⟨w1.heap.size, 0, none⟩ 1 1 [.int .i64 v1] rfl rfl (cell_one_new _ _ _) (by simp [Value.oneCell']) (by omega) (by unfold maxLen; omega) (by omega) (Nat.zero_le _) (w1.heap.size + 1) (by simp) ?_)
      intro g cap' w4 hown4 hgrow hat hlt4
      rw [← unhide H5] at hgrow hat
      have hbN := (Below.refl w1.heap.size w1).alloc (Nat.le_refl _) (.cells #[.int .i64 v1] 3)
      obtain ⟨q1, q2, q3⟩ := (unhide H1).outPush hbN hgrow v1 (.slice (some ⟨g, 0, none⟩) (m.output.length + 1) cap') (by rw [intsV, List.map_append]; exact hown4) (fun g' hg' => by simp [Value.ownBlock] at hg'; subst hg'; rcases hat with h | h; exact Or.inl h; exact Or.inr (by omega))
      obtain ⟨hA1, bR1⟩ := unhide HA1
      have hne : ∀ (N : Nat) (c : Array Value) (t : TypeId), w1.heap[N]? = some (.cells c t (0, 0)) → t ≠ 3 → w4.heap[N]? = some (.cells c t (0, 0)) := by
        intro N c t hN ht
        rw [hgrow.block N (Nat.lt_of_lt_of_le (block_lt hN) hbN.size) (fun e => by
          obtain ⟨c', hc⟩ := own_blk (unhide H1).out e.symm
          rw [hN] at hc
          injection hc with hc
          injection hc with _ hc
          exact ht hc), hbN.block N (block_lt hN)]
        exact hN
      have bM4 := hne M _ _ (unhide H1).block (unhide H1).ty.1
      have bR4 := hne _ _ _ bR1 (by decide)
      have c5' : w4.cell? ⟨M, 5, none⟩ = some X.ov := by have := cell_of_block bM4 5 (by simp); simpa using this
      have f5' := free_of_block bM4 5
      have hMR : M ≠ w.heap.size + 1 := by have := hA1.lt; omega
      have bR5 : (w4.setCell ⟨M, 5, none⟩ (.slice (some ⟨g, 0, none⟩) (m.output.length + 1) cap')).heap[w.heap.size + 1]? = some (.cells #[.int .i64 0, .int .i64 0, .slice none 0 0] 128 (0, 0)) := by
        rw [Below.heap_setCell w4 ⟨M, 5, none⟩ _ _ (by show w.heap.size + 1 ≠ M; omega)]; exact bR4
      have hAx := hA1.more q1 q2 q3
      have c6' : w4.cell? ⟨M, 6, none⟩ = some (.int .i64 m.line) := by have := cell_of_block bM4 6 (by simp); simpa using this
      obtain ⟨r0, r1, r2⟩ := three_cells bR4
      have z := free_of_block bR4
      have hRlt := block_lt bR4
      have hM4 := block_lt bM4
      have hQ := hAx.frm.size
      have hsz : (w4.setCell ⟨M, 5, none⟩ (.slice (some ⟨g, 0, none⟩) (m.output.length + 1) cap')).heap.size = w4.heap.size := by simp [World.setCell]
      have hne1 : ¬ w.heap.size + 1 = w4.heap.size := by omega
      have hne2 : ¬ w4.heap.size = w.heap.size + 1 := by omega
      have hne3 : ¬ M = w4.heap.size := by omega
      have hne4 : ¬ M = w.heap.size + 1 := hMR
      have hne5 : ¬ w.heap.size + 1 = M := fun e => hMR e.symm
      have HF := hide (fun a b c => And.intro ((hAx.three bR5 (by omega) (by unfold PTy; decide) a b c).below ((Below.refl _ _).alloc (Nat.le_refl _) (.cells #[.int .i64 1, .int .i64 m.line, .int .i64 0, .int .i64 0, .int .i64 0, .int .i64 5, .int .i64 0, .int .i64 0, .int .i64 0, .int .i64 0] 133))) (rec_new 2 _ w.heap.size (w.heap.size + 1) #[.int .i64 1, .int .i64 m.line, .int .i64 0, .int .i64 0, .int .i64 0, .int .i64 5, .int .i64 0, .int .i64 0, .int .i64 0, .int .i64 0] hQ a b c rfl (by omega)))
      have HG := hide (fun a b c : Value => three_cells (block_alloc (W3_block bR5 a b c) (.cells #[.int .i64 1, .int .i64 m.line, .int .i64 0, .int .i64 0, .int .i64 0, .int .i64 5, .int .i64 0, .int .i64 0, .int .i64 0, .int .i64 0] 133)))
      rw [hsz] at HF
      clear hown4 hgrow hat hown hlt4 q1 q2 q3 hA1 bR1 HA1 H1 bM4 bR4 bR5 hAx hne hbN hsz
      go_wp2_with fail
      refine bodyPost_ret (v := .agg #[.int .i64 0, .int .i64 (wrap64 (m.line + 1)), .slice (some ⟨w4.heap.size, 0, none⟩) 2 2]) ?_ rfl ⟨_, _, by rw [unhide HP], by rw [unhide HP]; exact (unhide HF _ _ _).1, by rw [unhide HP]; exact (unhide HF _ _ _).2⟩
      have E := unhide HG (.int .i64 0) (.int .i64 (wrap64 (m.line + 1))) (.slice (some ⟨w4.heap.size, 0, none⟩) 2 2)
      revert E
      generalize (W3 (w4.setCell ⟨M, 5, none⟩ (.slice (some ⟨g, 0, none⟩) (m.output.length + 1) cap')) (w.heap.size + 1) (.int .i64 0) (.int .i64 (wrap64 (m.line + 1))) (.slice (some ⟨w4.heap.size, 0, none⟩) 2 2)).alloc (.cells #[.int .i64 1, .int .i64 m.line, .int .i64 0, .int .i64 0, .int .i64 0, .int .i64 5, .int .i64 0, .int .i64 0, .int .i64 0, .int .i64 0] 133) = wz
      intro E
      simp [results, Tryz.results97, go_sem, E.1, E.2.1, E.2.2]
  · replace HP := hide ((unhide HP).trans (if_neg hv))
    have bv : (v2 != 0) = true := by simpa using hv
    obtain ⟨r0, r1, r2⟩ := three_cells bR1
    have z := free_of_block bR1
    have HF := hide (fun a b c => (Aft.start (unhide HH) hB1).three bR1 (by omega) (by unfold PTy; decide) a b c)
    clear h1 hB1 bR1 hv hm hops hsm c5
    go_wp2_with fail
    refine bodyPost_ret (v := .agg #[.int .i64 v2, .int .i64 0, .slice none 0 0]) ?_ rfl ⟨_, _, by rw [unhide HP]; rfl, by rw [unhide HP]; exact unhide HF _ _ _, by rw [unhide HP]; exact World.ownsRow_nil _ _ _ _⟩
    simp [results, Tryz.results97, go_sem, r0, r1, r2]
end Go.Proofs.YtbpajiljfppjcaaGreatDoor

namespace Go.Proofs.YtbpajiljfppjcaaGreatDoor
open Go.RowKit
attribute [local go_sem ↓] Go.wp_at_zero Go.wp_at_succ

theorem rows_plain (inp : List Int) (X : McX) (m m' : Rt.Mc) (h1 : m'.frames = m.frames) (h2 : m'.values = m.values) (h3 : m'.output = m.output) : rowsOf inp X m' = rowsOf inp X m := by unfold rowsOf; rw [h1, h2, h3]
/-- A number of the machine's own is stored. -/
theorem Aft.own {M B : Nat} {ty : TypeId} {tail : List Value} {S : Rt.Src} {m m' : Rt.Mc} {X X' : McX} {w w' : World} (h : Aft M B ty tail S X X' m w w') (i : Nat) (v : Value) (hb : (mcCells X' m tail).setIfInBounds i v = mcCells X' m' tail) (h1 : m'.frames = m.frames) (h2 : m'.values = m.values) (h3 : m'.output = m.output) : Aft M B ty tail S X X' m' w (w'.setCell ⟨M, i, none⟩ v) := by
  have hr := rows_plain S.input X' m m' h1 h2 h3
  have hmc := h.mc.step (m' := m') (X' := X') (Nat.le_refl _) rfl (fun _ _ hx _ => hx) i v hb (by rw [hr]; exact h.mc.own) rfl rfl (by rw [h1]; exact h.mc.fl) (by rw [h2]; exact h.mc.vl)
  exact ⟨hmc, h.frm.setM i v, h.grow, h.lt⟩

/-- A block of another type stays behind a store. -/
theorem read_keeps {M B : Nat} {ty : TypeId} {tail : List Value} {S : Rt.Src} {m m' : Rt.Mc} {X : McX} {w w' : World} (h : McS w M B ty tail S m X) {N : Nat} {c : Array Value} {t : TypeId} (hN : w.heap[N]? = some (.cells c t (0, 0))) (hp : PutP M B ty tail S m m' X w.drew w') (ht : t ≠ 3 ∧ t ≠ 124 ∧ t ≠ 22) : w'.heap[N]? = some (.cells c t (0, 0)) := by
  have h1 : w.drew.heap[N]? = some (.cells c t (0, 0)) := hN
  exact (hp.2.block N (block_lt h1) (rows_not (w := w.drew) (h.later (below_to_drew w)).own h1 ht)).trans h1
theorem put_taken (m : Rt.Mc) (s : Rt.Spot) (v : Int) : (Rt.putS m s v).taken = m.taken := by
  unfold Rt.putS
  split
  · split <;> rfl
  · rfl
theorem read_S {M B : Nat} {ty : TypeId} {tail : List Value} {S : Rt.Src} {m : Rt.Mc} {X : McX} {w w4 : World} {g cap k T : Nat} {sp : Rt.Spot} {v iv : Int} (h : McS w M B ty tail S m X) (hgv : X.iv = .slice (some ⟨g, 0, none⟩) S.input.length cap) (hk : m.taken = (k : Int)) (hin : S.input[k]? = some iv) (bT : w.heap[T]? = some (.cells #[.int .i64 sp.line, .int .i64 sp.cell] 131 (0, 0))) (hp : PutP M B ty tail S m (Rt.putS m sp v) X w.drew w4) :
    w4.cell? ⟨T, 0, none⟩ = some (.int .i64 sp.line) ∧ w4.cell? ⟨T, 1, none⟩ = some (.int .i64 sp.cell) ∧ w4.cell? ⟨M, 1, none⟩ = some (.slice (some ⟨g, 0, none⟩) S.input.length cap) ∧ w4.cell? ⟨M, 4, none⟩ = some (.int .i64 k) ∧ w4.cell? ⟨g, k, none⟩ = some (.int .i64 iv) := by
  have bT4 := read_keeps h bT hp (by decide)
  have q1 := hp.1.c1
  have q4 := hp.1.c4
  rw [hgv] at q1
  rw [put_taken, hk] at q4
  have hin4 := hp.1.input
  obtain ⟨g', cap', hv, _, _, ca⟩ := own_cell hin4 (j := k) (u := .int .i64 iv) (by simp [intsV, hin])
  rw [hgv] at hv
  injection hv with e1 _ _
  injection e1 with e1
  injection e1 with e1
  subst e1
  exact ⟨cell_of_block bT4 0 (by simp), cell_of_block bT4 1 (by simp), q1, q4, ca⟩
/-- What stands behind the store. -/
structure ReadF (M B : Nat) (ty : TypeId) (tail : List Value) (S : Rt.Src) (X : McX) (m : Rt.Mc) (sp : Rt.Spot) (iv : Int) (w : World) (O : Nat) (wy : World) : Prop where
  aft : Aft M B ty tail S X X (Rt.putS m sp iv) w wy
  old : wy.heap[O]? = some (.cells #[.int .i64 4, .int .i64 0, .int .i64 sp.line, .int .i64 sp.cell, .int .i64 (Rt.getS m sp)] 133 (0, 0))
  res : wy.heap[w.heap.size + 1]? = some (.cells #[.int .i64 0, .int .i64 0, .slice none 0 0] 128 (0, 0))
  ne : w.heap.size + 1 < O
theorem cutK {Goal : Prop} {F : Nat → World → Prop} {R : Code} {post : Exit → Act → World → Prop} {fr : Nat → Act} (main : (∀ (O : Nat) (wy : World), F O wy → Code.wp Tryz.prog R post (fr O) wy) → Goal) (pf : ∀ (O : Nat) (wy : World), F O wy → Code.wp Tryz.prog R post (fr O) wy) : Goal := main pf
/-- The record's block is new behind the store. -/
theorem ReadF.one {M B : Nat} {ty : TypeId} {tail : List Value} {S : Rt.Src} {X : McX} {m : Rt.Mc} {sp : Rt.Spot} {iv : Int} {w w3 w4 : World} (hh : McS w M B ty tail S m X) (h3 : McS w3 M B ty tail S m X ∧ Below w.heap.size w w3 ∧ w3.heap[w.heap.size + 1]? = some (.cells #[.int .i64 0, .int .i64 0, .slice none 0 0] 128 (0, 0))) (hp : PutP M B ty tail S m (Rt.putS m sp iv) X w3.drew w4) : ReadF M B ty tail S X m sp iv w w4.heap.size (w4.alloc (.cells #[.int .i64 4, .int .i64 0, .int .i64 sp.line, .int .i64 sp.cell, .int .i64 (Rt.getS m sp)] 133)) := by
  obtain ⟨h3, hB, bR⟩ := h3
  have bR4 := read_keeps h3 bR hp (by decide)
  have hbx := (Below.refl w4.heap.size w4).alloc (Nat.le_refl _) (.cells #[.int .i64 4, .int .i64 0, .int .i64 sp.line, .int .i64 sp.cell, .int .i64 (Rt.getS m sp)] 133)
  exact ⟨((Aft.start hh hB.drew).put hp).below hbx, heap_alloc_new _ _, block_later bR4 hbx, block_lt bR4⟩
/-- The record's block was laid ahead of the store. -/
theorem ReadF.two {M B : Nat} {ty : TypeId} {tail : List Value} {S : Rt.Src} {X : McX} {m : Rt.Mc} {sp : Rt.Spot} {iv : Int} {w w3 w4 : World} {O T : Nat} {bt : Array Value} (hh : McS w M B ty tail S m X) (h3 : McS w3 M B ty tail S m X ∧ Below w.heap.size w w3 ∧ w3.heap[w.heap.size + 1]? = some (.cells #[.int .i64 0, .int .i64 0, .slice none 0 0] 128 (0, 0)) ∧ w3.heap[O]? = some (.cells #[.int .i64 0, .int .i64 0, .int .i64 0, .int .i64 0, .int .i64 0] 133 (0, 0)) ∧ w3.heap[T]? = some (.cells bt 131 (0, 0))) (hO : w.heap.size + 1 < O) (hp : PutP M B ty tail S m (Rt.putS m sp iv) X w3.drew w4) : ReadF M B ty tail S X m sp iv w O (((((w4.setCell ⟨O, 0, none⟩ (.int .i64 4)).setCell ⟨O, 1, none⟩ (.int .i64 0)).setCell ⟨O, 2, none⟩ (.int .i64 sp.line)).setCell ⟨O, 3, none⟩ (.int .i64 sp.cell)).setCell ⟨O, 4, none⟩ (.int .i64 (Rt.getS m sp))) := by
  obtain ⟨h3, hB, bR, bO, _⟩ := h3
  have bR4 := read_keeps h3 bR hp (by decide)
  have bO4 := read_keeps h3 bO hp (by decide)
  have n1 := set_block bO4 0 (.int .i64 4)
  have n2 := set_block n1 1 (.int .i64 0)
  have n3 := set_block n2 2 (.int .i64 sp.line)
  have n4 := set_block n3 3 (.int .i64 sp.cell)
  have n5 := set_block n4 4 (.int .i64 (Rt.getS m sp))
  have ht : ¬ PTy 133 ∧ 133 ≠ 3 ∧ 133 ≠ 124 ∧ 133 ≠ 22 := by unfold PTy; decide
  have hl : w.heap.size ≤ O := by omega
  refine ⟨((((((Aft.start hh hB.drew).put hp).aside bO4 hl ht _ _).aside n1 hl ht _ _).aside n2 hl ht _ _).aside n3 hl ht _ _).aside n4 hl ht _ _, by simpa using n5, ?_, hO⟩
  repeat rw [Below.heap_setCell _ _ _ _ (by show w.heap.size + 1 ≠ O; omega)]
  exact bR4
set_option maxHeartbeats 2000000 in
set_option maxRecDepth 100000 in
theorem read_any_m (w : World) (M B : Nat) (ty : TypeId) (tail : List Value) (S : Rt.Src) (m : Rt.Mc) (X : McX) (fm : Rt.PForm) (a1 a2 a3 : Option Addr) (c1 c2 c3 : Nat) (h : McS w M B ty tail S m X) (hm : Mok S m) (hk : fm.kind = 11) :
    Calls Tryz.prog 98 #[.pointer (some ⟨M, 0, none⟩), .agg (fmA fm a1 a2 a3 c1 c2 c3)] w (OutP M B ty tail S X (Rt.perform S m fm) w) := by
  have hbA := ((Below.refl w.heap.size w).alloc (Nat.le_refl _) (.cells (fmA fm a1 a2 a3 c1 c2 c3) 120)).alloc (by simp) (.cells #[.int .i64 0, .int .i64 0, .slice none 0 0] 128)
  have bF := block_alloc (heap_alloc_new w (.cells (fmA fm a1 a2 a3 c1 c2 c3) 120)) (.cells #[.int .i64 0, .int .i64 0, .slice none 0 0] 128)
  have bR := alloc2_plain w (.cells (fmA fm a1 a2 a3 c1 c2 c3) 120) (.cells #[.int .i64 0, .int .i64 0, .slice none 0 0] 128)
  have hA := h.later hbA
  have HP := hide (show Rt.perform S m fm = if m.taken < 0 ∨ S.input.length ≤ m.taken then Rt.ended m 4 else ⟨0, wrap64 (m.line + 1), [Rt.stay m.line, Rt.stored m (Rt.varS S m fm.name), ⟨6, 0, ⟨0, 0⟩, 0⟩], { Rt.putS m (Rt.varS S m fm.name) ((S.input[m.taken.toNat]?).getD 0) with taken := wrap64 (m.taken + 1) }⟩ by unfold Rt.perform; simp only; rw [if_neg (by omega), if_neg (by omega), if_neg (by omega), if_pos hk])
  have HH := hide h
  have hMlt := block_lt h.block
  clear h hk
  go_enter Tryz.func98, Tryz.ntmps98
  go_wp2_with fail
  generalize (w.alloc (.cells (fmA fm a1 a2 a3 c1 c2 c3) 120)).alloc (.cells #[.int .i64 0, .int .i64 0, .slice none 0 0] 128) = wA at *
  have c4 := hA.c4
  have cI := hA.c1
  obtain ⟨iad, icap, hiv⟩ := ownsRow_form hA.input
  have hil := hm.input
  have k1 := cell_of_block bF 1 (by simp)
  simp at k1
  by_cases ht : m.taken < 0 ∨ S.input.length ≤ m.taken
  · replace HP := hide ((unhide HP).trans (if_pos ht))
    obtain ⟨r0, r1, r2⟩ := three_cells bR
    have z := free_of_block bR
    have HA := hide (And.intro (Aft.start (unhide HH) hbA) bR)
    rw [hiv] at cI
    clear hA hbA bF hm bR
    have fin : ∀ (wz : World), Below wA.heap.size wA wz → ∀ a b c, Aft M B ty tail S X X m w (W3 wz (w.heap.size + 1) a b c) := fun wz hb a b c => ((unhide HA).1.below hb).three (block_later (unhide HA).2 hb) (by omega) (by unfold PTy; decide) a b c
    have HFin := hide fin
    clear fin
    by_cases h0 : m.taken < 0
    · have h0' : decide (m.taken < 0) = true := by simpa using h0
      clear ht
      go_quiet (fail)
      go_wp2_with fail
      refine bodyPost_ret (v := .agg #[.int .i64 4, .int .i64 0, .slice none 0 0]) ?_ rfl ⟨_, _, by rw [unhide HP]; rfl, by rw [unhide HP]; exact unhide HFin _ (below_drewN _ _) _ _ _, by rw [unhide HP]; exact World.ownsRow_nil _ _ _ _⟩
      simp [results, Tryz.results98, go_sem, r0, r1, r2]
    · have h0' : decide (m.taken < 0) = false := by simpa using h0
      have h1' : (S.input.length : Int) ≤ m.taken := by omega
      clear ht
      go_quiet (fail)
      go_wp2_with fail
      refine bodyPost_ret (v := .agg #[.int .i64 4, .int .i64 0, .slice none 0 0]) ?_ rfl ⟨_, _, by rw [unhide HP]; rfl, by rw [unhide HP]; exact unhide HFin _ (below_drewN _ _) _ _ _, by rw [unhide HP]; exact World.ownsRow_nil _ _ _ _⟩
      simp [results, Tryz.results98, go_sem, r0, r1, r2]
  · replace HP := hide ((unhide HP).trans (if_neg ht))
    obtain ⟨k, hk⟩ := Int.eq_ofNat_of_zero_le (show 0 ≤ m.taken by omega)
    have hkl : k < S.input.length := by omega
    obtain ⟨g, gcap, hgv, _, hglt, ca⟩ := own_cell hA.input (j := k) (u := .int .i64 S.input[k]) (by simp [intsV, hkl])
    rw [hgv] at cI
    rw [hk] at c4
    have HIn := hide (show (S.input[m.taken.toNat]?).getD 0 = S.input[k] by rw [hk]; simp [hkl])
    rw [unhide HIn] at HP
    have h0' : decide ((k : Int) < 0) = false := by simp
    have h0'' : ¬ (k : Int) < 0 := by omega
    have h1' : ¬ (S.input.length : Int) ≤ (k : Int) := by omega
    have h2' : (k : Int) < (S.input.length : Int) := by omega
    have hk0 : (0 : Int) ≤ (k : Int) := by omega
    have HA := hide (And.intro hA (And.intro hbA (And.intro bR bF)))
    have HM := hide hm
    have HGV := hide hgv
    have HKK := hide hk
    have HIK := hide (List.getElem?_eq_getElem hkl)
    clear hA hbA bF hm bR ht hiv hgv hk
    generalize S.input[k] = iv at *
    go_quiet (fail)
    go_wp2_with fail
    obtain ⟨hA, hbA, bR, bF⟩ := unhide HA
    refine (mvar_any _ M B ty tail S m X fm.name (hA.later (below_drewN _ _)) (unhide HM)).mono ?_
    rintro e w2 ⟨rfl, hb2⟩
    have hb2' : Below wA.heap.size wA w2 := (below_drewN wA _).trans hb2
    clear hb2
    generalize Rt.varS S m fm.name = sp at *
    have hbF := (Below.refl w2.heap.size w2).alloc (Nat.le_refl _) (.cells #[.int .i64 sp.line, .int .i64 sp.cell] 131)
    have hb3 : Below wA.heap.size wA (w2.alloc (.cells #[.int .i64 sp.line, .int .i64 sp.cell] 131)) := hb2'.trans (hbF.mono (B' := wA.heap.size) hb2'.size)
    have h3 := hA.later hb3
    have hB3 := hbA.trans (hb3.mono (B' := w.heap.size) hbA.size)
    have bR3 := block_later bR hb3
    have x1 := cell_later hb3 cI
    have x4 := cell_later hb3 c4
    have xa := cell_later hb3 ca
    have bT := heap_alloc_new w2 (.cells #[.int .i64 sp.line, .int .i64 sp.cell] 131)
    have t0 := cell_of_block bT 0 (by simp)
    have t1 := cell_of_block bT 1 (by simp)
    simp only [List.getElem_toArray, List.getElem_cons_succ, List.getElem_cons_zero] at t0 t1
    clear hA hbA bR bF hb2' hbF hb3 cI c4 ca k1 HA
    go_wp2_with fail
    generalize w2.alloc (.cells #[.int .i64 sp.line, .int .i64 sp.cell] 131) = w3 at *
    generalize w2.heap.size = T at *
    have hwm : IntKind.i64.wrap (k : Int) = (k : Int) := by rw [IntWalk.i64_left, IntWalk.wrap64_in _ (by omega)]
    have hbB := (Below.refl w3.heap.size w3).alloc (Nat.le_refl _) (.cells #[.int .i64 0, .int .i64 0, .int .i64 0, .int .i64 0, .int .i64 0] 133)
    have H3 := hide (And.intro h3 (And.intro hB3 bR3))
    have HBT := hide bT
    have HQ := hide (And.intro (h3.later hbB) (And.intro (hB3.trans (hbB.mono (B' := w.heap.size) hB3.size)) (And.intro (block_later bR3 hbB) (And.intro (heap_alloc_new w3 (.cells #[.int .i64 0, .int .i64 0, .int .i64 0, .int .i64 0, .int .i64 0] 133)) (block_later bT hbB)))))
    have hTne : ¬ T = w3.heap.size := by have := block_lt bT; omega
    have hMne : ¬ M = w3.heap.size := by have := block_lt h3.block; omega
    have hgne : ¬ g = w3.heap.size := by
      have h4 := h3.input
      rw [unhide HGV] at h4
      have := (h4.lt g rfl).2
      omega
    have hRne : ¬ w.heap.size + 1 = w3.heap.size := by have := block_lt bR3; omega
    have hTlt := block_lt bT
    have hMlt3 := block_lt h3.block
    have hglt3 : g < w3.heap.size := by
      have h4 := h3.input
      rw [unhide HGV] at h4
      exact (h4.lt g rfl).2
    have hRlt3 := block_lt bR3
    clear h3 hB3 bR3 bT hbB
    have hOlt : w.heap.size + 1 < w3.heap.size := hRlt3
    apply cutK (F := ReadF M B ty tail S X m sp iv w)
    · intro HT
      have HT' := hide HT
      clear HT
      go_region_with (first | (go_at_call 122; refine (store_any _ M B ty tail S m X sp iv ((unhide H3).1.later (below_to_drew _)) (unhide HM)).mono ?_; rintro e w4 ⟨rfl, hp4⟩; have HR := hide (ReadF.one (unhide HH) (unhide H3) hp4); replace hp4 := hide hp4) | (go_at_call 122; refine (store_any _ M B ty tail S m X sp iv ((unhide HQ).1.later (below_to_drew _)) (unhide HM)).mono ?_; rintro e w4 ⟨rfl, hp4⟩; obtain ⟨y0, y1, y2, y3, y4⟩ := five_cells (read_keeps (unhide HQ).1 (unhide HQ).2.2.2.1 hp4 (by decide)); have yz := free_of_block (read_keeps (unhide HQ).1 (unhide HQ).2.2.2.1 hp4 (by decide)); have HR := hide (ReadF.two (unhide HH) (unhide HQ) hOlt hp4)))
      all_goals
        rename_i hKK
        refine hKK _ _ ?_
        have HR' := unhide HR
        revert HR'
        first
          | (generalize w4.alloc (.cells #[.int .i64 4, .int .i64 0, .int .i64 sp.line, .int .i64 sp.cell, .int .i64 (Rt.getS m sp)] 133) = wy; generalize w4.heap.size = O)
          | (generalize ((((w4.setCell ⟨w3.heap.size, 0, none⟩ (.int .i64 4)).setCell ⟨w3.heap.size, 1, none⟩ (.int .i64 0)).setCell ⟨w3.heap.size, 2, none⟩ (.int .i64 sp.line)).setCell ⟨w3.heap.size, 3, none⟩ (.int .i64 sp.cell)).setCell ⟨w3.heap.size, 4, none⟩ (.int .i64 (Rt.getS m sp)) = wy; generalize w3.heap.size = O)
        intro HR'
        exact unhide HT' _ _ HR'
    · intro O wy hR
      obtain ⟨hA4, bO, bR4, hOR⟩ := hR
      have c4 := hA4.mc.c4
      rw [put_taken, unhide HKK] at c4
      have f4 := hA4.mc.fz 4
      have hMO : M ≠ O := by have := hA4.lt; omega
      have hMR : M ≠ w.heap.size + 1 := by have := hA4.lt; omega
      have hA5 := hA4.own (m' := { Rt.putS m sp iv with taken := wrap64 (m.taken + 1) }) 4 (.int .i64 (wrap64 (m.taken + 1))) (by simp [mcCells]) rfl rfl rfl
      have hw1 : wrap64 ((k : Int) + 1) = (k : Int) + 1 := IntWalk.wrap64_in _ (by omega)
      rw [unhide HKK, hw1] at hA5 HP
      have bO5 := (Below.heap_setCell wy ⟨M, 4, none⟩ (.int .i64 ((k : Int) + 1)) O (Ne.symm hMO)).trans bO
      have bR5 := (Below.heap_setCell wy ⟨M, 4, none⟩ (.int .i64 ((k : Int) + 1)) _ (Ne.symm hMR)).trans bR4
      have HRc := hide (show Rt.stored m sp = ⟨4, 0, sp, Rt.getS m sp⟩ from rfl)
      generalize Rt.getS m sp = old at *
      obtain ⟨p0, p1, p2, p3, p4⟩ := five_cells bO5
      have c6 := hA5.mc.c6
      have HL := hide (put_line m sp iv)
      rw [show ({ Rt.putS m sp iv with taken := (k : Int) + 1 } : Rt.Mc).line = m.line from unhide HL] at c6
      have HA5 := hide (And.intro hA5 bR5)
      clear hw1 hA4 bO bR4 hA5 bR5 bO5 x1 x4 xa t0 t1 hTne hMne hgne hRne hTlt hMlt3 hglt3 hRlt3 hOlt
      go_wp2_with fail
      generalize wy.setCell ⟨M, 4, none⟩ (.int .i64 ((k : Int) + 1)) = w5 at *
      clear c4 f4
      go_region_held3 (fun w' => w'.cell? ⟨M, 6, none⟩ = some (.int .i64 m.line) ∧ w'.cell? ⟨O, 0, none⟩ = some (.int .i64 4) ∧ w'.cell? ⟨O, 1, none⟩ = some (.int .i64 0) ∧ w'.cell? ⟨O, 2, none⟩ = some (.int .i64 sp.line) ∧ w'.cell? ⟨O, 3, none⟩ = some (.int .i64 sp.cell) ∧ w'.cell? ⟨O, 4, none⟩ = some (.int .i64 old)) (go_keep) (fail)
      obtain ⟨hA5, bR5⟩ := unhide HA5
      have hb6 := ((Below.refl w5.heap.size w5).alloc (Nat.le_refl _) (.cells #[.int .i64 1, .int .i64 m.line, .int .i64 0, .int .i64 0, .int .i64 0, .int .i64 4, .int .i64 0, .int .i64 sp.line, .int .i64 sp.cell, .int .i64 old, .int .i64 6, .int .i64 0, .int .i64 0, .int .i64 0, .int .i64 0] 133)).drew
      have bQ : (w5.alloc (.cells #[.int .i64 1, .int .i64 m.line, .int .i64 0, .int .i64 0, .int .i64 0, .int .i64 4, .int .i64 0, .int .i64 sp.line, .int .i64 sp.cell, .int .i64 old, .int .i64 6, .int .i64 0, .int .i64 0, .int .i64 0, .int .i64 0] 133)).drew.heap[w5.heap.size]? = _ := heap_alloc_new w5 (.cells #[.int .i64 1, .int .i64 m.line, .int .i64 0, .int .i64 0, .int .i64 0, .int .i64 4, .int .i64 0, .int .i64 sp.line, .int .i64 sp.cell, .int .i64 old, .int .i64 6, .int .i64 0, .int .i64 0, .int .i64 0, .int .i64 0] 133)
      have hA6 := hA5.below hb6
      have bR6 := block_later bR5 hb6
      have c6' := hA6.mc.c6
      rw [show ({ Rt.putS m sp iv with taken := (k : Int) + 1 } : Rt.Mc).line = m.line from unhide HL] at c6'
      have hQ := hA5.frm.size
      have hQlt := block_lt bQ
      have hRlt := block_lt bR5
      clear hA5 bR5 hb6 HA5 c6 p0 p1 p2 p3 p4
      generalize (w5.alloc (.cells #[.int .i64 1, .int .i64 m.line, .int .i64 0, .int .i64 0, .int .i64 0, .int .i64 4, .int .i64 0, .int .i64 sp.line, .int .i64 sp.cell, .int .i64 old, .int .i64 6, .int .i64 0, .int .i64 0, .int .i64 0, .int .i64 0] 133)).drew = w6 at *
      generalize w5.heap.size = q at *
      obtain ⟨r0, r1, r2⟩ := three_cells bR6
      have z := free_of_block bR6
      have HF := hide (fun a b c => And.intro (hA6.three bR6 (by omega) (by unfold PTy; decide) a b c) (rec_row 3 bQ (show q ≠ w.heap.size + 1 by omega) hQ a b c rfl (by omega)))
      clear hA6 bR6 bQ
      go_wp2_with fail
      refine bodyPost_ret (v := .agg #[.int .i64 0, .int .i64 (wrap64 (m.line + 1)), .slice (some ⟨q, 0, none⟩) 3 3]) ?_ rfl ⟨_, _, by rw [unhide HP], by rw [unhide HP]; exact (unhide HF _ _ _).1, by rw [unhide HP, unhide HRc]; exact (unhide HF _ _ _).2⟩
      simp [results, Tryz.results98, go_sem, r0, r1, r2]
end Go.Proofs.YtbpajiljfppjcaaGreatDoor

