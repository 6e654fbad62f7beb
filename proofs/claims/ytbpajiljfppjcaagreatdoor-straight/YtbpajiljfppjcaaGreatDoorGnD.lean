/- How many records a step has: plain. -/
import Derived.Test.YtbpajiljfppjcaaGreatDoorRnA
import Derived.Test.YtbpajiljfppjcaaGreatDoorGnB
namespace Go.Proofs.YtbpajiljfppjcaaGreatDoor
open Go.RowKit
attribute [local go_sem ↓] Go.wp_at_zero Go.wp_at_succ

/-- The machine's cells, laid into another block. -/
theorem McS.moved {w w' : World} {M M' B : Nat} {ty ty' : TypeId} {tail tail' : List Value} {S : Rt.Src} {m : Rt.Mc} {X : McX} (h : McS w M B ty tail S m X) (hb : Below w.heap.size w w') (hM : w'.heap[M']? = some (.cells (mcCells X m tail') ty' (0, 0))) (ht : TyOk ty') : McS w' M' B ty' tail' S m X := by
  have h' := h.later hb
  refine ⟨hM, ⟨block_lt hM, ?_, h'.prog.own, h'.prog.lines, h'.prog.links, h'.prog.len⟩, h'.own, h'.fl, h'.vl, ht⟩
  have := cell_of_block hM 0 (by simp [mcCells])
  simpa [mcCells] using this
/-- What a source must be for the machine to run it by this text's walks. -/
structure Flat (S : Rt.Src) : Prop where
  ops : ∀ n, ∀ o ∈ (Rt.formAt S.pls n).values, o.length ≤ 900
  index : ∀ n, (Rt.formAt S.pls n).index.length ≤ 900
  small : ∀ n, Rt.Small (Rt.formAt S.pls n)
  nocall : ∀ n, (Rt.formAt S.pls n).kind ≠ 12
  fwd : LkFwd S.pls S.lk
  mok : Mok S (Rt.firstM S)
/-- What a run keeps to. -/
structure Keep (S : Rt.Src) (m : Rt.Mc) : Prop where
  mok : Mok S m
  one : m.frames.length < 2
  out : m.output.length ≤ 50
theorem len_modify {α : Type} (l : List α) (i : Nat) (f : α → α) : (l.modify i f).length = l.length := by simp
theorem put_keep {S : Rt.Src} {m : Rt.Mc} (h : Keep S m) (s : Rt.Spot) (v : Int) : Keep S (Rt.putS m s v) := by
  unfold Rt.putS
  split
  · split
    · refine ⟨⟨h.mok.pls, h.mok.input, h.mok.frames, by simpa using h.mok.values, h.mok.output, h.mok.params, ?_, h.mok.forms⟩, h.one, h.out⟩
      intro l hl
      obtain ⟨i, hi, rfl⟩ := List.mem_iff_getElem.mp hl
      simp only [List.getElem_modify]
      split
      · rw [List.length_set]; exact h.mok.cells _ (List.getElem_mem _)
      · exact h.mok.cells _ (List.getElem_mem _)
    · refine ⟨⟨h.mok.pls, h.mok.input, by simpa using h.mok.frames, h.mok.values, h.mok.output, ?_, h.mok.cells, h.mok.forms⟩, by simpa using h.one, h.out⟩
      intro l hl
      obtain ⟨i, hi, rfl⟩ := List.mem_iff_getElem.mp hl
      simp only [List.getElem_modify]
      split
      · simp only [List.length_set]; exact h.mok.params _ (List.getElem_mem _)
      · exact h.mok.params _ (List.getElem_mem _)
  · exact h
theorem perform_keep {S : Rt.Src} {m : Rt.Mc} (h : Keep S m) (f : Rt.PForm) (hf : f.kind ≠ 12) : Keep S (Rt.perform S m f).m := by
  have hone := h.one
  unfold Rt.perform
  simp only
  repeat' split
  all_goals first
    | exact h
    | exact put_keep h _ _
    | (exfalso; omega)
    | skip
  · exact ⟨⟨h.mok.pls, h.mok.input, h.mok.frames, h.mok.values, by simp; omega, h.mok.params, h.mok.cells, h.mok.forms⟩, h.one, by simp; omega⟩
  · have := put_keep h (Rt.varS S m f.name) ((S.input[m.taken.toNat]?).getD 0)
    exact ⟨⟨this.mok.pls, this.mok.input, this.mok.frames, this.mok.values, this.mok.output, this.mok.params, this.mok.cells, this.mok.forms⟩, this.one, this.out⟩
theorem step_keep {S : Rt.Src} (hS : Flat S) {m : Rt.Mc} (h : Keep S m) : Keep S (Rt.stepM S m).1 := by
  unfold Rt.stepM
  split
  · simp only
    split
    · have := perform_keep h (Rt.formAt S.pls m.line) (hS.nocall _)
      exact ⟨⟨this.mok.pls, this.mok.input, this.mok.frames, this.mok.values, this.mok.output, this.mok.params, this.mok.cells, this.mok.forms⟩, this.one, this.out⟩
    · exact ⟨⟨h.mok.pls, h.mok.input, h.mok.frames, h.mok.values, h.mok.output, h.mok.params, h.mok.cells, h.mok.forms⟩, h.one, h.out⟩
  · exact h
theorem first_keep {S : Rt.Src} (hS : Flat S) : Keep S (Rt.firstM S) := ⟨hS.mok, by simp [Rt.firstM], by simp [Rt.firstM]⟩
theorem stepM_any (w : World) (M B : Nat) (ty : TypeId) (tail : List Value) (S : Rt.Src) (m : Rt.Mc) (X : McX) (h : McS w M B ty tail S m X) (hS : Flat S) (hk : Keep S m) :
    Calls Tryz.prog 38 #[.pointer (some ⟨M, 0, none⟩)] w (StepP M B ty tail S X m w) :=
  step_flat w M B ty tail S m X h hk.mok (hS.ops _) (hS.index _) (hS.small _) hk.one (hS.nocall _) hS.fwd
theorem run_frame {M B : Nat} {ty : TypeId} {tail : List Value} {S : Rt.Src} {m : Rt.Mc} {X X' : McX} {w w2 wr : World} (hA : Aft M B ty tail S X X' m w2 wr) (h2 : Below w.heap.size w w2) (hM : w.heap.size < M) (hbl : ∀ k ∈ blkX X, w.heap.size ≤ k) : Below w.heap.size w wr :=
  ⟨hA.frm.os.trans h2.os, hA.frm.tape.trans h2.tape, hA.frm.output.trans h2.output, Nat.le_trans h2.size hA.frm.size, fun j hj => (hA.frm.block j (Nat.lt_of_lt_of_le hj h2.size) (fun hm => by
    rcases List.mem_cons.mp hm with rfl | hm
    · omega
    · have := hbl j hm; omega)).trans (h2.block j hj)⟩
abbrev zRes : Array Value := #[.int .i64 0, .int .i64 0, .slice none 0 0]
/-- What Run says of a right source. -/
def RunP (S : Rt.Src) (n : Nat) (w : World) (e : Ending) (w' : World) : Prop :=
  Below w.heap.size w w' ∧ ∃ v, e = .returned (.tuple #[.agg #[.int .i64 (Rt.runM S n (Rt.firstM S)).1.fin, .int .i64 (Rt.runM S n (Rt.firstM S)).2, v], .int .i64 0, .int .i64 0]) ∧ w'.ownsRow w.heap.size 3 1 v (Rt.runM S n (Rt.firstM S)).1.output.length (intsV (Rt.runM S n (Rt.firstM S)).1.output)
set_option maxHeartbeats 1000000 in
set_option maxRecDepth 100000 in
theorem run_flat (s : ByteArray) (iv : Value) (inp : List Int) (fuel : Nat) (w : World) (pls : List Rt.PL) (hs : s.size ≤ maxLen) (hi : Ints w iv inp) (hR : Rt.readS s = (0, 0, pls)) (hfit : Fit s pls) (hl : inp.length ≤ 100) (hfu : fuel ≤ 1000) (hS : Flat (srcOf s pls inp)) :
    Calls Tryz.prog 13 #[.string s, iv, .int .i64 fuel] w (RunP (srcOf s pls inp) fuel w) := by
  have HI := hide hi
  obtain ⟨iad, icap, rfl, _⟩ := hi
  go_enter Tryz.func13, Tryz.ntmps13
  go_wp2_with fail
  have hb0 := (Below.refl w.heap.size w).alloc (Nat.le_refl _) (.cells zRes 29)
  refine (new_any s _ inp _ hs ((unhide HI).later hb0) (fun p hp => by rw [hR] at hp; injection hp with _ hp; injection hp with _ hp; rw [← hp]; exact hfit)).mono ?_
  rintro e w1 ⟨hb1, hcase⟩
  have hB1 : Below w.heap.size w w1 := hb0.trans (hb1.mono (by simp))
  have bR1 := block_later (heap_alloc_new w (.cells zRes 29)) hb1
  rcases hcase with ⟨hlt, _⟩ | ⟨_, er, ln, pls', hR', hc⟩
  · exact absurd hlt (by omega)
  rw [hR] at hR'
  injection hR' with e1 hR'
  injection hR' with e2 e3
  subst e1 e2 e3
  rcases hc with ⟨h0, _⟩ | ⟨_, _, hlen, M0, X, rfl, hM0, hblk, hmc⟩
  · exact absurd rfl h0
  have hkeep := first_keep hS
  obtain ⟨la, lc, ia, ic, fa, fc, va, vc, oa, oc, q1, q2, q3, q4, q5⟩ := hmc.shape
  generalize hm0 : Rt.firstM (srcOf s pls inp) = m0 at *
  have hcells : mcCells X m0 [] = #[.slice la pls.length lc, .slice ia inp.length ic, .slice fa m0.frames.length fc, .slice va m0.values.length vc, .int .i64 m0.taken, .slice oa m0.output.length oc, .int .i64 m0.line, .int .i64 m0.fin] := by
    simp only [mcCells, q1, q2, q3, q4, q5, srcOf, List.length_map]
    rfl
  rw [hcells]
  have hb2 := (Below.refl w1.heap.size w1).alloc (Nat.le_refl _) (.cells (mcCells X m0 []) 80)
  have hm2 := hmc.moved hb2 (heap_alloc_new w1 (.cells (mcCells X m0 []) 80)) (by unfold TyOk; decide)
  rw [hcells] at hb2 hm2
  have H2 := hide (And.intro hm2 (And.intro (hB1.trans (hb2.mono (B' := w.heap.size) hB1.size)) (block_later bR1 hb2)))
  have HBL := hide (fun k hk => Nat.le_trans (show w.heap.size ≤ _ by simp) (hblk k hk))
  have hRlt := block_lt bR1
  have hfu0 : ¬ (fuel : Int) < 0 := by omega
  have hfu1 : ¬ (1000 : Int) < (fuel : Int) := by omega
  have HK := hide hkeep
  have HS := hide hS
  have HM0 := hide hm0
  clear hmc hm2 hb2 hcells q1 q2 q3 q4 q5 hb0 hb1 hB1 bR1 hkeep hblk hR hfit hm0 hS
  go_wp2_with fail
  generalize (srcOf s pls inp) = S at *
  generalize (w1.alloc (.cells #[.slice la pls.length lc, .slice ia inp.length ic, .slice fa m0.frames.length fc, .slice va m0.values.length vc, .int .i64 m0.taken, .slice oa m0.output.length oc, .int .i64 m0.line, .int .i64 m0.fin] 80)) = w2 at *
  have hw2 : w1.heap.size < w2.heap.size := block_lt (unhide H2).1.block
  generalize w1.heap.size = M at *
  generalize (w.alloc (.cells zRes 29)).heap.size = B at *
  go_loopw [12] (fun i wr => ∃ (k : Nat) (m : Rt.Mc) (X' : McX), k ≤ fuel ∧ i = .int .i64 k ∧ Aft M B 80 [] S X X' m w2 wr ∧ Keep S m ∧ Rt.runM S fuel m0 = ((Rt.runM S (fuel - k) m).1, (Rt.runM S (fuel - k) m).2 + k))
    (fun i _ => fuel + 1 - (intOf i).toNat)
  case atStart => exact ⟨0, m0, X, Nat.zero_le _, rfl, Aft.start (unhide H2).1 (Below.refl _ _), unhide HK, rfl⟩
  case round =>
    obtain ⟨k, m, X', hk, rfl, hA, hkm, hrun⟩ := hrel
    have HA := hide hA
    have HKM := hide hkm
    have HRUN := hide hrun
    clear hA hkm hrun
    by_cases hlt : k < fuel
    · have hlt' : (k : Int) < (fuel : Int) := by omega
      by_cases hz : m.fin = 0
      · have hz' : (m.fin == 0) = true := by simpa using hz
        go_wp2_with fail
        refine (end_any _ M B _ _ S m X' (unhide HA).mc).mono ?_
        rintro e w3 ⟨rfl, rfl⟩
        go_wp2_with fail
        refine (stepM_any _ M B _ _ S m X' (unhide HA).mc (unhide HS) (unhide HKM)).mono ?_
        rintro e w4 ⟨rv, X'', rfl, hA4, _⟩
        have hA5 := (unhide HA).more hA4.mc hA4.frm hA4.grow
        have HF := hide (And.intro hA5 (step_keep (unhide HS) (unhide HKM)))
        have HN := hide (show Rt.runM S fuel m0 = ((Rt.runM S (fuel - (k + 1)) (Rt.stepM S m).1).1, (Rt.runM S (fuel - (k + 1)) (Rt.stepM S m).1).2 + (k + 1)) by
          rw [unhide HRUN, show fuel - k = (fuel - (k + 1)) + 1 by omega, Rt.runM, if_pos hz]
          simp only [Prod.mk.injEq, true_and]
          omega)
        clear hA4 hA5
        go_wp2_with fail
        go_roundw
        case rel => exact ⟨k + 1, _, _, by omega, by go_num, (unhide HF).1, (unhide HF).2, unhide HN⟩
        case measure => simp [intOf]; omega
      · have hz' : (m.fin == 0) = false := by simpa using hz
        have HE := hide (show Rt.runM S fuel m0 = (m, k) by
          rw [unhide HRUN, show fuel - k = (fuel - k - 1) + 1 by omega, Rt.runM, if_neg hz]
          simp)
        go_wp2_with fail
        refine (end_any _ M B _ _ S m X' (unhide HA).mc).mono ?_
        rintro e w3 ⟨rfl, rfl⟩
        go_wp2_with fail
        refine (output_any _ M B _ _ S m X' (unhide HA).mc (Nat.le_trans (unhide HKM).out (by omega))).mono ?_
        rintro e w5 ⟨hb5, v, rfl, hown5⟩
        have hB := run_frame (unhide HA) (unhide H2).2.1 hRlt (unhide HBL)
        have bR := block_later (Aft.keeps (unhide H2).1 (unhide HA) (unhide H2).2.2 (by omega) (by decide)) hb5
        have hmc5 := (unhide HA).mc.later hb5
        have hB5 := hB.trans (hb5.mono (B' := w.heap.size) hB.size)
        have hown6 := ownsRow_mono hown5 hB.size
        obtain ⟨ad, cap, rfl⟩ := ownsRow_form hown5
        obtain ⟨r0, r1, r2⟩ := three_cells bR
        have z := free_of_block bR
        have HF : Hid (∀ a b c, Below w.heap.size w (W3 w5 w.heap.size a b c) ∧ (W3 w5 w.heap.size a b c).ownsRow w.heap.size 3 1 (.slice ad m.output.length cap) m.output.length (intsV m.output)) := hide (fun a b c => ⟨below_one (below_one (below_one hB5 (Nat.le_refl _) _ _) (Nat.le_refl _) _ _) (Nat.le_refl _) _ _, own_same hown6 (fun g hg => W3_other _ _ _ _ _ _ (by have := (hown5.lt g hg).1; have := (unhide HA).frm.size; omega))⟩)
        have HM5 := hide hmc5
        clear hown5 hown6 hB hB5 bR hmc5 hb5
        go_wp2_with fail
        refine (end_any _ M B _ _ S m X' (unhide HM5)).mono ?_
        rintro e w6 ⟨rfl, rfl⟩
        go_wp2_with fail
        refine bodyPost_ret (v := .tuple #[.agg #[.int .i64 m.fin, .int .i64 k, .slice ad m.output.length cap], .int .i64 0, .int .i64 0]) ?_ rfl ⟨(unhide HF _ _ _).1, .slice ad m.output.length cap, by rw [unhide HM0, unhide HE], by rw [unhide HM0, unhide HE]; exact (unhide HF _ _ _).2⟩
        simp [results, Tryz.results13, go_sem, r0, r1, r2]
    · have hlt' : ¬ (k : Int) < (fuel : Int) := by omega
      have HE := hide (show Rt.runM S fuel m0 = (m, k) by
          rw [unhide HRUN, show fuel - k = 0 by omega, Rt.runM]
          simp)
      go_wp2_with fail
      refine (output_any _ M B _ _ S m X' (unhide HA).mc (Nat.le_trans (unhide HKM).out (by omega))).mono ?_
      rintro e w5 ⟨hb5, v, rfl, hown5⟩
      have hB := run_frame (unhide HA) (unhide H2).2.1 hRlt (unhide HBL)
      have bR := block_later (Aft.keeps (unhide H2).1 (unhide HA) (unhide H2).2.2 (by omega) (by decide)) hb5
      have hmc5 := (unhide HA).mc.later hb5
      have hB5 := hB.trans (hb5.mono (B' := w.heap.size) hB.size)
      have hown6 := ownsRow_mono hown5 hB.size
      obtain ⟨ad, cap, rfl⟩ := ownsRow_form hown5
      obtain ⟨r0, r1, r2⟩ := three_cells bR
      have z := free_of_block bR
      have HF : Hid (∀ a b c, Below w.heap.size w (W3 w5 w.heap.size a b c) ∧ (W3 w5 w.heap.size a b c).ownsRow w.heap.size 3 1 (.slice ad m.output.length cap) m.output.length (intsV m.output)) := hide (fun a b c => ⟨below_one (below_one (below_one hB5 (Nat.le_refl _) _ _) (Nat.le_refl _) _ _) (Nat.le_refl _) _ _, own_same hown6 (fun g hg => W3_other _ _ _ _ _ _ (by have := (hown5.lt g hg).1; have := (unhide HA).frm.size; omega))⟩)
      have HM5 := hide hmc5
      clear hown5 hown6 hB hB5 bR hmc5 hb5
      go_wp2_with fail
      refine (end_any _ M B _ _ S m X' (unhide HM5)).mono ?_
      rintro e w6 ⟨rfl, rfl⟩
      go_wp2_with fail
      refine bodyPost_ret (v := .tuple #[.agg #[.int .i64 m.fin, .int .i64 k, .slice ad m.output.length cap], .int .i64 0, .int .i64 0]) ?_ rfl ⟨(unhide HF _ _ _).1, .slice ad m.output.length cap, by rw [unhide HM0, unhide HE], by rw [unhide HM0, unhide HE]; exact (unhide HF _ _ _).2⟩
      simp [results, Tryz.results13, go_sem, r0, r1, r2]
end Go.Proofs.YtbpajiljfppjcaaGreatDoor

namespace Go.Proofs.YtbpajiljfppjcaaGreatDoor
open Go.RowKit
attribute [local go_sem ↓] Go.wp_at_zero Go.wp_at_succ

theorem form_case (P : List Rt.PL) (n : Int) : Rt.formAt P n = Rt.zF ∨ ∃ p ∈ P, Rt.formAt P n = p.form := by
  unfold Rt.formAt
  split
  · exact Or.inl rfl
  · cases e : P[n.toNat]? with
    | none => exact Or.inl rfl
    | some p => exact Or.inr ⟨p, List.mem_of_getElem? e, rfl⟩
theorem good_of {s : ByteArray} {pls : List Rt.PL} {inp : List Int} (h : Rt.readS s = (0, 0, pls)) (hl : inp.length ≤ 100) : Good (srcOf s pls inp) := by
  obtain ⟨h1, h2, _⟩ := Rt.read_small h
  have hsm : ∀ p ∈ (srcOf s pls inp).pls, Rt.Small p.form := fun p hp => by
    obtain ⟨q, hq, rfl⟩ := List.mem_map.mp hp
    exact h1 q hq
  refine ⟨fun n => ?_, Rt.read_fwd h, ?_⟩
  · rcases form_case (srcOf s pls inp).pls n with e | ⟨p, hp, e⟩
    · rw [e]; exact Rt.small_z
    · rw [e]; exact hsm p hp
  · refine ⟨by simpa [srcOf] using h2, hl, by simp [Rt.firstM], by simpa [Rt.firstM, srcOf] using h2, by simp [Rt.firstM], ?_, ?_, hsm⟩
    · intro f hf
      simp only [Rt.firstM, List.mem_singleton] at hf
      rw [hf]
      simp [Rt.noFm]
    · intro l hl2
      simp only [Rt.firstM, List.mem_map] at hl2
      obtain ⟨p, hp, rfl⟩ := hl2
      have := (hsm p hp).cells
      unfold Rt.zerosI
      rw [List.length_replicate]
      split <;> omega
set_option maxHeartbeats 1000000 in
set_option maxRecDepth 100000 in
theorem run_right (s : ByteArray) (iv : Value) (inp : List Int) (fuel : Nat) (w : World) (pls : List Rt.PL) (hs : s.size ≤ maxLen) (hi : Ints w iv inp) (hR : Rt.readS s = (0, 0, pls)) (hl : inp.length ≤ 100) (hfu : fuel ≤ 1000) :
    Calls Tryz.prog 13 #[.string s, iv, .int .i64 fuel] w (RunP (srcOf s pls inp) fuel w) := by
  have hfit := fit_of hR
  have hS := good_of hR hl
  have HI := hide hi
  obtain ⟨iad, icap, rfl, _⟩ := hi
  go_enter Tryz.func13, Tryz.ntmps13
  go_wp2_with fail
  have hb0 := (Below.refl w.heap.size w).alloc (Nat.le_refl _) (.cells zRes 29)
  refine (new_any s _ inp _ hs ((unhide HI).later hb0) (fun p hp => by rw [hR] at hp; injection hp with _ hp; injection hp with _ hp; rw [← hp]; exact hfit)).mono ?_
  rintro e w1 ⟨hb1, hcase⟩
  have hB1 : Below w.heap.size w w1 := hb0.trans (hb1.mono (by simp))
  have bR1 := block_later (heap_alloc_new w (.cells zRes 29)) hb1
  rcases hcase with ⟨hlt, _⟩ | ⟨_, er, ln, pls', hR', hc⟩
  · exact absurd hlt (by omega)
  rw [hR] at hR'
  injection hR' with e1 hR'
  injection hR' with e2 e3
  subst e1 e2 e3
  rcases hc with ⟨h0, _⟩ | ⟨_, _, hlen, M0, X, rfl, hM0, hblk, hmc⟩
  · exact absurd rfl h0
  have hkeep := first_keepG hS
  obtain ⟨la, lc, ia, ic, fa, fc, va, vc, oa, oc, q1, q2, q3, q4, q5⟩ := hmc.shape
  generalize hm0 : Rt.firstM (srcOf s pls inp) = m0 at *
  have hcells : mcCells X m0 [] = #[.slice la pls.length lc, .slice ia inp.length ic, .slice fa m0.frames.length fc, .slice va m0.values.length vc, .int .i64 m0.taken, .slice oa m0.output.length oc, .int .i64 m0.line, .int .i64 m0.fin] := by
    simp only [mcCells, q1, q2, q3, q4, q5, srcOf, List.length_map]
    rfl
  rw [hcells]
  have hb2 := (Below.refl w1.heap.size w1).alloc (Nat.le_refl _) (.cells (mcCells X m0 []) 80)
  have hm2 := hmc.moved hb2 (heap_alloc_new w1 (.cells (mcCells X m0 []) 80)) (by unfold TyOk; decide)
  rw [hcells] at hb2 hm2
  have H2 := hide (And.intro hm2 (And.intro (hB1.trans (hb2.mono (B' := w.heap.size) hB1.size)) (block_later bR1 hb2)))
  have HBL := hide (fun k hk => Nat.le_trans (show w.heap.size ≤ _ by simp) (hblk k hk))
  have hRlt := block_lt bR1
  have hfu0 : ¬ (fuel : Int) < 0 := by omega
  have hfu1 : ¬ (1000 : Int) < (fuel : Int) := by omega
  have HK := hide hkeep
  have HS := hide hS
  have HM0 := hide hm0
  clear hmc hm2 hb2 hcells q1 q2 q3 q4 q5 hb0 hb1 hB1 bR1 hkeep hblk hR hfit hm0 hS
  go_wp2_with fail
  generalize (srcOf s pls inp) = S at *
  generalize (w1.alloc (.cells #[.slice la pls.length lc, .slice ia inp.length ic, .slice fa m0.frames.length fc, .slice va m0.values.length vc, .int .i64 m0.taken, .slice oa m0.output.length oc, .int .i64 m0.line, .int .i64 m0.fin] 80)) = w2 at *
  have hw2 : w1.heap.size < w2.heap.size := block_lt (unhide H2).1.block
  generalize w1.heap.size = M at *
  generalize (w.alloc (.cells zRes 29)).heap.size = B at *
  go_loopw [12] (fun i wr => ∃ (k : Nat) (m : Rt.Mc) (X' : McX), k ≤ fuel ∧ i = .int .i64 k ∧ Aft M B 80 [] S X X' m w2 wr ∧ KeepG S m ∧ Rt.runM S fuel m0 = ((Rt.runM S (fuel - k) m).1, (Rt.runM S (fuel - k) m).2 + k))
    (fun i _ => fuel + 1 - (intOf i).toNat)
  case atStart => exact ⟨0, m0, X, Nat.zero_le _, rfl, Aft.start (unhide H2).1 (Below.refl _ _), unhide HK, rfl⟩
  case round =>
    obtain ⟨k, m, X', hk, rfl, hA, hkm, hrun⟩ := hrel
    have HA := hide hA
    have HKM := hide hkm
    have HRUN := hide hrun
    clear hA hkm hrun
    by_cases hlt : k < fuel
    · have hlt' : (k : Int) < (fuel : Int) := by omega
      by_cases hz : m.fin = 0
      · have hz' : (m.fin == 0) = true := by simpa using hz
        go_wp2_with fail
        refine (end_any _ M B _ _ S m X' (unhide HA).mc).mono ?_
        rintro e w3 ⟨rfl, rfl⟩
        go_wp2_with fail
        refine (step_any _ M B _ _ S m X' (unhide HA).mc (unhide HKM).mok ((unhide HS).small _) (unhide HS).fwd).mono ?_
        rintro e w4 ⟨rv, X'', rfl, hA4, _⟩
        have hA5 := (unhide HA).more hA4.mc hA4.frm hA4.grow
        have HF := hide (And.intro hA5 (step_keepG (unhide HS) (unhide HKM)))
        have HN := hide (show Rt.runM S fuel m0 = ((Rt.runM S (fuel - (k + 1)) (Rt.stepM S m).1).1, (Rt.runM S (fuel - (k + 1)) (Rt.stepM S m).1).2 + (k + 1)) by
          rw [unhide HRUN, show fuel - k = (fuel - (k + 1)) + 1 by omega, Rt.runM, if_pos hz]
          simp only [Prod.mk.injEq, true_and]
          omega)
        clear hA4 hA5
        go_wp2_with fail
        go_roundw
        case rel => exact ⟨k + 1, _, _, by omega, by go_num, (unhide HF).1, (unhide HF).2, unhide HN⟩
        case measure => simp [intOf]; omega
      · have hz' : (m.fin == 0) = false := by simpa using hz
        have HE := hide (show Rt.runM S fuel m0 = (m, k) by
          rw [unhide HRUN, show fuel - k = (fuel - k - 1) + 1 by omega, Rt.runM, if_neg hz]
          simp)
        go_wp2_with fail
        refine (end_any _ M B _ _ S m X' (unhide HA).mc).mono ?_
        rintro e w3 ⟨rfl, rfl⟩
        go_wp2_with fail
        refine (output_any _ M B _ _ S m X' (unhide HA).mc (Nat.le_trans (unhide HKM).out (by omega))).mono ?_
        rintro e w5 ⟨hb5, v, rfl, hown5⟩
        have hB := run_frame (unhide HA) (unhide H2).2.1 hRlt (unhide HBL)
        have bR := block_later (Aft.keeps (unhide H2).1 (unhide HA) (unhide H2).2.2 (by omega) (by decide)) hb5
        have hmc5 := (unhide HA).mc.later hb5
        have hB5 := hB.trans (hb5.mono (B' := w.heap.size) hB.size)
        have hown6 := ownsRow_mono hown5 hB.size
        obtain ⟨ad, cap, rfl⟩ := ownsRow_form hown5
        obtain ⟨r0, r1, r2⟩ := three_cells bR
        have z := free_of_block bR
        have HF : Hid (∀ a b c, Below w.heap.size w (W3 w5 w.heap.size a b c) ∧ (W3 w5 w.heap.size a b c).ownsRow w.heap.size 3 1 (.slice ad m.output.length cap) m.output.length (intsV m.output)) := hide (fun a b c => ⟨below_one (below_one (below_one hB5 (Nat.le_refl _) _ _) (Nat.le_refl _) _ _) (Nat.le_refl _) _ _, own_same hown6 (fun g hg => W3_other _ _ _ _ _ _ (by have := (hown5.lt g hg).1; have := (unhide HA).frm.size; omega))⟩)
        have HM5 := hide hmc5
        clear hown5 hown6 hB hB5 bR hmc5 hb5
        go_wp2_with fail
        refine (end_any _ M B _ _ S m X' (unhide HM5)).mono ?_
        rintro e w6 ⟨rfl, rfl⟩
        go_wp2_with fail
        refine bodyPost_ret (v := .tuple #[.agg #[.int .i64 m.fin, .int .i64 k, .slice ad m.output.length cap], .int .i64 0, .int .i64 0]) ?_ rfl ⟨(unhide HF _ _ _).1, .slice ad m.output.length cap, by rw [unhide HM0, unhide HE], by rw [unhide HM0, unhide HE]; exact (unhide HF _ _ _).2⟩
        simp [results, Tryz.results13, go_sem, r0, r1, r2]
    · have hlt' : ¬ (k : Int) < (fuel : Int) := by omega
      have HE := hide (show Rt.runM S fuel m0 = (m, k) by
          rw [unhide HRUN, show fuel - k = 0 by omega, Rt.runM]
          simp)
      go_wp2_with fail
      refine (output_any _ M B _ _ S m X' (unhide HA).mc (Nat.le_trans (unhide HKM).out (by omega))).mono ?_
      rintro e w5 ⟨hb5, v, rfl, hown5⟩
      have hB := run_frame (unhide HA) (unhide H2).2.1 hRlt (unhide HBL)
      have bR := block_later (Aft.keeps (unhide H2).1 (unhide HA) (unhide H2).2.2 (by omega) (by decide)) hb5
      have hmc5 := (unhide HA).mc.later hb5
      have hB5 := hB.trans (hb5.mono (B' := w.heap.size) hB.size)
      have hown6 := ownsRow_mono hown5 hB.size
      obtain ⟨ad, cap, rfl⟩ := ownsRow_form hown5
      obtain ⟨r0, r1, r2⟩ := three_cells bR
      have z := free_of_block bR
      have HF : Hid (∀ a b c, Below w.heap.size w (W3 w5 w.heap.size a b c) ∧ (W3 w5 w.heap.size a b c).ownsRow w.heap.size 3 1 (.slice ad m.output.length cap) m.output.length (intsV m.output)) := hide (fun a b c => ⟨below_one (below_one (below_one hB5 (Nat.le_refl _) _ _) (Nat.le_refl _) _ _) (Nat.le_refl _) _ _, own_same hown6 (fun g hg => W3_other _ _ _ _ _ _ (by have := (hown5.lt g hg).1; have := (unhide HA).frm.size; omega))⟩)
      have HM5 := hide hmc5
      clear hown5 hown6 hB hB5 bR hmc5 hb5
      go_wp2_with fail
      refine (end_any _ M B _ _ S m X' (unhide HM5)).mono ?_
      rintro e w6 ⟨rfl, rfl⟩
      go_wp2_with fail
      refine bodyPost_ret (v := .tuple #[.agg #[.int .i64 m.fin, .int .i64 k, .slice ad m.output.length cap], .int .i64 0, .int .i64 0]) ?_ rfl ⟨(unhide HF _ _ _).1, .slice ad m.output.length cap, by rw [unhide HM0, unhide HE], by rw [unhide HM0, unhide HE]; exact (unhide HF _ _ _).2⟩
      simp [results, Tryz.results13, go_sem, r0, r1, r2]
end Go.Proofs.YtbpajiljfppjcaaGreatDoor

namespace Go.Proofs.YtbpajiljfppjcaaGreatDoor
open Go.RowKit

namespace Rt
theorem nameErr_each (pls : List PL) : ∀ (rem : List PL) (n : Nat), 0 < n → nameErr pls n rem = 0 → ∀ (j : Nat) (p : PL), rem[j]? = some p → namFit pls (n + j) p = true
  | [], _, _, _, j, p, h => by simp at h
  | q :: r, n, h0, he, j, p, h => by
    unfold nameErr at he
    split at he
    · next hq =>
      cases j with
      | zero => simp at h; subst h; exact hq
      | succ j =>
        have := nameErr_each pls r (n + 1) (by omega) he j p (by simpa using h)
        rw [show n + (j + 1) = n + 1 + j by omega]
        exact this
    · omega
end Rt
theorem nest_zero_aux : ∀ (ps : List Rt.PL) (n : Nat) (bs : List Rt.Blk) (acc ls : List Rt.PL) (b2 : List Rt.Blk) (p : Rt.PL), Rt.nestFrom ps n bs (p :: acc) = (0, ls, b2) → 0 < n → ls[0]? = some p
  | [], n, bs, acc, ls, b2, p, h, _ => by simp [Rt.nestFrom] at h; rw [← h.1]; rfl
  | q :: r, n, bs, acc, ls, b2, p, h, h0 => by
    rw [Rt.nestFrom] at h
    split at h
    · rw [List.cons_append] at h
      exact nest_zero_aux r (n + 1) _ _ ls b2 p h (by omega)
    · simp at h; omega
theorem nest_zero {ps ls : List Rt.PL} {b2 : List Rt.Blk} (h : Rt.nestFrom ps 1 [] [Rt.zPL] = (0, ls, b2)) : ls[0]? = some Rt.zPL := nest_zero_aux ps 1 [] [] ls b2 Rt.zPL h (by omega)
/-- No call hands over more than four values. -/
def Call4 (S : Rt.Src) : Prop := ∀ n, (Rt.formAt S.pls n).kind = 12 → (Rt.formAt S.pls n).values.length ≤ 4
theorem call4_of {s : ByteArray} {pls : List Rt.PL} {inp : List Int} (h : Rt.readS s = (0, 0, pls)) : Call4 (srcOf s pls inp) := by
  obtain ⟨hsm, _, _⟩ := Rt.read_small h
  obtain ⟨_, _, _, hn, _⟩ := Rt.read_nest h
  have key : ∀ p ∈ pls, p.form.kind = 12 → p.form.values.length ≤ 4 := by
    intro p hp hk
    obtain ⟨i, hi⟩ := List.mem_iff_getElem?.mp hp
    cases i with
    | zero =>
      -- the zeroth line is empty
      have h0 : pls[0]? = some Rt.zPL := by
        obtain ⟨h1, h2, h3, _, _⟩ := Rt.read_nest h
        exact nest_zero h3
      rw [h0] at hi
      injection hi with hi
      subst hi
      exact absurd hk (by decide)
    | succ i =>
      have := Rt.nameErr_each pls (pls.drop 1) 1 (by omega) hn i p (by rw [List.getElem?_drop, Nat.add_comm]; exact hi)
      unfold Rt.namFit at this
      rw [if_neg (by omega), if_neg (by omega), if_neg (by omega), if_neg (by omega), if_pos hk, Bool.and_eq_true] at this
      have h2 := this.1
      unfold Rt.callFit at h2
      rw [Bool.and_eq_true, decide_eq_true_eq, decide_eq_true_eq] at h2
      rw [← h2.2]
      unfold Rt.declForm
      rcases form_case pls (Rt.declP pls p.form.name) with e | ⟨q, hq, e⟩
      · rw [e]; simp [Rt.zF]
      · rw [e]; exact (hsm q hq).params
  intro n hk
  rcases form_case (srcOf s pls inp).pls n with e | ⟨p, hp, e⟩
  · rw [e]; simp [Rt.zF]
  · rw [e] at hk ⊢
    obtain ⟨q, hq, rfl⟩ := List.mem_map.mp hp
    exact key q hq hk
def Par4 (m : Rt.Mc) : Prop := ∀ f ∈ m.frames, f.params.length ≤ 4
theorem put_par4 {m : Rt.Mc} (h : Par4 m) (s : Rt.Spot) (v : Int) : Par4 (Rt.putS m s v) := by
  unfold Rt.putS
  split
  · split
    · exact h
    · intro l hl
      obtain ⟨i, hi, rfl⟩ := List.mem_iff_getElem.mp hl
      simp only [List.getElem_modify]
      split
      · simp only [List.length_set]; exact h _ (List.getElem_mem _)
      · exact h _ (List.getElem_mem _)
  · exact h
theorem perform_par4 {S : Rt.Src} {m : Rt.Mc} (h : Par4 m) (f : Rt.PForm) (hf : f.kind = 12 → f.values.length ≤ 4) : Par4 (Rt.perform S m f).m ∧ (Rt.perform S m f).recs.length ≤ 5 ∧ ((Rt.perform S m f).fin = 0 → 0 < (Rt.perform S m f).recs.length) := by
  unfold Rt.perform
  simp only
  repeat' split
  all_goals first
    | (refine ⟨h, by simp [Rt.ended], fun hz => ?_⟩; first | (simp; done) | exact absurd hz (by assumption) | (simp [Rt.ended] at hz; done))
    | exact ⟨put_par4 h _ _, by simp, by simp⟩
    | skip
  · next hk ha hn =>
    refine ⟨?_, by simp, by simp⟩
    intro g hg
    rcases List.mem_append.mp hg with hg | hg
    · exact h g hg
    · rw [List.mem_singleton.mp hg]
      have := Rt.argsI_len S m f.values [] ha
      have := hf hk
      simp only [List.length_nil] at *
      omega
  · next hn =>
    refine ⟨fun g hg => h g (List.dropLast_subset _ hg), ?_, by simp⟩
    obtain ⟨fs, g, hfs, _, hl, _⟩ := last_frame hn
    rw [hl]
    have := h g (by rw [hfs]; simp)
    simp
    omega
theorem step_par4 {S : Rt.Src} (hS : Call4 S) {m : Rt.Mc} (h : Par4 m) : Par4 (Rt.stepM S m).1 ∧ (Rt.stepM S m).2.length ≤ 5 ∧ (m.fin = 0 → 0 < (Rt.stepM S m).2.length) := by
  unfold Rt.stepM
  obtain ⟨h1, h2, h3⟩ := perform_par4 (S := S) h (Rt.formAt S.pls m.line) (hS m.line)
  split
  · simp only
    split
    · next hz => exact ⟨h1, h2, fun _ => h3 hz⟩
    · exact ⟨h, by simp, by simp⟩
  · next hz => exact ⟨h, by simp, fun e => absurd e hz⟩
theorem first_par4 (S : Rt.Src) : Par4 (Rt.firstM S) := by
  intro f hf
  simp only [Rt.firstM, List.mem_singleton] at hf
  rw [hf]
  simp [Rt.noFm]
end Go.Proofs.YtbpajiljfppjcaaGreatDoor

