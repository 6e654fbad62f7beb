/- Run, of a right source. -/
import Derived.Test.YtbpajiljfppjcaaGreatDoorFwA
import Derived.Test.YtbpajiljfppjcaaGreatDoorGnB
namespace Go.Proofs.YtbpajiljfppjcaaGreatDoor
namespace Rt
theorem read_nest {s : ByteArray} {pls : List PL} (h : readS s = (0, 0, pls)) : tooLong s = false ∧ (rForms 0 (lines s) [zPL]).1 = 0 ∧ nestFrom ((rForms 0 (lines s) [zPL]).2.drop 1) 1 [] [zPL] = (0, pls, []) ∧ nameErr pls 1 (pls.drop 1) = 0 ∧ (declForm pls mainName).kind = 3 := by
  unfold readS at h
  split at h
  · injection h with h _; omega
  · next h0 =>
    rw [readForms] at h
    split at h
    · injection h with h _; omega
    · next h1 =>
      rw [readNest] at h
      split at h
      · injection h with h _; omega
      · next h2 =>
        split at h
        · injection h with h _; omega
        · next h3 =>
          rw [readNames] at h
          split at h
          · injection h with h _; omega
          · next h4 =>
            split at h
            · injection h with h _; omega
            · next h5 =>
              injection h with _ h
              injection h with _ h
              subst h
              exact ⟨by simpa using h0, by omega, Prod.ext (by simpa using h2) (Prod.ext rfl (Decidable.not_not.mp h3)), Decidable.not_not.mp h4, Decidable.not_not.mp h5⟩
theorem small_z : Small zPL.form := ⟨by simp [zPL], by simp [zPL], by simp [zPL], by simp [zPL], by simp [zPL]⟩
theorem read_small {s : ByteArray} {pls : List PL} (h : readS s = (0, 0, pls)) : (∀ p ∈ pls, Small p.form) ∧ pls.length ≤ 101 ∧ (linksS s).length = pls.length := by
  obtain ⟨h1, h2, h3, _, _⟩ := read_nest h
  obtain ⟨hz, hl⟩ := tooLong_no h1
  obtain ⟨a, b, rest, c⟩ := rForms_facts (lines s) 0 [zPL] (rForms 0 (lines s) [zPL]).2 (lines_facts hz) (fun p hp => by rw [List.mem_singleton.mp hp]; exact small_z) (Prod.ext h2 rfl)
  obtain ⟨d, e⟩ := nest_facts _ 1 [] [zPL] pls [] (fun p hp => by rw [List.mem_singleton.mp hp]; exact small_z) (fun p hp => b p (List.mem_of_mem_drop hp)) h3 (by omega)
  rw [List.length_drop, a] at d
  simp only [List.length_singleton] at d
  refine ⟨e, by omega, ?_⟩
  unfold linksS
  rw [linksOf_len, List.length_drop, a]
  simp only [List.length_singleton]
  omega
theorem noTok_get {pls : List PL} {n : Nat} {p : PL} (h : (pls.map noTok)[n]? = some p) : ∃ q, pls[n]? = some q ∧ p = noTok q := by
  rw [List.getElem?_map] at h
  cases e : pls[n]? with
  | none => rw [e] at h; cases h
  | some q => rw [e] at h; injection h with h; exact ⟨q, rfl, h.symm⟩
theorem read_fwd {s : ByteArray} {pls : List PL} (h : readS s = (0, 0, pls)) : LkFwd (pls.map noTok) (linksS s) := by
  obtain ⟨h1, h2, h3, _, _⟩ := read_nest h
  obtain ⟨hz, hl⟩ := tooLong_no h1
  obtain ⟨a, b, rest, c⟩ := rForms_facts (lines s) 0 [zPL] (rForms 0 (lines s) [zPL]).2 (lines_facts hz) (fun p hp => by rw [List.mem_singleton.mp hp]; exact small_z) (Prod.ext h2 rfl)
  have hf := links_fwd h3 (by rw [List.length_drop, a]; simp only [List.length_singleton]; omega)
  intro n p hn hk
  obtain ⟨q, hq, rfl⟩ := noTok_get hn
  exact hf n q hq hk
end Rt
theorem fit_of {s : ByteArray} {pls : List Rt.PL} (h : Rt.readS s = (0, 0, pls)) : Fit s pls :=
  ⟨(Rt.read_small h).2.2, Rt.read_fwd h, fun p hp => by have := ((Rt.read_small h).1 p hp).cells; omega⟩
end Go.Proofs.YtbpajiljfppjcaaGreatDoor

namespace Go.Proofs.YtbpajiljfppjcaaGreatDoor
open Go.RowKit
attribute [local go_sem ↓] Go.wp_at_zero Go.wp_at_succ

theorem end_any (w : World) (M B : Nat) (ty : TypeId) (tail : List Value) (S : Rt.Src) (m : Rt.Mc) (X : McX) (h : McS w M B ty tail S m X) :
    Calls Tryz.prog 37 #[.pointer (some ⟨M, 0, none⟩)] w fun e w' => e = .returned (.int .i64 m.fin) ∧ w' = w := by
  have c7 := h.c7
  clear h
  go_enter Tryz.func37, Tryz.ntmps37
  go_wp2_with fail
  go_ret
  exact ⟨rfl, rfl⟩
theorem output_any (w : World) (M B : Nat) (ty : TypeId) (tail : List Value) (S : Rt.Src) (m : Rt.Mc) (X : McX) (h : McS w M B ty tail S m X) (hl : m.output.length ≤ 1000) :
    Calls Tryz.prog 39 #[.pointer (some ⟨M, 0, none⟩)] w fun e w' => Below w.heap.size w w' ∧ ∃ v, e = .returned v ∧ w'.ownsRow w.heap.size 3 1 v m.output.length (intsV m.output) := by
  obtain ⟨i0, hi0, hz0, hz1, hz2⟩ := info_parts Tryz.infoIntK
  have c5 := h.c5
  have ho := h.out
  have hsrc : Ints w X.ov m.output := by
    obtain ⟨oa, oc, e⟩ := ownsRow_form ho
    refine ⟨oa, oc, e, ?_⟩
    by_cases hn : m.output = []
    · exact Or.inl hn
    · refine Or.inr ?_
      have hpos : 0 < m.output.length := List.length_pos_iff.mpr hn
      obtain ⟨g, cap, hv, _, _, _⟩ := own_cell ho (j := 0) (u := .int .i64 m.output[0]) (by simp [intsV, hpos])
      refine ⟨g, 0, by rw [e] at hv; injection hv, fun j hj => ?_⟩
      obtain ⟨g', cap', hv', _, _, hc⟩ := own_cell ho (j := j) (u := .int .i64 m.output[j]) (by simp [intsV, hj])
      have e1 : g = g' := by
        have h1 : X.ov.ownBlock = some g := by rw [hv]; rfl
        have h2 : X.ov.ownBlock = some g' := by rw [hv']; rfl
        rw [h1] at h2
        exact Option.some.inj h2
      subst e1
      rw [Nat.zero_add]
      exact hc
  obtain ⟨oa, oc, hov⟩ := ownsRow_form ho
  rw [hov] at c5 hsrc
  have HS := hide hsrc
  clear h ho hsrc hov
  go_enter Tryz.func39, Tryz.ntmps39
  go_wp2_with (at_builtin; refine wpList_append_any _ rfl _ _ 22 22 rfl w.heap.size 3 i0 _ Tryz.underlying22 hi0 hz0 hz1 (by omega) rfl _ 0 [] rfl (World.ownsRow_nil _ _ _ _) _ m.output.length (m.output.map (Value.int .i64)) rfl (unhide HS).src ?c1 ?c2 ?_)
  case c1 => omega
  case c2 => exact Nat.le_refl _
  intro v' w3 hown3 hgrow3
  have hb : Below w.heap.size w w3 := ⟨hgrow3.os, hgrow3.tape, hgrow3.output, hgrow3.size, fun k hk => hgrow3.block k hk (by simp [Value.ownBlock])⟩
  have hown4 : w3.ownsRow w.heap.size 3 1 v' m.output.length (intsV m.output) := hown3
  have HF := hide (And.intro hb hown4)
  clear hb hown3 hown4 hgrow3
  go_wp2_with fail
  go_ret
  exact ⟨(unhide HF).1, _, rfl, (unhide HF).2⟩
end Go.Proofs.YtbpajiljfppjcaaGreatDoor

namespace Go.Proofs.YtbpajiljfppjcaaGreatDoor
open Go.RowKit
attribute [local go_sem ↓] Go.wp_at_zero Go.wp_at_succ

/-- The machine's cells, laid into another block. -/
theorem McS.moved {w w' : World} {M M' B : Nat} {ty ty' : TypeId} {tail tail' : List Value} {S : Rt.Src} {m : Rt.Mc} {X : McX} (h : McS w M B ty tail S m X) (hb : Below w.heap.size w w') (hM : w'.heap[M']? = some (.cells (mcCells X m tail') ty' (0, 0))) (ht : TyOk ty') : McS w' M' B ty' tail' S m X := by
  have h' := h.later hb
  refine ⟨hM, ⟨block_lt hM, ?_, h'.prog.own, h'.prog.lines, h'.prog.links, h'.prog.len⟩, h'.own, h'.fl, h'.vl, ht⟩
  have := cell_of_block hM 0 (by simp [mcCells])
  simpa [mcCells] using this
/-- What a source must be for the machine to run it by this text's walks. -/
structure Flat (S : Rt.Src) : Prop where
  ops : ∀ n, ∀ o ∈ (Rt.formAt S.pls n).values, o.length ≤ 900
  index : ∀ n, (Rt.formAt S.pls n).index.length ≤ 900
  small : ∀ n, Rt.Small (Rt.formAt S.pls n)
  nocall : ∀ n, (Rt.formAt S.pls n).kind ≠ 12
  fwd : LkFwd S.pls S.lk
  mok : Mok S (Rt.firstM S)
/-- What a run keeps to. -/
structure Keep (S : Rt.Src) (m : Rt.Mc) : Prop where
  mok : Mok S m
  one : m.frames.length < 2
  out : m.output.length ≤ 50
theorem len_modify {α : Type} (l : List α) (i : Nat) (f : α → α) : (l.modify i f).length = l.length := by simp
theorem put_keep {S : Rt.Src} {m : Rt.Mc} (h : Keep S m) (s : Rt.Spot) (v : Int) : Keep S (Rt.putS m s v) := by
  unfold Rt.putS
  split
  · split
    · refine ⟨⟨h.mok.pls, h.mok.input, h.mok.frames, by simpa using h.mok.values, h.mok.output, h.mok.params, ?_, h.mok.forms⟩, h.one, h.out⟩
      intro l hl
      obtain ⟨i, hi, rfl⟩ := List.mem_iff_getElem.mp hl
      simp only [List.getElem_modify]
      split
      · rw [List.length_set]; exact h.mok.cells _ (List.getElem_mem _)
      · exact h.mok.cells _ (List.getElem_mem _)
    · refine ⟨⟨h.mok.pls, h.mok.input, by simpa using h.mok.frames, h.mok.values, h.mok.output, ?_, h.mok.cells, h.mok.forms⟩, by simpa using h.one, h.out⟩
      intro l hl
      obtain ⟨i, hi, rfl⟩ := List.mem_iff_getElem.mp hl
      simp only [List.getElem_modify]
      split
      · simp only [List.length_set]; exact h.mok.params _ (List.getElem_mem _)
      · exact h.mok.params _ (List.getElem_mem _)
  · exact h
theorem perform_keep {S : Rt.Src} {m : Rt.Mc} (h : Keep S m) (f : Rt.PForm) (hf : f.kind ≠ 12) : Keep S (Rt.perform S m f).m := by
  have hone := h.one
  unfold Rt.perform
  simp only
  repeat' split
  all_goals first
    | exact h
    | exact put_keep h _ _
    | (exfalso; omega)
    | skip
  · exact ⟨⟨h.mok.pls, h.mok.input, h.mok.frames, h.mok.values, by simp; omega, h.mok.params, h.mok.cells, h.mok.forms⟩, h.one, by simp; omega⟩
  · have := put_keep h (Rt.varS S m f.name) ((S.input[m.taken.toNat]?).getD 0)
    exact ⟨⟨this.mok.pls, this.mok.input, this.mok.frames, this.mok.values, this.mok.output, this.mok.params, this.mok.cells, this.mok.forms⟩, this.one, this.out⟩
theorem step_keep {S : Rt.Src} (hS : Flat S) {m : Rt.Mc} (h : Keep S m) : Keep S (Rt.stepM S m).1 := by
  unfold Rt.stepM
  split
  · simp only
    split
    · have := perform_keep h (Rt.formAt S.pls m.line) (hS.nocall _)
      exact ⟨⟨this.mok.pls, this.mok.input, this.mok.frames, this.mok.values, this.mok.output, this.mok.params, this.mok.cells, this.mok.forms⟩, this.one, this.out⟩
    · exact ⟨⟨h.mok.pls, h.mok.input, h.mok.frames, h.mok.values, h.mok.output, h.mok.params, h.mok.cells, h.mok.forms⟩, h.one, h.out⟩
  · exact h
theorem first_keep {S : Rt.Src} (hS : Flat S) : Keep S (Rt.firstM S) := ⟨hS.mok, by simp [Rt.firstM], by simp [Rt.firstM]⟩
theorem stepM_any (w : World) (M B : Nat) (ty : TypeId) (tail : List Value) (S : Rt.Src) (m : Rt.Mc) (X : McX) (h : McS w M B ty tail S m X) (hS : Flat S) (hk : Keep S m) :
    Calls Tryz.prog 38 #[.pointer (some ⟨M, 0, none⟩)] w (StepP M B ty tail S X m w) :=
  step_flat w M B ty tail S m X h hk.mok (hS.ops _) (hS.index _) (hS.small _) hk.one (hS.nocall _) hS.fwd
theorem run_frame {M B : Nat} {ty : TypeId} {tail : List Value} {S : Rt.Src} {m : Rt.Mc} {X X' : McX} {w w2 wr : World} (hA : Aft M B ty tail S X X' m w2 wr) (h2 : Below w.heap.size w w2) (hM : w.heap.size < M) (hbl : ∀ k ∈ blkX X, w.heap.size ≤ k) : Below w.heap.size w wr :=
  ⟨hA.frm.os.trans h2.os, hA.frm.tape.trans h2.tape, hA.frm.output.trans h2.output, Nat.le_trans h2.size hA.frm.size, fun j hj => (hA.frm.block j (Nat.lt_of_lt_of_le hj h2.size) (fun hm => by
    rcases List.mem_cons.mp hm with rfl | hm
    · omega
    · have := hbl j hm; omega)).trans (h2.block j hj)⟩
abbrev zRes : Array Value := #[.int .i64 0, .int .i64 0, .slice none 0 0]
/-- What Run says of a right source. -/
def RunP (S : Rt.Src) (n : Nat) (w : World) (e : Ending) (w' : World) : Prop :=
  Below w.heap.size w w' ∧ ∃ v, e = .returned (.tuple #[.agg #[.int .i64 (Rt.runM S n (Rt.firstM S)).1.fin, .int .i64 (Rt.runM S n (Rt.firstM S)).2, v], .int .i64 0, .int .i64 0]) ∧ w'.ownsRow w.heap.size 3 1 v (Rt.runM S n (Rt.firstM S)).1.output.length (intsV (Rt.runM S n (Rt.firstM S)).1.output)
set_option maxHeartbeats 1000000 in
set_option maxRecDepth 100000 in
theorem run_flat (s : ByteArray) (iv : Value) (inp : List Int) (fuel : Nat) (w : World) (pls : List Rt.PL) (hs : s.size ≤ maxLen) (hi : Ints w iv inp) (hR : Rt.readS s = (0, 0, pls)) (hfit : Fit s pls) (hl : inp.length ≤ 100) (hfu : fuel ≤ 1000) (hS : Flat (srcOf s pls inp)) :
    Calls Tryz.prog 13 #[.string s, iv, .int .i64 fuel] w (RunP (srcOf s pls inp) fuel w) := by
  have HI := hide hi
  obtain ⟨iad, icap, rfl, _⟩ := hi
  go_enter Tryz.func13, Tryz.ntmps13
  go_wp2_with fail
  have hb0 := (Below.refl w.heap.size w).alloc (Nat.le_refl _) (.cells zRes 29)
  refine (new_any s _ inp _ hs ((unhide HI).later hb0) (fun p hp => by rw [hR] at hp; injection hp with _ hp; injection hp with _ hp; rw [← hp]; exact hfit)).mono ?_
  rintro e w1 ⟨hb1, hcase⟩
  have hB1 : Below w.heap.size w w1 := hb0.trans (hb1.mono (by simp))
  have bR1 := block_later (heap_alloc_new w (.cells zRes 29)) hb1
  rcases hcase with ⟨hlt, _⟩ | ⟨_, er, ln, pls', hR', hc⟩
  · exact absurd hlt (by omega)
  rw [hR] at hR'
  injection hR' with e1 hR'
  injection hR' with e2 e3
  subst e1 e2 e3
  rcases hc with ⟨h0, _⟩ | ⟨_, _, hlen, M0, X, rfl, hM0, hblk, hmc⟩
  · exact absurd rfl h0
  have hkeep := first_keep hS
  obtain ⟨la, lc, ia, ic, fa, fc, va, vc, oa, oc, q1, q2, q3, q4, q5⟩ := hmc.shape
  generalize hm0 : Rt.firstM (srcOf s pls inp) = m0 at *
  have hcells : mcCells X m0 [] = #[.slice la pls.length lc, .slice ia inp.length ic, .slice fa m0.frames.length fc, .slice va m0.values.length vc, .int .i64 m0.taken, .slice oa m0.output.length oc, .int .i64 m0.line, .int .i64 m0.fin] := by
    simp only [mcCells, q1, q2, q3, q4, q5, srcOf, List.length_map]
    rfl
  rw [hcells]
  have hb2 := (Below.refl w1.heap.size w1).alloc (Nat.le_refl _) (.cells (mcCells X m0 []) 80)
  have hm2 := hmc.moved hb2 (heap_alloc_new w1 (.cells (mcCells X m0 []) 80)) (by unfold TyOk; decide)
  rw [hcells] at hb2 hm2
  have H2 := hide (And.intro hm2 (And.intro (hB1.trans (hb2.mono (B' := w.heap.size) hB1.size)) (block_later bR1 hb2)))
  have HBL := hide (fun k hk => Nat.le_trans (show w.heap.size ≤ _ by simp) (hblk k hk))
  have hRlt := block_lt bR1
  have hfu0 : ¬ (fuel : Int) < 0 := by omega
  have hfu1 : ¬ (1000 : Int) < (fuel : Int) := by omega
  have HK := hide hkeep
  have HS := hide hS
  have HM0 := hide hm0
  clear hmc hm2 hb2 hcells q1 q2 q3 q4 q5 hb0 hb1 hB1 bR1 hkeep hblk hR hfit hm0 hS
  go_wp2_with fail
  generalize (srcOf s pls inp) = S at *
  generalize (w1.alloc (.cells #[.slice la pls.length lc, .slice ia inp.length ic, .slice fa m0.frames.length fc, .slice va m0.values.length vc, .int .i64 m0.taken, .slice oa m0.output.length oc, .int .i64 m0.line, .int .i64 m0.fin] 80)) = w2 at *
  have hw2 : w1.heap.size < w2.heap.size := block_lt (unhide H2).1.block
  generalize w1.heap.size = M at *
  generalize (w.alloc (.cells zRes 29)).heap.size = B at *
  go_loopw [12] (fun i wr => ∃ (k : Nat) (m : Rt.Mc) (X' : McX), k ≤ fuel ∧ i = .int .i64 k ∧ Aft M B 80 [] S X X' m w2 wr ∧ Keep S m ∧ Rt.runM S fuel m0 = ((Rt.runM S (fuel - k) m).1, (Rt.runM S (fuel - k) m).2 + k))
    (fun i _ => fuel + 1 - (intOf i).toNat)
  case atStart => exact ⟨0, m0, X, Nat.zero_le _, rfl, Aft.start (unhide H2).1 (Below.refl _ _), unhide HK, rfl⟩
  case round =>
    obtain ⟨k, m, X', hk, rfl, hA, hkm, hrun⟩ := hrel
    have HA := hide hA
    have HKM := hide hkm
    have HRUN := hide hrun
    clear hA hkm hrun
    by_cases hlt : k < fuel
    · have hlt' : (k : Int) < (fuel : Int) := by omega
      by_cases hz : m.fin = 0
      · have hz' : (m.fin == 0) = true := by simpa using hz
        go_wp2_with fail
        refine (end_any _ M B _ _ S m X' (unhide HA).mc).mono ?_
        rintro e w3 ⟨rfl, rfl⟩
        go_wp2_with fail
        refine (stepM_any _ M B _ _ S m X' (unhide HA).mc (unhide HS) (unhide HKM)).mono ?_
        rintro e w4 ⟨rv, X'', rfl, hA4, _⟩
        have hA5 := (unhide HA).more hA4.mc hA4.frm hA4.grow
        have HF := hide (And.intro hA5 (step_keep (unhide HS) (unhide HKM)))
        have HN := hide (show Rt.runM S fuel m0 = ((Rt.runM S (fuel - (k + 1)) (Rt.stepM S m).1).1, (Rt.runM S (fuel - (k + 1)) (Rt.stepM S m).1).2 + (k + 1)) by
          rw [unhide HRUN, show fuel - k = (fuel - (k + 1)) + 1 by omega, Rt.runM, if_pos hz]
          simp only [Prod.mk.injEq, true_and]
          omega)
        clear hA4 hA5
        go_wp2_with fail
        go_roundw
        case rel => exact ⟨k + 1, _, _, by omega, by go_num, (unhide HF).1, (unhide HF).2, unhide HN⟩
        case measure => simp [intOf]; omega
      · have hz' : (m.fin == 0) = false := by simpa using hz
        have HE := hide (show Rt.runM S fuel m0 = (m, k) by
          rw [unhide HRUN, show fuel - k = (fuel - k - 1) + 1 by omega, Rt.runM, if_neg hz]
          simp)
        go_wp2_with fail
        refine (end_any _ M B _ _ S m X' (unhide HA).mc).mono ?_
        rintro e w3 ⟨rfl, rfl⟩
        go_wp2_with fail
        refine (output_any _ M B _ _ S m X' (unhide HA).mc (Nat.le_trans (unhide HKM).out (by omega))).mono ?_
        rintro e w5 ⟨hb5, v, rfl, hown5⟩
        have hB := run_frame (unhide HA) (unhide H2).2.1 hRlt (unhide HBL)
        have bR := block_later (Aft.keeps (unhide H2).1 (unhide HA) (unhide H2).2.2 (by omega) (by decide)) hb5
        have hmc5 := (unhide HA).mc.later hb5
        have hB5 := hB.trans (hb5.mono (B' := w.heap.size) hB.size)
        have hown6 := ownsRow_mono hown5 hB.size
        obtain ⟨ad, cap, rfl⟩ := ownsRow_form hown5
        obtain ⟨r0, r1, r2⟩ := three_cells bR
        have z := free_of_block bR
        have HF : Hid (∀ a b c, Below w.heap.size w (W3 w5 w.heap.size a b c) ∧ (W3 w5 w.heap.size a b c).ownsRow w.heap.size 3 1 (.slice ad m.output.length cap) m.output.length (intsV m.output)) := hide (fun a b c => ⟨below_one (below_one (below_one hB5 (Nat.le_refl _) _ _) (Nat.le_refl _) _ _) (Nat.le_refl _) _ _, own_same hown6 (fun g hg => W3_other _ _ _ _ _ _ (by have := (hown5.lt g hg).1; have := (unhide HA).frm.size; omega))⟩)
        have HM5 := hide hmc5
        clear hown5 hown6 hB hB5 bR hmc5 hb5
        go_wp2_with fail
        refine (end_any _ M B _ _ S m X' (unhide HM5)).mono ?_
        rintro e w6 ⟨rfl, rfl⟩
        go_wp2_with fail
        refine bodyPost_ret (v := .tuple #[.agg #[.int .i64 m.fin, .int .i64 k, .slice ad m.output.length cap], .int .i64 0, .int .i64 0]) ?_ rfl ⟨(unhide HF _ _ _).1, .slice ad m.output.length cap, by rw [unhide HM0, unhide HE], by rw [unhide HM0, unhide HE]; exact (unhide HF _ _ _).2⟩
        simp [results, Tryz.results13, go_sem, r0, r1, r2]
    · have hlt' : ¬ (k : Int) < (fuel : Int) := by omega
      have HE := hide (show Rt.runM S fuel m0 = (m, k) by
          rw [unhide HRUN, show fuel - k = 0 by omega, Rt.runM]
          simp)
      go_wp2_with fail
      refine (output_any _ M B _ _ S m X' (unhide HA).mc (Nat.le_trans (unhide HKM).out (by omega))).mono ?_
      rintro e w5 ⟨hb5, v, rfl, hown5⟩
      have hB := run_frame (unhide HA) (unhide H2).2.1 hRlt (unhide HBL)
      have bR := block_later (Aft.keeps (unhide H2).1 (unhide HA) (unhide H2).2.2 (by omega) (by decide)) hb5
      have hmc5 := (unhide HA).mc.later hb5
      have hB5 := hB.trans (hb5.mono (B' := w.heap.size) hB.size)
      have hown6 := ownsRow_mono hown5 hB.size
      obtain ⟨ad, cap, rfl⟩ := ownsRow_form hown5
      obtain ⟨r0, r1, r2⟩ := three_cells bR
      have z := free_of_block bR
      have HF : Hid (∀ a b c, Below w.heap.size w (W3 w5 w.heap.size a b c) ∧ (W3 w5 w.heap.size a b c).ownsRow w.heap.size 3 1 (.slice ad m.output.length cap) m.output.length (intsV m.output)) := hide (fun a b c => ⟨below_one (below_one (below_one hB5 (Nat.le_refl _) _ _) (Nat.le_refl _) _ _) (Nat.le_refl _) _ _, own_same hown6 (fun g hg => W3_other _ _ _ _ _ _ (by have := (hown5.lt g hg).1; have := (unhide HA).frm.size; omega))⟩)
      have HM5 := hide hmc5
      clear hown5 hown6 hB hB5 bR hmc5 hb5
      go_wp2_with fail
      refine (end_any _ M B _ _ S m X' (unhide HM5)).mono ?_
      rintro e w6 ⟨rfl, rfl⟩
      go_wp2_with fail
      refine bodyPost_ret (v := .tuple #[.agg #[.int .i64 m.fin, .int .i64 k, .slice ad m.output.length cap], .int .i64 0, .int .i64 0]) ?_ rfl ⟨(unhide HF _ _ _).1, .slice ad m.output.length cap, by rw [unhide HM0, unhide HE], by rw [unhide HM0, unhide HE]; exact (unhide HF _ _ _).2⟩
      simp [results, Tryz.results13, go_sem, r0, r1, r2]
end Go.Proofs.YtbpajiljfppjcaaGreatDoor

namespace Go.Proofs.YtbpajiljfppjcaaGreatDoor
open Go.RowKit
attribute [local go_sem ↓] Go.wp_at_zero Go.wp_at_succ

theorem form_case (P : List Rt.PL) (n : Int) : Rt.formAt P n = Rt.zF ∨ ∃ p ∈ P, Rt.formAt P n = p.form := by
  unfold Rt.formAt
  split
  · exact Or.inl rfl
  · cases e : P[n.toNat]? with
    | none => exact Or.inl rfl
    | some p => exact Or.inr ⟨p, List.mem_of_getElem? e, rfl⟩
theorem good_of {s : ByteArray} {pls : List Rt.PL} {inp : List Int} (h : Rt.readS s = (0, 0, pls)) (hl : inp.length ≤ 100) : Good (srcOf s pls inp) := by
  obtain ⟨h1, h2, _⟩ := Rt.read_small h
  have hsm : ∀ p ∈ (srcOf s pls inp).pls, Rt.Small p.form := fun p hp => by
    obtain ⟨q, hq, rfl⟩ := List.mem_map.mp hp
    exact h1 q hq
  refine ⟨fun n => ?_, Rt.read_fwd h, ?_⟩
  · rcases form_case (srcOf s pls inp).pls n with e | ⟨p, hp, e⟩
    · rw [e]; exact Rt.small_z
    · rw [e]; exact hsm p hp
  · refine ⟨by simpa [srcOf] using h2, hl, by simp [Rt.firstM], by simpa [Rt.firstM, srcOf] using h2, by simp [Rt.firstM], ?_, ?_, hsm⟩
    · intro f hf
      simp only [Rt.firstM, List.mem_singleton] at hf
      rw [hf]
      simp [Rt.noFm]
    · intro l hl2
      simp only [Rt.firstM, List.mem_map] at hl2
      obtain ⟨p, hp, rfl⟩ := hl2
      have := (hsm p hp).cells
      unfold Rt.zerosI
      rw [List.length_replicate]
      split <;> omega
set_option maxHeartbeats 1000000 in
set_option maxRecDepth 100000 in
theorem run_right (s : ByteArray) (iv : Value) (inp : List Int) (fuel : Nat) (w : World) (pls : List Rt.PL) (hs : s.size ≤ maxLen) (hi : Ints w iv inp) (hR : Rt.readS s = (0, 0, pls)) (hl : inp.length ≤ 100) (hfu : fuel ≤ 1000) :
    Calls Tryz.prog 13 #[.string s, iv, .int .i64 fuel] w (RunP (srcOf s pls inp) fuel w) := by
  have hfit := fit_of hR
  have hS := good_of hR hl
  have HI := hide hi
  obtain ⟨iad, icap, rfl, _⟩ := hi
  go_enter Tryz.func13, Tryz.ntmps13
  go_wp2_with fail
  have hb0 := (Below.refl w.heap.size w).alloc (Nat.le_refl _) (.cells zRes 29)
  refine (new_any s _ inp _ hs ((unhide HI).later hb0) (fun p hp => by rw [hR] at hp; injection hp with _ hp; injection hp with _ hp; rw [← hp]; exact hfit)).mono ?_
  rintro e w1 ⟨hb1, hcase⟩
  have hB1 : Below w.heap.size w w1 := hb0.trans (hb1.mono (by simp))
  have bR1 := block_later (heap_alloc_new w (.cells zRes 29)) hb1
  rcases hcase with ⟨hlt, _⟩ | ⟨_, er, ln, pls', hR', hc⟩
  · exact absurd hlt (by omega)
  rw [hR] at hR'
  injection hR' with e1 hR'
  injection hR' with e2 e3
  subst e1 e2 e3
  rcases hc with ⟨h0, _⟩ | ⟨_, _, hlen, M0, X, rfl, hM0, hblk, hmc⟩
  · exact absurd rfl h0
  have hkeep := first_keepG hS
  obtain ⟨la, lc, ia, ic, fa, fc, va, vc, oa, oc, q1, q2, q3, q4, q5⟩ := hmc.shape
  generalize hm0 : Rt.firstM (srcOf s pls inp) = m0 at *
  have hcells : mcCells X m0 [] = #[.slice la pls.length lc, .slice ia inp.length ic, .slice fa m0.frames.length fc, .slice va m0.values.length vc, .int .i64 m0.taken, .slice oa m0.output.length oc, .int .i64 m0.line, .int .i64 m0.fin] := by
    simp only [mcCells, q1, q2, q3, q4, q5, srcOf, List.length_map]
    rfl
  rw [hcells]
  have hb2 := (Below.refl w1.heap.size w1).alloc (Nat.le_refl _) (.cells (mcCells X m0 []) 80)
  have hm2 := hmc.moved hb2 (heap_alloc_new w1 (.cells (mcCells X m0 []) 80)) (by unfold TyOk; decide)
  rw [hcells] at hb2 hm2
  have H2 := hide (And.intro hm2 (And.intro (hB1.trans (hb2.mono (B' := w.heap.size) hB1.size)) (block_later bR1 hb2)))
  have HBL := hide (fun k hk => Nat.le_trans (show w.heap.size ≤ _ by simp) (hblk k hk))
  have hRlt := block_lt bR1
  have hfu0 : ¬ (fuel : Int) < 0 := by omega
  have hfu1 : ¬ (1000 : Int) < (fuel : Int) := by omega
  have HK := hide hkeep
  have HS := hide hS
  have HM0 := hide hm0
  clear hmc hm2 hb2 hcells q1 q2 q3 q4 q5 hb0 hb1 hB1 bR1 hkeep hblk hR hfit hm0 hS
  go_wp2_with fail
  generalize (srcOf s pls inp) = S at *
  generalize (w1.alloc (.cells #[.slice la pls.length lc, .slice ia inp.length ic, .slice fa m0.frames.length fc, .slice va m0.values.length vc, .int .i64 m0.taken, .slice oa m0.output.length oc, .int .i64 m0.line, .int .i64 m0.fin] 80)) = w2 at *
  have hw2 : w1.heap.size < w2.heap.size := block_lt (unhide H2).1.block
  generalize w1.heap.size = M at *
  generalize (w.alloc (.cells zRes 29)).heap.size = B at *
  go_loopw [12] (fun i wr => ∃ (k : Nat) (m : Rt.Mc) (X' : McX), k ≤ fuel ∧ i = .int .i64 k ∧ Aft M B 80 [] S X X' m w2 wr ∧ KeepG S m ∧ Rt.runM S fuel m0 = ((Rt.runM S (fuel - k) m).1, (Rt.runM S (fuel - k) m).2 + k))
    (fun i _ => fuel + 1 - (intOf i).toNat)
  case atStart => exact ⟨0, m0, X, Nat.zero_le _, rfl, Aft.start (unhide H2).1 (Below.refl _ _), unhide HK, rfl⟩
  case round =>
    obtain ⟨k, m, X', hk, rfl, hA, hkm, hrun⟩ := hrel
    have HA := hide hA
    have HKM := hide hkm
    have HRUN := hide hrun
    clear hA hkm hrun
    by_cases hlt : k < fuel
    · have hlt' : (k : Int) < (fuel : Int) := by omega
      by_cases hz : m.fin = 0
      · have hz' : (m.fin == 0) = true := by simpa using hz
        go_wp2_with fail
        refine (end_any _ M B _ _ S m X' (unhide HA).mc).mono ?_
        rintro e w3 ⟨rfl, rfl⟩
        go_wp2_with fail
        refine (step_any _ M B _ _ S m X' (unhide HA).mc (unhide HKM).mok ((unhide HS).small _) (unhide HS).fwd).mono ?_
        rintro e w4 ⟨rv, X'', rfl, hA4, _⟩
        have hA5 := (unhide HA).more hA4.mc hA4.frm hA4.grow
        have HF := hide (And.intro hA5 (step_keepG (unhide HS) (unhide HKM)))
        have HN := hide (show Rt.runM S fuel m0 = ((Rt.runM S (fuel - (k + 1)) (Rt.stepM S m).1).1, (Rt.runM S (fuel - (k + 1)) (Rt.stepM S m).1).2 + (k + 1)) by
          rw [unhide HRUN, show fuel - k = (fuel - (k + 1)) + 1 by omega, Rt.runM, if_pos hz]
          simp only [Prod.mk.injEq, true_and]
          omega)
        clear hA4 hA5
        go_wp2_with fail
        go_roundw
        case rel => exact ⟨k + 1, _, _, by omega, by go_num, (unhide HF).1, (unhide HF).2, unhide HN⟩
        case measure => simp [intOf]; omega
      · have hz' : (m.fin == 0) = false := by simpa using hz
        have HE := hide (show Rt.runM S fuel m0 = (m, k) by
          rw [unhide HRUN, show fuel - k = (fuel - k - 1) + 1 by omega, Rt.runM, if_neg hz]
          simp)
        go_wp2_with fail
        refine (end_any _ M B _ _ S m X' (unhide HA).mc).mono ?_
        rintro e w3 ⟨rfl, rfl⟩
        go_wp2_with fail
        refine (output_any _ M B _ _ S m X' (unhide HA).mc (Nat.le_trans (unhide HKM).out (by omega))).mono ?_
        rintro e w5 ⟨hb5, v, rfl, hown5⟩
        have hB := run_frame (unhide HA) (unhide H2).2.1 hRlt (unhide HBL)
        have bR := block_later (Aft.keeps (unhide H2).1 (unhide HA) (unhide H2).2.2 (by omega) (by decide)) hb5
        have hmc5 := (unhide HA).mc.later hb5
        have hB5 := hB.trans (hb5.mono (B' := w.heap.size) hB.size)
        have hown6 := ownsRow_mono hown5 hB.size
        obtain ⟨ad, cap, rfl⟩ := ownsRow_form hown5
        obtain ⟨r0, r1, r2⟩ := three_cells bR
        have z := free_of_block bR
        have HF : Hid (∀ a b c, Below w.heap.size w (W3 w5 w.heap.size a b c) ∧ (W3 w5 w.heap.size a b c).ownsRow w.heap.size 3 1 (.slice ad m.output.length cap) m.output.length (intsV m.output)) := hide (fun a b c => ⟨below_one (below_one (below_one hB5 (Nat.le_refl _) _ _) (Nat.le_refl _) _ _) (Nat.le_refl _) _ _, own_same hown6 (fun g hg => W3_other _ _ _ _ _ _ (by have := (hown5.lt g hg).1; have := (unhide HA).frm.size; omega))⟩)
        have HM5 := hide hmc5
        clear hown5 hown6 hB hB5 bR hmc5 hb5
        go_wp2_with fail
        refine (end_any _ M B _ _ S m X' (unhide HM5)).mono ?_
        rintro e w6 ⟨rfl, rfl⟩
        go_wp2_with fail
        refine bodyPost_ret (v := .tuple #[.agg #[.int .i64 m.fin, .int .i64 k, .slice ad m.output.length cap], .int .i64 0, .int .i64 0]) ?_ rfl ⟨(unhide HF _ _ _).1, .slice ad m.output.length cap, by rw [unhide HM0, unhide HE], by rw [unhide HM0, unhide HE]; exact (unhide HF _ _ _).2⟩
        simp [results, Tryz.results13, go_sem, r0, r1, r2]
    · have hlt' : ¬ (k : Int) < (fuel : Int) := by omega
      have HE := hide (show Rt.runM S fuel m0 = (m, k) by
          rw [unhide HRUN, show fuel - k = 0 by omega, Rt.runM]
          simp)
      go_wp2_with fail
      refine (output_any _ M B _ _ S m X' (unhide HA).mc (Nat.le_trans (unhide HKM).out (by omega))).mono ?_
      rintro e w5 ⟨hb5, v, rfl, hown5⟩
      have hB := run_frame (unhide HA) (unhide H2).2.1 hRlt (unhide HBL)
      have bR := block_later (Aft.keeps (unhide H2).1 (unhide HA) (unhide H2).2.2 (by omega) (by decide)) hb5
      have hmc5 := (unhide HA).mc.later hb5
      have hB5 := hB.trans (hb5.mono (B' := w.heap.size) hB.size)
      have hown6 := ownsRow_mono hown5 hB.size
      obtain ⟨ad, cap, rfl⟩ := ownsRow_form hown5
      obtain ⟨r0, r1, r2⟩ := three_cells bR
      have z := free_of_block bR
      have HF : Hid (∀ a b c, Below w.heap.size w (W3 w5 w.heap.size a b c) ∧ (W3 w5 w.heap.size a b c).ownsRow w.heap.size 3 1 (.slice ad m.output.length cap) m.output.length (intsV m.output)) := hide (fun a b c => ⟨below_one (below_one (below_one hB5 (Nat.le_refl _) _ _) (Nat.le_refl _) _ _) (Nat.le_refl _) _ _, own_same hown6 (fun g hg => W3_other _ _ _ _ _ _ (by have := (hown5.lt g hg).1; have := (unhide HA).frm.size; omega))⟩)
      have HM5 := hide hmc5
      clear hown5 hown6 hB hB5 bR hmc5 hb5
      go_wp2_with fail
      refine (end_any _ M B _ _ S m X' (unhide HM5)).mono ?_
      rintro e w6 ⟨rfl, rfl⟩
      go_wp2_with fail
      refine bodyPost_ret (v := .tuple #[.agg #[.int .i64 m.fin, .int .i64 k, .slice ad m.output.length cap], .int .i64 0, .int .i64 0]) ?_ rfl ⟨(unhide HF _ _ _).1, .slice ad m.output.length cap, by rw [unhide HM0, unhide HE], by rw [unhide HM0, unhide HE]; exact (unhide HF _ _ _).2⟩
      simp [results, Tryz.results13, go_sem, r0, r1, r2]
end Go.Proofs.YtbpajiljfppjcaaGreatDoor

