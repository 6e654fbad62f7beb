/- The journal: plain; where it lies. -/
import Derived.Test.YtbpajiljfppjcaaGreatDoorGnB
import Derived.Test.YtbpajiljfppjcaaGreatDoorRnB
import Derived.Test.YtbpajiljfppjcaaGreatDoorMcO
import Derived.Laws.OwnMore
namespace Go.Proofs.YtbpajiljfppjcaaGreatDoor
open Go.RowKit
attribute [local go_sem ↓] Go.wp_at_zero Go.wp_at_succ

theorem form_case (P : List Rt.PL) (n : Int) : Rt.formAt P n = Rt.zF ∨ ∃ p ∈ P, Rt.formAt P n = p.form := by
  unfold Rt.formAt
  split
  · exact Or.inl rfl
  · cases e : P[n.toNat]? with
    | none => exact Or.inl rfl
    | some p => exact Or.inr ⟨p, List.mem_of_getElem? e, rfl⟩
theorem good_of {s : ByteArray} {pls : List Rt.PL} {inp : List Int} (h : Rt.readS s = (0, 0, pls)) (hl : inp.length ≤ 100) : Good (srcOf s pls inp) := by
  obtain ⟨h1, h2, _⟩ := Rt.read_small h
  have hsm : ∀ p ∈ (srcOf s pls inp).pls, Rt.Small p.form := fun p hp => by
    obtain ⟨q, hq, rfl⟩ := List.mem_map.mp hp
    exact h1 q hq
  refine ⟨fun n => ?_, Rt.read_fwd h, ?_⟩
  · rcases form_case (srcOf s pls inp).pls n with e | ⟨p, hp, e⟩
    · rw [e]; exact Rt.small_z
    · rw [e]; exact hsm p hp
  · refine ⟨by simpa [srcOf] using h2, hl, by simp [Rt.firstM], by simpa [Rt.firstM, srcOf] using h2, by simp [Rt.firstM], ?_, ?_, hsm⟩
    · intro f hf
      simp only [Rt.firstM, List.mem_singleton] at hf
      rw [hf]
      simp [Rt.noFm]
    · intro l hl2
      simp only [Rt.firstM, List.mem_map] at hl2
      obtain ⟨p, hp, rfl⟩ := hl2
      have := (hsm p hp).cells
      unfold Rt.zerosI
      rw [List.length_replicate]
      split <;> omega
set_option maxHeartbeats 1000000 in
set_option maxRecDepth 100000 in
theorem run_right (s : ByteArray) (iv : Value) (inp : List Int) (fuel : Nat) (w : World) (pls : List Rt.PL) (hs : s.size ≤ maxLen) (hi : Ints w iv inp) (hR : Rt.readS s = (0, 0, pls)) (hl : inp.length ≤ 100) (hfu : fuel ≤ 1000) :
    Calls Tryz.prog 13 #[.string s, iv, .int .i64 fuel] w (RunP (srcOf s pls inp) fuel w) := by
  have hfit := fit_of hR
  have hS := good_of hR hl
  have HI := hide hi
  obtain ⟨iad, icap, rfl, _⟩ := hi
  go_enter Tryz.func13, Tryz.ntmps13
  go_wp2_with fail
  have hb0 := (Below.refl w.heap.size w).alloc (Nat.le_refl _) (.cells zRes 29)
  refine (new_any s _ inp _ hs ((unhide HI).later hb0) (fun p hp => by rw [hR] at hp; injection hp with _ hp; injection hp with _ hp; rw [← hp]; exact hfit)).mono ?_
  rintro e w1 ⟨hb1, hcase⟩
  have hB1 : Below w.heap.size w w1 := hb0.trans (hb1.mono (by simp))
  have bR1 := block_later (heap_alloc_new w (.cells zRes 29)) hb1
  rcases hcase with ⟨hlt, _⟩ | ⟨_, er, ln, pls', hR', hc⟩
  · exact absurd hlt (by omega)
  rw [hR] at hR'
  injection hR' with e1 hR'
  injection hR' with e2 e3
  subst e1 e2 e3
  rcases hc with ⟨h0, _⟩ | ⟨_, _, hlen, M0, X, rfl, hM0, hblk, hmc⟩
  · exact absurd rfl h0
  have hkeep := first_keepG hS
  obtain ⟨la, lc, ia, ic, fa, fc, va, vc, oa, oc, q1, q2, q3, q4, q5⟩ := hmc.shape
  generalize hm0 : Rt.firstM (srcOf s pls inp) = m0 at *
  have hcells : mcCells X m0 [] = #[.slice la pls.length lc, .slice ia inp.length ic, .slice fa m0.frames.length fc, .slice va m0.values.length vc, .int .i64 m0.taken, .slice oa m0.output.length oc, .int .i64 m0.line, .int .i64 m0.fin] := by
    simp only [mcCells, q1, q2, q3, q4, q5, srcOf, List.length_map]
    rfl
  rw [hcells]
  have hb2 := (Below.refl w1.heap.size w1).alloc (Nat.le_refl _) (.cells (mcCells X m0 []) 80)
  have hm2 := hmc.moved hb2 (heap_alloc_new w1 (.cells (mcCells X m0 []) 80)) (by unfold TyOk; decide)
  rw [hcells] at hb2 hm2
  have H2 := hide (And.intro hm2 (And.intro (hB1.trans (hb2.mono (B' := w.heap.size) hB1.size)) (block_later bR1 hb2)))
  have HBL := hide (fun k hk => Nat.le_trans (show w.heap.size ≤ _ by simp) (hblk k hk))
  have hRlt := block_lt bR1
  have hfu0 : ¬ (fuel : Int) < 0 := by omega
  have hfu1 : ¬ (1000 : Int) < (fuel : Int) := by omega
  have HK := hide hkeep
  have HS := hide hS
  have HM0 := hide hm0
  clear hmc hm2 hb2 hcells q1 q2 q3 q4 q5 hb0 hb1 hB1 bR1 hkeep hblk hR hfit hm0 hS
  go_wp2_with fail
  generalize (srcOf s pls inp) = S at *
  generalize (w1.alloc (.cells #[.slice la pls.length lc, .slice ia inp.length ic, .slice fa m0.frames.length fc, .slice va m0.values.length vc, .int .i64 m0.taken, .slice oa m0.output.length oc, .int .i64 m0.line, .int .i64 m0.fin] 80)) = w2 at *
  have hw2 : w1.heap.size < w2.heap.size := block_lt (unhide H2).1.block
  generalize w1.heap.size = M at *
  generalize (w.alloc (.cells zRes 29)).heap.size = B at *
  go_loopw [12] (fun i wr => ∃ (k : Nat) (m : Rt.Mc) (X' : McX), k ≤ fuel ∧ i = .int .i64 k ∧ Aft M B 80 [] S X X' m w2 wr ∧ KeepG S m ∧ Rt.runM S fuel m0 = ((Rt.runM S (fuel - k) m).1, (Rt.runM S (fuel - k) m).2 + k))
    (fun i _ => fuel + 1 - (intOf i).toNat)
  case atStart => exact ⟨0, m0, X, Nat.zero_le _, rfl, Aft.start (unhide H2).1 (Below.refl _ _), unhide HK, rfl⟩
  case round =>
    obtain ⟨k, m, X', hk, rfl, hA, hkm, hrun⟩ := hrel
    have HA := hide hA
    have HKM := hide hkm
    have HRUN := hide hrun
    clear hA hkm hrun
    by_cases hlt : k < fuel
    · have hlt' : (k : Int) < (fuel : Int) := by omega
      by_cases hz : m.fin = 0
      · have hz' : (m.fin == 0) = true := by simpa using hz
        go_wp2_with fail
        refine (end_any _ M B _ _ S m X' (unhide HA).mc).mono ?_
        rintro e w3 ⟨rfl, rfl⟩
        go_wp2_with fail
        refine (step_any _ M B _ _ S m X' (unhide HA).mc (unhide HKM).mok ((unhide HS).small _) (unhide HS).fwd).mono ?_
        rintro e w4 ⟨rv, X'', rfl, hA4, _⟩
        have hA5 := (unhide HA).more hA4.mc hA4.frm hA4.grow
        have HF := hide (And.intro hA5 (step_keepG (unhide HS) (unhide HKM)))
        have HN := hide (show Rt.runM S fuel m0 = ((Rt.runM S (fuel - (k + 1)) (Rt.stepM S m).1).1, (Rt.runM S (fuel - (k + 1)) (Rt.stepM S m).1).2 + (k + 1)) by
          rw [unhide HRUN, show fuel - k = (fuel - (k + 1)) + 1 by omega, Rt.runM, if_pos hz]
          simp only [Prod.mk.injEq, true_and]
          omega)
        clear hA4 hA5
        go_wp2_with fail
        go_roundw
        case rel => exact ⟨k + 1, _, _, by omega, by go_num, (unhide HF).1, (unhide HF).2, unhide HN⟩
        case measure => simp [intOf]; omega
      · have hz' : (m.fin == 0) = false := by simpa using hz
        have HE := hide (show Rt.runM S fuel m0 = (m, k) by
          rw [unhide HRUN, show fuel - k = (fuel - k - 1) + 1 by omega, Rt.runM, if_neg hz]
          simp)
        go_wp2_with fail
        refine (end_any _ M B _ _ S m X' (unhide HA).mc).mono ?_
        rintro e w3 ⟨rfl, rfl⟩
        go_wp2_with fail
        refine (output_any _ M B _ _ S m X' (unhide HA).mc (Nat.le_trans (unhide HKM).out (by omega))).mono ?_
        rintro e w5 ⟨hb5, v, rfl, hown5⟩
        have hB := run_frame (unhide HA) (unhide H2).2.1 hRlt (unhide HBL)
        have bR := block_later (Aft.keeps (unhide H2).1 (unhide HA) (unhide H2).2.2 (by omega) (by decide)) hb5
        have hmc5 := (unhide HA).mc.later hb5
        have hB5 := hB.trans (hb5.mono (B' := w.heap.size) hB.size)
        have hown6 := ownsRow_mono hown5 hB.size
        obtain ⟨ad, cap, rfl⟩ := ownsRow_form hown5
        obtain ⟨r0, r1, r2⟩ := three_cells bR
        have z := free_of_block bR
        have HF : Hid (∀ a b c, Below w.heap.size w (W3 w5 w.heap.size a b c) ∧ (W3 w5 w.heap.size a b c).ownsRow w.heap.size 3 1 (.slice ad m.output.length cap) m.output.length (intsV m.output)) := hide (fun a b c => ⟨below_one (below_one (below_one hB5 (Nat.le_refl _) _ _) (Nat.le_refl _) _ _) (Nat.le_refl _) _ _, own_same hown6 (fun g hg => W3_other _ _ _ _ _ _ (by have := (hown5.lt g hg).1; have := (unhide HA).frm.size; omega))⟩)
        have HM5 := hide hmc5
        clear hown5 hown6 hB hB5 bR hmc5 hb5
        go_wp2_with fail
        refine (end_any _ M B _ _ S m X' (unhide HM5)).mono ?_
        rintro e w6 ⟨rfl, rfl⟩
        go_wp2_with fail
        refine bodyPost_ret (v := .tuple #[.agg #[.int .i64 m.fin, .int .i64 k, .slice ad m.output.length cap], .int .i64 0, .int .i64 0]) ?_ rfl ⟨(unhide HF _ _ _).1, .slice ad m.output.length cap, by rw [unhide HM0, unhide HE], by rw [unhide HM0, unhide HE]; exact (unhide HF _ _ _).2⟩
        simp [results, Tryz.results13, go_sem, r0, r1, r2]
    · have hlt' : ¬ (k : Int) < (fuel : Int) := by omega
      have HE := hide (show Rt.runM S fuel m0 = (m, k) by
          rw [unhide HRUN, show fuel - k = 0 by omega, Rt.runM]
          simp)
      go_wp2_with fail
      refine (output_any _ M B _ _ S m X' (unhide HA).mc (Nat.le_trans (unhide HKM).out (by omega))).mono ?_
      rintro e w5 ⟨hb5, v, rfl, hown5⟩
      have hB := run_frame (unhide HA) (unhide H2).2.1 hRlt (unhide HBL)
      have bR := block_later (Aft.keeps (unhide H2).1 (unhide HA) (unhide H2).2.2 (by omega) (by decide)) hb5
      have hmc5 := (unhide HA).mc.later hb5
      have hB5 := hB.trans (hb5.mono (B' := w.heap.size) hB.size)
      have hown6 := ownsRow_mono hown5 hB.size
      obtain ⟨ad, cap, rfl⟩ := ownsRow_form hown5
      obtain ⟨r0, r1, r2⟩ := three_cells bR
      have z := free_of_block bR
      have HF : Hid (∀ a b c, Below w.heap.size w (W3 w5 w.heap.size a b c) ∧ (W3 w5 w.heap.size a b c).ownsRow w.heap.size 3 1 (.slice ad m.output.length cap) m.output.length (intsV m.output)) := hide (fun a b c => ⟨below_one (below_one (below_one hB5 (Nat.le_refl _) _ _) (Nat.le_refl _) _ _) (Nat.le_refl _) _ _, own_same hown6 (fun g hg => W3_other _ _ _ _ _ _ (by have := (hown5.lt g hg).1; have := (unhide HA).frm.size; omega))⟩)
      have HM5 := hide hmc5
      clear hown5 hown6 hB hB5 bR hmc5 hb5
      go_wp2_with fail
      refine (end_any _ M B _ _ S m X' (unhide HM5)).mono ?_
      rintro e w6 ⟨rfl, rfl⟩
      go_wp2_with fail
      refine bodyPost_ret (v := .tuple #[.agg #[.int .i64 m.fin, .int .i64 k, .slice ad m.output.length cap], .int .i64 0, .int .i64 0]) ?_ rfl ⟨(unhide HF _ _ _).1, .slice ad m.output.length cap, by rw [unhide HM0, unhide HE], by rw [unhide HM0, unhide HE]; exact (unhide HF _ _ _).2⟩
      simp [results, Tryz.results13, go_sem, r0, r1, r2]
end Go.Proofs.YtbpajiljfppjcaaGreatDoor

namespace Go.Proofs.YtbpajiljfppjcaaGreatDoor
open Go.RowKit

namespace Rt
theorem nameErr_each (pls : List PL) : ∀ (rem : List PL) (n : Nat), 0 < n → nameErr pls n rem = 0 → ∀ (j : Nat) (p : PL), rem[j]? = some p → namFit pls (n + j) p = true
  | [], _, _, _, j, p, h => by simp at h
  | q :: r, n, h0, he, j, p, h => by
    unfold nameErr at he
    split at he
    · next hq =>
      cases j with
      | zero => simp at h; subst h; exact hq
      | succ j =>
        have := nameErr_each pls r (n + 1) (by omega) he j p (by simpa using h)
        rw [show n + (j + 1) = n + 1 + j by omega]
        exact this
    · omega
end Rt
theorem nest_zero_aux : ∀ (ps : List Rt.PL) (n : Nat) (bs : List Rt.Blk) (acc ls : List Rt.PL) (b2 : List Rt.Blk) (p : Rt.PL), Rt.nestFrom ps n bs (p :: acc) = (0, ls, b2) → 0 < n → ls[0]? = some p
  | [], n, bs, acc, ls, b2, p, h, _ => by simp [Rt.nestFrom] at h; rw [← h.1]; rfl
  | q :: r, n, bs, acc, ls, b2, p, h, h0 => by
    rw [Rt.nestFrom] at h
    split at h
    · rw [List.cons_append] at h
      exact nest_zero_aux r (n + 1) _ _ ls b2 p h (by omega)
    · simp at h; omega
theorem nest_zero {ps ls : List Rt.PL} {b2 : List Rt.Blk} (h : Rt.nestFrom ps 1 [] [Rt.zPL] = (0, ls, b2)) : ls[0]? = some Rt.zPL := nest_zero_aux ps 1 [] [] ls b2 Rt.zPL h (by omega)
/-- No call hands over more than four values. -/
def Call4 (S : Rt.Src) : Prop := ∀ n, (Rt.formAt S.pls n).kind = 12 → (Rt.formAt S.pls n).values.length ≤ 4
theorem call4_of {s : ByteArray} {pls : List Rt.PL} {inp : List Int} (h : Rt.readS s = (0, 0, pls)) : Call4 (srcOf s pls inp) := by
  obtain ⟨hsm, _, _⟩ := Rt.read_small h
  obtain ⟨_, _, _, hn, _⟩ := Rt.read_nest h
  have key : ∀ p ∈ pls, p.form.kind = 12 → p.form.values.length ≤ 4 := by
    intro p hp hk
    obtain ⟨i, hi⟩ := List.mem_iff_getElem?.mp hp
    cases i with
    | zero =>
      -- the zeroth line is empty
      have h0 : pls[0]? = some Rt.zPL := by
        obtain ⟨h1, h2, h3, _, _⟩ := Rt.read_nest h
        exact nest_zero h3
      rw [h0] at hi
      injection hi with hi
      subst hi
      exact absurd hk (by decide)
    | succ i =>
      have := Rt.nameErr_each pls (pls.drop 1) 1 (by omega) hn i p (by rw [List.getElem?_drop, Nat.add_comm]; exact hi)
      unfold Rt.namFit at this
      rw [if_neg (by omega), if_neg (by omega), if_neg (by omega), if_neg (by omega), if_pos hk, Bool.and_eq_true] at this
      have h2 := this.1
      unfold Rt.callFit at h2
      rw [Bool.and_eq_true, decide_eq_true_eq, decide_eq_true_eq] at h2
      rw [← h2.2]
      unfold Rt.declForm
      rcases form_case pls (Rt.declP pls p.form.name) with e | ⟨q, hq, e⟩
      · rw [e]; simp [Rt.zF]
      · rw [e]; exact (hsm q hq).params
  intro n hk
  rcases form_case (srcOf s pls inp).pls n with e | ⟨p, hp, e⟩
  · rw [e]; simp [Rt.zF]
  · rw [e] at hk ⊢
    obtain ⟨q, hq, rfl⟩ := List.mem_map.mp hp
    exact key q hq hk
def Par4 (m : Rt.Mc) : Prop := ∀ f ∈ m.frames, f.params.length ≤ 4
theorem put_par4 {m : Rt.Mc} (h : Par4 m) (s : Rt.Spot) (v : Int) : Par4 (Rt.putS m s v) := by
  unfold Rt.putS
  split
  · split
    · exact h
    · intro l hl
      obtain ⟨i, hi, rfl⟩ := List.mem_iff_getElem.mp hl
      simp only [List.getElem_modify]
      split
      · simp only [List.length_set]; exact h _ (List.getElem_mem _)
      · exact h _ (List.getElem_mem _)
  · exact h
theorem perform_par4 {S : Rt.Src} {m : Rt.Mc} (h : Par4 m) (f : Rt.PForm) (hf : f.kind = 12 → f.values.length ≤ 4) : Par4 (Rt.perform S m f).m ∧ (Rt.perform S m f).recs.length ≤ 5 ∧ ((Rt.perform S m f).fin = 0 → 0 < (Rt.perform S m f).recs.length) := by
  unfold Rt.perform
  simp only
  repeat' split
  all_goals first
    | (refine ⟨h, by simp [Rt.ended], fun hz => ?_⟩; first | (simp; done) | exact absurd hz (by assumption) | (simp [Rt.ended] at hz; done))
    | exact ⟨put_par4 h _ _, by simp, by simp⟩
    | skip
  · next hk ha hn =>
    refine ⟨?_, by simp, by simp⟩
    intro g hg
    rcases List.mem_append.mp hg with hg | hg
    · exact h g hg
    · rw [List.mem_singleton.mp hg]
      have := Rt.argsI_len S m f.values [] ha
      have := hf hk
      simp only [List.length_nil] at *
      omega
  · next hn =>
    refine ⟨fun g hg => h g (List.dropLast_subset _ hg), ?_, by simp⟩
    obtain ⟨fs, g, hfs, _, hl, _⟩ := last_frame hn
    rw [hl]
    have := h g (by rw [hfs]; simp)
    simp
    omega
theorem step_par4 {S : Rt.Src} (hS : Call4 S) {m : Rt.Mc} (h : Par4 m) : Par4 (Rt.stepM S m).1 ∧ (Rt.stepM S m).2.length ≤ 5 ∧ (m.fin = 0 → 0 < (Rt.stepM S m).2.length) := by
  unfold Rt.stepM
  obtain ⟨h1, h2, h3⟩ := perform_par4 (S := S) h (Rt.formAt S.pls m.line) (hS m.line)
  split
  · simp only
    split
    · next hz => exact ⟨h1, h2, fun _ => h3 hz⟩
    · exact ⟨h, by simp, by simp⟩
  · next hz => exact ⟨h, by simp, fun e => absurd e hz⟩
theorem first_par4 (S : Rt.Src) : Par4 (Rt.firstM S) := by
  intro f hf
  simp only [Rt.firstM, List.mem_singleton] at hf
  rw [hf]
  simp [Rt.noFm]
end Go.Proofs.YtbpajiljfppjcaaGreatDoor

namespace Go.Proofs.YtbpajiljfppjcaaGreatDoor
open Go.RowKit
attribute [local go_sem ↓] Go.wp_at_zero Go.wp_at_succ

namespace Rt
/-- Whether a record is the first of a step. -/
def begins (r : Rec) : Bool := decide (r.kind = 1) || decide (r.kind = 2) || decide (r.kind = 3)
/-- How many records ahead of the next step's first. -/
def restLen : List Rec → Nat
  | [] => 0
  | r :: t => if begins r = true then 0 else restLen t + 1
/-- How many records the earliest step has. -/
def earliest : List Rec → Nat
  | [] => 0
  | _ :: t => restLen t + 1
theorem restLen_le : ∀ l : List Rec, restLen l ≤ l.length
  | [] => Nat.le_refl _
  | r :: t => by
    have := restLen_le t
    unfold restLen
    split
    · omega
    · simp; omega
theorem earliest_le (l : List Rec) : earliest l ≤ l.length := by
  cases l with
  | nil => exact Nat.le_refl _
  | cons r t =>
    have := restLen_le t
    simp [earliest]
    omega
theorem earliest_pos {l : List Rec} (h : 0 < l.length) : 0 < earliest l := by
  cases l with
  | nil => simp at h
  | cons r t => simp [earliest]
theorem restLen_not : ∀ (l : List Rec) (j : Nat) (h : j < restLen l), begins (l[j]'(Nat.lt_of_lt_of_le h (restLen_le l))) = false
  | [], j, h => by simp [restLen] at h
  | r :: t, j, h => by
    unfold restLen at h
    split at h
    · omega
    · next hb =>
      cases j with
      | zero => simpa using hb
      | succ j => exact restLen_not t j (by omega)
theorem restLen_at : ∀ (l : List Rec) (h : restLen l < l.length), begins l[restLen l] = true
  | [], h => by simp at h
  | r :: t, h => by
    by_cases hb : begins r = true
    · have : restLen (r :: t) = 0 := by unfold restLen; rw [if_pos hb]
      simp only [this]
      exact hb
    · have e : restLen (r :: t) = restLen t + 1 := by rw [restLen, if_neg hb]
      simp only [e, List.getElem_cons_succ]
      exact restLen_at t (by rw [e] at h; simpa using h)
theorem early_not {rs : List Rec} {k : Nat} (h0 : 0 < k) (h : k < earliest rs) (hk : k < rs.length) : begins rs[k] = false := by
  cases rs with
  | nil => simp at hk
  | cons r t =>
    cases k with
    | zero => omega
    | succ k => exact restLen_not t k (by simp [earliest] at h; omega)
theorem early_at {rs : List Rec} (h : earliest rs < rs.length) : begins rs[earliest rs] = true := by
  cases rs with
  | nil => simp at h
  | cons r t =>
    simp only [earliest, List.getElem_cons_succ]
    exact restLen_at t (by simpa [earliest] using h)
/-- What is kept when there is too little room. -/
def jnL (cap : Int) : Nat → List Rec → Int → List Rec × Int
  | 0, rs, low => (rs, low)
  | f + 1, rs, low => if cap < rs.length ∧ 0 < rs.length then jnL cap f (rs.drop (earliest rs)) (wrap64 (low + 1)) else (rs, low)
def joinR (cap : Int) (rs : List Rec) (low : Int) : List Rec × Int := jnL cap rs.length rs low
theorem jnL_more (cap : Int) : ∀ (f g : Nat) (rs : List Rec) (low : Int), rs.length ≤ f → rs.length ≤ g → jnL cap f rs low = jnL cap g rs low
  | 0, 0, _, _, _, _ => rfl
  | 0, g + 1, rs, low, h, _ => by
    have : ¬ (cap < rs.length ∧ 0 < rs.length) := by omega
    rw [jnL, jnL, if_neg this]
  | f + 1, 0, rs, low, _, h => by
    have : ¬ (cap < rs.length ∧ 0 < rs.length) := by omega
    rw [jnL, jnL, if_neg this]
  | f + 1, g + 1, rs, low, h1, h2 => by
    rw [jnL, jnL]
    split
    · next hc =>
      have := earliest_pos hc.2
      exact jnL_more cap f g _ _ (by rw [List.length_drop]; omega) (by rw [List.length_drop]; omega)
    · rfl
theorem joinR_more {cap : Int} {rs : List Rec} (low : Int) (h : cap < rs.length ∧ 0 < rs.length) : joinR cap rs low = joinR cap (rs.drop (earliest rs)) (wrap64 (low + 1)) := by
  unfold joinR
  have hp := earliest_pos h.2
  have := earliest_le rs
  cases e : rs.length with
  | zero => omega
  | succ f =>
    rw [jnL, if_pos h]
    exact jnL_more cap _ _ _ _ (by rw [List.length_drop]; omega) (Nat.le_refl _)
theorem joinR_done {cap : Int} {rs : List Rec} (low : Int) (h : ¬ (cap < rs.length ∧ 0 < rs.length)) : joinR cap rs low = (rs, low) := by
  unfold joinR
  cases rs.length with
  | zero => rfl
  | succ f => rw [jnL, if_neg h]
end Rt
theorem recsCells_len (rs : List Rt.Rec) : (recsCells rs).length = rs.length * 5 := by
  induction rs with
  | nil => rfl
  | cons r t ih =>
    simp only [recsCells, List.flatMap_cons, List.length_append, List.length_cons] at ih ⊢
    simp [Rt.recCells] at ih ⊢
    omega
theorem recsCells_app (a b : List Rt.Rec) : recsCells (a ++ b) = recsCells a ++ recsCells b := by simp [recsCells]
theorem recsCells_get (rs : List Rt.Rec) (i : Nat) (h : i < rs.length) (j : Nat) (hj : j < 5) : (recsCells rs)[i * 5 + j]? = (Rt.recCells rs[i])[j]? := by
  conv => lhs; rw [← List.take_append_drop i rs, recsCells_app]
  have hl : (recsCells (rs.take i)).length = i * 5 := by rw [recsCells_len, List.length_take, Nat.min_eq_left (by omega)]
  rw [List.getElem?_append_right (by omega), hl, List.drop_eq_getElem_cons h]
  have : i * 5 + j - i * 5 = j := by omega
  rw [this]
  show (Rt.recCells rs[i] ++ recsCells (rs.drop (i + 1)))[j]? = _
  rw [List.getElem?_append_left (by simp [Rt.recCells]; omega)]
/-- A record's cells. -/
theorem rec_at {w : World} {B g n cap : Nat} {rs : List Rt.Rec} (h : w.ownsRow B 133 5 (.slice (some ⟨g, 0, none⟩) n cap) n (recsCells rs)) (i : Nat) (hi : i < rs.length) :
    w.cell? ⟨g, i * 5, none⟩ = some (.int .i64 rs[i].kind) ∧ w.cell? ⟨g, i * 5 + 1, none⟩ = some (.int .i64 rs[i].line) ∧ w.cell? ⟨g, i * 5 + 2, none⟩ = some (.int .i64 rs[i].at_.line) ∧ w.cell? ⟨g, i * 5 + 3, none⟩ = some (.int .i64 rs[i].at_.cell) ∧ w.cell? ⟨g, i * 5 + 4, none⟩ = some (.int .i64 rs[i].value) := by
  have get : ∀ j u, j < 5 → (Rt.recCells rs[i])[j]? = some u → w.cell? ⟨g, i * 5 + j, none⟩ = some u := by
    intro j u hj hu
    obtain ⟨g', cap', he, _, _, hc⟩ := own_cell h (j := i * 5 + j) (u := u) (by rw [recsCells_get rs i hi j hj]; exact hu)
    simp at he
    obtain ⟨rfl, rfl⟩ := he
    exact hc
  exact ⟨get 0 _ (by omega) rfl, get 1 _ (by omega) rfl, get 2 _ (by omega) rfl, get 3 _ (by omega) rfl, get 4 _ (by omega) rfl⟩
theorem begins_any (w : World) (r : Rt.Rec) : Calls Tryz.prog 106 #[.agg #[.int .i64 r.kind, .int .i64 r.line, .int .i64 r.at_.line, .int .i64 r.at_.cell, .int .i64 r.value]] w fun e w' => e = .returned (.bool (Rt.begins r)) ∧ Below w.heap.size w w' := by
  have hb := (Below.refl w.heap.size w).alloc (Nat.le_refl _) (.cells #[.int .i64 r.kind, .int .i64 r.line, .int .i64 r.at_.line, .int .i64 r.at_.cell, .int .i64 r.value] 133)
  by_cases h1 : r.kind = 1
  · have HE := hide (show Rt.begins r = true by simp [Rt.begins, h1])
    have h1' : (r.kind == 1) = true := by simpa using h1
    clear h1
    go_enter Tryz.func106, Tryz.ntmps106
    go_wp2_with fail
    go_ret
    exact ⟨by rw [unhide HE]; rfl, hb⟩
  · have h1' : (r.kind == 1) = false := by simpa using h1
    by_cases h2 : r.kind = 2
    · have HE := hide (show Rt.begins r = true by simp [Rt.begins, h2])
      have h2' : (r.kind == 2) = true := by simpa using h2
      clear h1 h2
      go_enter Tryz.func106, Tryz.ntmps106
      go_wp2_with fail
      go_ret
      exact ⟨by rw [unhide HE]; rfl, hb⟩
    · have h2' : (r.kind == 2) = false := by simpa using h2
      by_cases h3 : r.kind = 3
      · have HE := hide (show Rt.begins r = true by simp [Rt.begins, h3])
        have h3' : (r.kind == 3) = true := by simpa using h3
        clear h1 h2 h3
        go_enter Tryz.func106, Tryz.ntmps106
        go_wp2_with fail
        go_ret
        exact ⟨by rw [unhide HE]; rfl, hb⟩
      · have HE := hide (show Rt.begins r = false by simp [Rt.begins, h1, h2, h3])
        have h3' : (r.kind == 3) = false := by simpa using h3
        clear h1 h2 h3
        go_enter Tryz.func106, Tryz.ntmps106
        go_wp2_with fail
        go_ret
        exact ⟨by rw [unhide HE]; rfl, hb⟩
/-- A journal within a block. -/
structure JrS (w : World) (P : Nat) (ty : TypeId) (cs : Array Value) (cap : Int) (rs : List Rt.Rec) (low : Int) (jv : Value) : Prop where
  block : w.heap[P]? = some (.cells cs ty (0, 0))
  c8 : cs[8]? = some (.int .i64 cap)
  c9 : cs[9]? = some jv
  c10 : cs[10]? = some (.int .i64 low)
  own : w.ownsRow 0 133 5 jv rs.length (recsCells rs)
  ty : ty ≠ 133
theorem JrS.later {w w' : World} {P : Nat} {ty : TypeId} {cs : Array Value} {cap : Int} {rs : List Rt.Rec} {low : Int} {jv : Value} (h : JrS w P ty cs cap rs low jv) (hb : Below w.heap.size w w') : JrS w' P ty cs cap rs low jv :=
  ⟨block_later h.block hb, h.c8, h.c9, h.c10, own_later h.own hb, h.ty⟩
section
variable {w : World} {P : Nat} {ty : TypeId} {cs : Array Value} {cap : Int} {rs : List Rt.Rec} {low : Int} {jv : Value} (h : JrS w P ty cs cap rs low jv)
include h
theorem JrS.k8 : w.cell? ⟨P, 8, none⟩ = some (.int .i64 cap) := (cell_of_row w P 8 cs ty (0, 0) h.block).trans h.c8
theorem JrS.k9 : w.cell? ⟨P, 9, none⟩ = some jv := (cell_of_row w P 9 cs ty (0, 0) h.block).trans h.c9
theorem JrS.k10 : w.cell? ⟨P, 10, none⟩ = some (.int .i64 low) := (cell_of_row w P 10 cs ty (0, 0) h.block).trans h.c10
theorem JrS.fz (i : Nat) : w.frozen? ⟨P, i, none⟩ = false := free_of_block h.block i
theorem JrS.ne : jv.ownBlock ≠ some P := by
  intro e
  obtain ⟨c, hc⟩ := own_blk h.own e
  rw [h.block] at hc
  injection hc with hc
  injection hc with _ hc
  exact h.ty hc
end
set_option maxHeartbeats 1000000 in
set_option maxRecDepth 100000 in
theorem earliest_any (w : World) (P : Nat) (ty : TypeId) (cs : Array Value) (cap : Int) (rs : List Rt.Rec) (low : Int) (jv : Value) (h : JrS w P ty cs cap rs low jv) (hl : rs.length ≤ 1000) :
    Calls Tryz.prog 126 #[.pointer (some ⟨P, 8, none⟩)] w fun e w' => e = .returned (.int .i64 ((Rt.earliest rs : Nat) : Int)) ∧ Below w.heap.size w w' := by
  obtain ⟨ad, jcap, rfl⟩ := ownsRow_form h.own
  have HH := hide h
  clear h
  go_enter Tryz.func126, Tryz.ntmps126
  go_wp2_with fail
  go_loopw [3] (fun c wr => ∃ k : Nat, k ≤ rs.length ∧ c = .int .i64 k ∧ (0 < k → 0 < rs.length ∧ k ≤ Rt.earliest rs) ∧ Below w.heap.size w wr) (fun c _ => rs.length + 1 - (intOf c).toNat)
  case atStart => exact ⟨0, Nat.zero_le _, rfl, fun h => by omega, Below.refl _ _⟩
  case round =>
    obtain ⟨k, hk, rfl, hin, hbe⟩ := hrel
    have hj := (unhide HH).later hbe
    have k9 := hj.k9
    by_cases hlt : k < rs.length
    · have hlt' : (k : Int) < (rs.length : Int) := by omega
      have hk0 : (0 : Int) ≤ (k : Int) := by omega
      obtain ⟨g, gc, he, hglt, _⟩ := own_cell hj.own (j := k * 5) (u := .int .i64 rs[k].kind) (by have := recsCells_get rs k hlt 0 (by omega); simpa [Rt.recCells] using this)
      simp at he
      obtain ⟨rfl, rfl⟩ := he
      obtain ⟨r0, r1, r2, r3, r4⟩ := rec_at hj.own k hlt
      have HB := hide hbe
      by_cases hz : k = 0
      · subst hz
        have HN := hide (show 0 < rs.length ∧ 1 ≤ Rt.earliest rs from ⟨hlt, Rt.earliest_pos hlt⟩)
        clear hin hbe hj
        go_wp2_with fail
        exact ⟨⟨1, by omega, rfl, fun _ => unhide HN, unhide HB⟩, by simp [intOf]⟩
      · have hz' : ((k : Int) == 0) = false := by rw [beq_eq_false_iff_ne]; omega
        have HIN := hide (hin (by omega))
        have HC := hide (fun (W : World) => begins_any W rs[k])
        have HY := hide (show Rt.begins rs[k] = true → k = Rt.earliest rs from fun e => by
          have := (hin (by omega)).2
          by_cases hke : k = Rt.earliest rs
          · exact hke
          · rw [Rt.early_not (by omega) (by omega) hlt] at e; cases e)
        have HNO := hide (show Rt.begins rs[k] = false → k + 1 ≤ Rt.earliest rs from fun e => by
          have := (hin (by omega)).2
          by_cases hke : k = Rt.earliest rs
          · subst hke
            rw [Rt.early_at hlt] at e; cases e
          · omega)
        clear hin hbe hj
        generalize rs[k] = r at *
        go_wp2_with fail
        refine (unhide HC _).mono ?_
        rintro e w1 ⟨rfl, hb1⟩
        have HB1 := hide ((unhide HB).trans (hb1.mono (unhide HB).size))
        clear hb1
        cases hb : Rt.begins r with
        | true =>
          have HE := hide (unhide HY hb)
          clear HY HNO
          go_wp2_with fail
          go_ret
          exact ⟨by rw [← unhide HE]; rfl, unhide HB1⟩
        | false =>
          have HE := hide (unhide HNO hb)
          clear HY HNO
          go_wp2_with fail
          go_roundw
          case rel => exact ⟨k + 1, by omega, by go_num, fun _ => ⟨(unhide HIN).1, unhide HE⟩, unhide HB1⟩
          case measure => simp [intOf]; omega
    · have hlt' : ¬ (k : Int) < (rs.length : Int) := by omega
      have HE := hide (show k = Rt.earliest rs by
        have := Rt.earliest_le rs
        by_cases h0 : 0 < k
        · have := hin h0; omega
        · omega)
      have HB := hide hbe
      clear hin hbe hj
      go_wp2_with fail
      go_ret
      exact ⟨by rw [← unhide HE]; rfl, unhide HB⟩
end Go.Proofs.YtbpajiljfppjcaaGreatDoor

