/- The machine: what the present line comes to, and a step: in general. -/
import Derived.Test.YtbpajiljfppjcaaGreatCaC
namespace Go.Proofs.YtbpajiljfppjcaaGreat
open Go.RowKit
attribute [local go_sem ↓] Go.wp_at_zero Go.wp_at_succ

/-- A parameter's record. -/
def parR (v : Int) : Rt.Rec := ⟨7, 0, ⟨0, 0⟩, v⟩
def lvCells (l c : Int) (ps : List Int) (k : Nat) : List Value := recsCells (⟨3, l, ⟨0, 0⟩, c⟩ :: (ps.take k).map parR)
theorem two_cells {w : World} {b : Nat} {x y : Value} {t : TypeId} (h : w.heap[b]? = some (.cells #[x, y] t (0, 0))) : w.cell? ⟨b, 0, none⟩ = some x ∧ w.cell? ⟨b, 1, none⟩ = some y :=
  ⟨by have := cell_of_block h 0 (by simp); simpa using this, by have := cell_of_block h 1 (by simp); simpa using this⟩
set_option maxHeartbeats 2000000 in
set_option maxRecDepth 100000 in
theorem mleave_any (w : World) (M B : Nat) (ty : TypeId) (tail : List Value) (S : Rt.Src) (m : Rt.Mc) (X : McX) (h : McS w M B ty tail S m X) (hm : Mok S m) :
    Calls Tryz.prog 60 #[.pointer (some ⟨M, 0, none⟩)] w (OutP M B ty tail S X (Rt.leaveO m) w) := by
  by_cases hfl : m.frames.length < 2
  · refine (leave_first w M B ty tail S m X h hfl).mono ?_
    intro e w' ho
    rw [show Rt.leaveO m = Rt.ended m 1 by unfold Rt.leaveO; rw [if_pos hfl]]
    exact ho
  · obtain ⟨fs, f, hfs, hf1, hlast, hdl⟩ := last_frame hfl
    have HL := hide (show Rt.leaveO m = ⟨0, wrap64 (f.call + 1), ⟨3, m.line, ⟨0, 0⟩, f.call⟩ :: f.params.map parR, { m with frames := fs }⟩ by unfold Rt.leaveO; rw [if_neg hfl, hlast, hdl]; rfl)
    obtain ⟨j0, hj0, hy0, hy1, hy2⟩ := info_parts Tryz.infoRec
    have hflen : m.frames.length = fs.length + 1 := by rw [hfs]; simp
    have hl6 : m.frames.length ≤ 1000 := hm.frames
    have hpl : f.params.length ≤ 1000 := hm.params f (by rw [hfs]; simp)
    have hfr := h.frames
    rw [hflen] at hfr
    obtain ⟨fad, fcap, hfv⟩ := ownsRow_form hfr
    have hpar := h.parRow fs.length (by omega)
    have hfi : m.frames[fs.length]'(by omega) = f := by simp [hfs]
    rw [hfi] at hpar
    obtain ⟨g, gcap, hg, _, _, k1⟩ := own_cell hfr (fCells_get X.fps m.frames h.fl fs.length (by omega)).1
    obtain ⟨g', gcap', hg', _, _, k2⟩ := own_cell hfr (fCells_get X.fps m.frames h.fl fs.length (by omega)).2
    rw [hfi] at k2
    rw [hg] at hg'
    simp at hg'
    obtain ⟨rfl, rfl⟩ := hg'
    obtain ⟨pad, pcap, hpv⟩ := ownsRow_form hpar
    rw [hpv] at k1 hpar
    have c2 := h.c2
    rw [hg] at c2
    have c6 := h.c6
    have hMlt := block_lt h.block
    have HH := hide (And.intro h (And.intro hm hpar))
    have hw1 := IntWalk.wrap64_in ((fs.length : Int) + 1 - 1) (by omega)
    have hw : IntKind.i64.wrap ((fs.length : Int) + 1 - 1) = (fs.length : Int) := by rw [IntWalk.i64_left, hw1]; omega
    have hw3 : IntKind.i64.wrap (fs.length : Int) = (fs.length : Int) := by rw [IntWalk.i64_left, IntWalk.wrap64_in _ (by omega)]
    have h0 : (0 : Int) ≤ (fs.length : Int) := by omega
    have h2 : ¬ (fs.length : Int) < 1 := by omega
    have h3 : (fs.length : Int) < (fs.length : Int) + 1 := by omega
    clear h hfr hfv hpv hfi hlast hdl hw1
    clear hpar hfl hm hflen
    go_enter Tryz.func60, Tryz.ntmps60
    go_wp2_with fail
    have hbA := ((Below.refl w.heap.size w).alloc (Nat.le_refl _) (.cells #[.int .i64 0, .int .i64 0, .slice none 0 0] 82)).alloc (by simp) (.cells #[.slice pad f.params.length pcap, .int .i64 f.call] 68)
    have bR := block_alloc (heap_alloc_new w (.cells #[.int .i64 0, .int .i64 0, .slice none 0 0] 82)) (.cells #[.slice pad f.params.length pcap, .int .i64 f.call] 68)
    have bG := alloc2_plain w (.cells #[.int .i64 0, .int .i64 0, .slice none 0 0] 82) (.cells #[.slice pad f.params.length pcap, .int .i64 f.call] 68)
    have hsA : ((w.alloc (.cells #[.int .i64 0, .int .i64 0, .slice none 0 0] 82)).alloc (.cells #[.slice pad f.params.length pcap, .int .i64 f.call] 68)).heap.size = w.heap.size + 2 := by simp
    revert hbA bR bG hsA
    generalize (w.alloc (.cells #[.int .i64 0, .int .i64 0, .slice none 0 0] 82)).alloc (.cells #[.slice pad f.params.length pcap, .int .i64 f.call] 68) = wA
    intro hbA bR bG hsA
    have d6 := ((unhide HH).1.later hbA).c6
    obtain ⟨g0, g1⟩ := two_cells bG
    have hMA : ¬ M = wA.heap.size := by omega
    have HA := hide (And.intro hbA (And.intro bR (And.intro bG hsA)))
    clear hbA bR bG c2 c6 k1 k2
    go_region_held3 (fun w' => w'.cell? ⟨M, 6, none⟩ = some (.int .i64 m.line) ∧ w'.cell? ⟨w.heap.size + 1, 1, none⟩ = some (.int .i64 f.call)) (go_keep) (fail)
    go_wp2_with fail
    go_loopw [5, 6] (fun rv i wr => ∃ k : Nat, k ≤ f.params.length ∧ i = .int .i64 k ∧ wr.ownsRow (w.heap.size + 2) 87 5 rv (k + 1) (lvCells m.line f.call f.params k) ∧ wr.heap[w.heap.size]? = some (.cells #[.int .i64 0, .int .i64 0, .slice none 0 0] 82 (0, 0)) ∧ wr.heap[w.heap.size + 1]? = some (.cells #[.slice pad f.params.length pcap, .int .i64 f.call] 68 (0, 0)) ∧ Below w.heap.size w wr)
      (fun _ i _ => f.params.length - (intOf i).toNat)
    case atStart =>
      obtain ⟨q1, q2, q3, q4⟩ := unhide HA
      have hb := Below.drew <| (Below.refl wA.heap.size wA).alloc (Nat.le_refl _) (.cells #[.int .i64 3, .int .i64 m.line, .int .i64 0, .int .i64 0, .int .i64 f.call] 87)
      have hf1 := rec_fresh 1 wA (w.heap.size + 2) #[.int .i64 3, .int .i64 m.line, .int .i64 0, .int .i64 0, .int .i64 f.call] (by omega) rfl (by omega)
      rw [q4] at hf1
      exact ⟨0, Nat.zero_le _, rfl, hf1, block_later q2 hb, block_later q3 hb, q1.trans (hb.mono (B' := w.heap.size) q1.size)⟩
    case round =>
      obtain ⟨k, hk, rfl, hrv, bR, bG, hbe⟩ := hrel
      obtain ⟨rad, rcap, rfl⟩ := ownsRow_form hrv
      obtain ⟨g0, g1⟩ := two_cells bG
      clear d6 hsA
      by_cases hlt : k < f.params.length
      · have hlt' : (k : Int) < (f.params.length : Int) := by omega
        have hk0 : (0 : Int) ≤ (k : Int) := by omega
        obtain ⟨b, bcap, hb1, _, hblt, cx⟩ := own_cell (own_later (unhide HH).2.2 hbe) (j := k) (u := .int .i64 f.params[k]) (by simp [intsV, hlt])
        simp at hb1
        obtain ⟨rfl, rfl⟩ := hb1
        have HT := hide (show lvCells m.line f.call f.params (k + 1) = lvCells m.line f.call f.params k ++ [.int .i64 7, .int .i64 0, .int .i64 0, .int .i64 0, .int .i64 f.params[k]] by
          unfold lvCells
          rw [List.take_add_one, List.getElem?_eq_getElem hlt, List.map_append, ← List.cons_append]
          simp only [recsCells, List.flatMap_append]
          rfl)
        have hRl := block_lt bR
        have hGl := block_lt bG
        have HX := hide (And.intro bR (And.intro bG hbe))
        clear bR bG hbe
        generalize f.params[k] = x at *
        go_wp2_with (at_builtin; refine wpList_append_lies _ rfl _ _ 44 rfl (w.heap.size + 2) 87 j0 _ 5 40 Tryz.underlying44 hj0 hy0 hy1 hy2 rfl (by decide) _ (k + 1) _ rfl (hrv.alloc _) ⟨wr.heap.size, 0, none⟩ 1 1 [.int .i64 7, .int .i64 0, .int .i64 0, .int .i64 0, .int .i64 x] rfl rfl (World.news_of_block (cs := #[.int .i64 7, .int .i64 0, .int .i64 0, .int .i64 0, .int .i64 x]) (t := 87) (fr := (0, 0)) (heap_alloc_new wr _)) (by simp [Value.oneCell']) (by omega) (by unfold maxLen; omega) (by omega) (by simp; omega) (wr.heap.size + 1) (by simp) ?_)
        intro g' cap' w4 hown4 hgrow hat hlt4
        obtain ⟨bR, bG, hbe⟩ := unhide HX
        have hbx : Below (w.heap.size + 2) wr w4 := Below.grown ((Below.refl (w.heap.size + 2) wr).alloc (by omega) _) hgrow (by simp; omega) (fun q hq => (hrv.lt q hq).1)
        have HF := hide (show _ ∧ _ ∧ _ ∧ _ from ⟨hown4, (hbx.block _ (by omega)).trans bR, (hbx.block _ (by omega)).trans bG, hbe.trans (hbx.mono (B' := w.heap.size) (by omega))⟩)
        clear hown4 hgrow hat hrv bR bG hbe hbx HX hRl hGl
        go_wp2_with fail
        go_roundw
        case rel =>
          obtain ⟨q1, q2, q3, q4⟩ := unhide HF
          exact ⟨k + 1, by omega, by go_num, by rw [unhide HT]; exact q1, q2, q3, q4⟩
        case measure => simp [intOf]; omega
      · have hlt' : ¬ (k : Int) < (f.params.length : Int) := by omega
        have hkn : k = f.params.length := by omega
        subst hkn
        have HRV := hide hrv
        go_wp2_with fail
        refine (dropFrame_any wr M B ty tail S m X ((unhide HH).1.later hbe) fs f hfs hl6).mono ?_
        rintro e w5 ⟨rfl, X', hA5⟩
        have far : ∀ k, w.heap.size ≤ k → k < wr.heap.size → w5.heap[k]? = wr.heap[k]? := fun k hk1 hk2 => hA5.frm.block k hk2 (fun hin => by
          rcases List.mem_cons.mp hin with e | e
          · omega
          · rw [← (unhide HH).1.blks] at e
            have := (unhide HH).1.own.lt k e
            omega)
        have bR5 := (far _ (Nat.le_refl _) (block_lt bR)).trans bR
        have bG5 := (far _ (by omega) (block_lt bG)).trans bG
        have hrv5 := own_same (w' := w5) hrv (fun q hq => far q (by have := (hrv.lt q hq).1; omega) (hrv.lt q hq).2)
        have hA6 := Aft.from (unhide HH).1 hbe hA5
        obtain ⟨r0, r1, r2⟩ := three_cells bR5
        obtain ⟨s0, s1⟩ := two_cells bG5
        have z := free_of_block bR5
        have HF := hide (fun a b c => And.intro (hA6.three bR5 (Nat.le_refl _) (by unfold PTy; decide) a b c) (show (W3 w5 w.heap.size a b c).ownsRow w.heap.size 87 5 (.slice rad (f.params.length + 1) rcap) (f.params.length + 1) (lvCells m.line f.call f.params f.params.length) from own_same (ownsRow_mono hrv5 (by omega)) (fun q hq => W3_other _ _ _ _ _ _ (by have := (hrv5.lt q hq).1; omega))))
        have HLN := hide (show (⟨3, m.line, ⟨0, 0⟩, f.call⟩ :: f.params.map parR : List Rt.Rec).length = f.params.length + 1 ∧ recsCells (⟨3, m.line, ⟨0, 0⟩, f.call⟩ :: f.params.map parR) = lvCells m.line f.call f.params f.params.length by
          unfold lvCells
          rw [List.take_length]
          exact ⟨by simp, rfl⟩)
        clear hA5 hA6 bR5 bG5 hrv5 hrv bR bG hbe far HRV g0 g1
        go_wp2_with fail
        refine bodyPost_ret (v := .agg #[.int .i64 0, .int .i64 (wrap64 (f.call + 1)), .slice rad (f.params.length + 1) rcap]) ?_ rfl ⟨_, _, by rw [unhide HL], by rw [unhide HL]; exact (unhide HF _ _ _).1, by rw [unhide HL]; show World.ownsRow _ _ _ _ _ (List.length _) _; rw [(unhide HLN).1, (unhide HLN).2]; exact (unhide HF _ _ _).2⟩
        simp [results, Tryz.results60, go_sem, r0, r1, r2]
end Go.Proofs.YtbpajiljfppjcaaGreat

namespace Go.Proofs.YtbpajiljfppjcaaGreat
open Go.RowKit

namespace Rt
theorem argsI_len (S : Src) (m : Mc) : ∀ (vs : List (List Pop)) (acc : List Int), (argsI S m vs acc).2 = 0 → (argsI S m vs acc).1.length = acc.length + vs.length
  | [], acc, _ => by simp [argsI]
  | e :: r, acc, h => by
    rw [argsI] at h ⊢
    split
    · next he =>
      rw [if_pos he] at h
      rw [argsI_len S m r _ h]
      simp
      omega
    · next he => rw [if_neg he] at h; exact absurd h he
end Rt
/-- What a source must be. -/
structure Good (S : Rt.Src) : Prop where
  small : ∀ n, Rt.Small (Rt.formAt S.pls n)
  fwd : LkFwd S.pls S.lk
  mok : Mok S (Rt.firstM S)
/-- What a run keeps to. -/
structure KeepG (S : Rt.Src) (m : Rt.Mc) : Prop where
  mok : Mok S m
  lo : 1 ≤ m.frames.length
  hi : m.frames.length ≤ 6
  out : m.output.length ≤ 50
theorem put_keepG {S : Rt.Src} {m : Rt.Mc} (h : KeepG S m) (s : Rt.Spot) (v : Int) : KeepG S (Rt.putS m s v) := by
  unfold Rt.putS
  split
  · split
    · refine ⟨⟨h.mok.pls, h.mok.input, h.mok.frames, by simpa using h.mok.values, h.mok.output, h.mok.params, ?_, h.mok.forms⟩, h.lo, h.hi, h.out⟩
      intro l hl
      obtain ⟨i, hi, rfl⟩ := List.mem_iff_getElem.mp hl
      simp only [List.getElem_modify]
      split
      · rw [List.length_set]; exact h.mok.cells _ (List.getElem_mem _)
      · exact h.mok.cells _ (List.getElem_mem _)
    · refine ⟨⟨h.mok.pls, h.mok.input, by simpa using h.mok.frames, h.mok.values, h.mok.output, ?_, h.mok.cells, h.mok.forms⟩, by simpa using h.lo, by simpa using h.hi, h.out⟩
      intro l hl
      obtain ⟨i, hi, rfl⟩ := List.mem_iff_getElem.mp hl
      simp only [List.getElem_modify]
      split
      · simp only [List.length_set]; exact h.mok.params _ (List.getElem_mem _)
      · exact h.mok.params _ (List.getElem_mem _)
  · exact h
theorem perform_keepG {S : Rt.Src} {m : Rt.Mc} (h : KeepG S m) (f : Rt.PForm) (hf : Rt.Small f) : KeepG S (Rt.perform S m f).m := by
  have hlo := h.lo
  have hhi := h.hi
  unfold Rt.perform
  simp only
  repeat' split
  all_goals first
    | exact h
    | exact put_keepG h _ _
    | skip
  · exact ⟨⟨h.mok.pls, h.mok.input, h.mok.frames, h.mok.values, by simp; omega, h.mok.params, h.mok.cells, h.mok.forms⟩, h.lo, h.hi, by simp; omega⟩
  · have := put_keepG h (Rt.varS S m f.name) ((S.input[m.taken.toNat]?).getD 0)
    exact ⟨⟨this.mok.pls, this.mok.input, this.mok.frames, this.mok.values, this.mok.output, this.mok.params, this.mok.cells, this.mok.forms⟩, this.lo, this.hi, this.out⟩
  · next ha hn =>
    refine ⟨⟨h.mok.pls, h.mok.input, by simp; omega, h.mok.values, h.mok.output, ?_, h.mok.cells, h.mok.forms⟩, by simp, by simp; omega, h.out⟩
    intro g hg
    rcases List.mem_append.mp hg with hg | hg
    · exact h.mok.params g hg
    · rw [List.mem_singleton.mp hg]
      have := Rt.argsI_len S m f.values [] ha
      have := hf.values
      simp only [List.length_nil] at *
      omega
  · refine ⟨⟨h.mok.pls, h.mok.input, by simp; omega, h.mok.values, h.mok.output, fun g hg => h.mok.params g (List.dropLast_subset _ hg), h.mok.cells, h.mok.forms⟩, by simp; omega, by simp; omega, h.out⟩
theorem step_keepG {S : Rt.Src} (hS : Good S) {m : Rt.Mc} (h : KeepG S m) : KeepG S (Rt.stepM S m).1 := by
  unfold Rt.stepM
  split
  · simp only
    split
    · have := perform_keepG h (Rt.formAt S.pls m.line) (hS.small _)
      exact ⟨⟨this.mok.pls, this.mok.input, this.mok.frames, this.mok.values, this.mok.output, this.mok.params, this.mok.cells, this.mok.forms⟩, this.lo, this.hi, this.out⟩
    · exact ⟨⟨h.mok.pls, h.mok.input, h.mok.frames, h.mok.values, h.mok.output, h.mok.params, h.mok.cells, h.mok.forms⟩, h.lo, h.hi, h.out⟩
  · exact h
theorem first_keepG {S : Rt.Src} (hS : Good S) : KeepG S (Rt.firstM S) := ⟨hS.mok, by simp [Rt.firstM], by simp [Rt.firstM], by simp [Rt.firstM]⟩
end Go.Proofs.YtbpajiljfppjcaaGreat

namespace Go.Proofs.YtbpajiljfppjcaaGreat
open Go.RowKit
attribute [local go_sem ↓] Go.wp_at_zero Go.wp_at_succ

set_option maxHeartbeats 1000000 in
theorem perform_any (w : World) (M B : Nat) (ty : TypeId) (tail : List Value) (S : Rt.Src) (m : Rt.Mc) (X : McX) (BB : Nat) (fm : Rt.PForm) (a1 a2 a3 : Option Addr) (c1 c2 c3 : Nat) (h : McS w M B ty tail S m X) (hm : Mok S m) (hf : FormV w BB (fmA fm a1 a2 a3 c1 c2 c3) fm) (hsm : Rt.Small fm) :
    Calls Tryz.prog 38 #[.pointer (some ⟨M, 0, none⟩), .agg (fmA fm a1 a2 a3 c1 c2 c3)] w (OutP M B ty tail S X (Rt.perform S m fm) w) := by
  have hops := hsm.each
  have hix := hsm.index
  have hbA := ((Below.refl w.heap.size w).alloc (Nat.le_refl _) (.cells (fmA fm a1 a2 a3 c1 c2 c3) 77)).alloc (by simp) (.cells #[.int .i64 0, .int .i64 0, .slice none 0 0] 82)
  have bR := alloc2_plain w (.cells (fmA fm a1 a2 a3 c1 c2 c3) 77) (.cells #[.int .i64 0, .int .i64 0, .slice none 0 0] 82)
  have hA := h.later hbA
  have hfA := form_later hf hbA
  have HL := Rt.perform_leave S m fm
  generalize hO : Rt.perform S m fm = o at *
  go_enter Tryz.func38, Tryz.ntmps38
  go_wp2_with fail
  all_goals
    first
      | (refine (mcall_any _ M B ty tail S m X BB fm a1 a2 a3 c1 c2 c3 hA hm hfA hsm (by simpa using ‹(fm.kind == 12) = true›)).mono ?_; rw [hO])
      | (refine (setName_any _ M B ty tail S m X BB fm a1 a2 a3 c1 c2 c3 hA hm hfA hsm hops (by simpa using ‹(fm.kind == 8) = true›)).mono ?_; rw [hO])
      | (refine (setCell_any _ M B ty tail S m X BB fm a1 a2 a3 c1 c2 c3 hA hm hfA hsm hops (by simpa using ‹(fm.kind == 9) = true›) hix).mono ?_; rw [hO])
      | (refine (print_any _ M B ty tail S m X BB fm a1 a2 a3 c1 c2 c3 hA hm hfA hsm hops (by simpa using ‹(fm.kind == 10) = true›)).mono ?_; rw [hO])
      | (refine (read_any_m _ M B ty tail S m X fm a1 a2 a3 c1 c2 c3 hA hm (by simpa using ‹(fm.kind == 11) = true›)).mono ?_; rw [hO])
      | (refine (branch_any _ M B ty tail S m X BB fm a1 a2 a3 c1 c2 c3 hA hm hfA hsm hops (by first | exact Or.inl (by simpa using ‹(fm.kind == 5) = true›) | exact Or.inr (by simpa using ‹(fm.kind == 7) = true›))).mono ?_; rw [hO])
      | (refine (mleave_any _ M B ty tail S m X hA hm).mono ?_; rw [← HL (by simpa using ‹(fm.kind == 8) = false›) (by simpa using ‹(fm.kind == 9) = false›) (by simpa using ‹(fm.kind == 10) = false›) (by simpa using ‹(fm.kind == 11) = false›) (by simpa using ‹(fm.kind == 5) = false›) (by simpa using ‹(fm.kind == 7) = false›) (by simpa using ‹(fm.kind == 12) = false›)])
    (rintro e w4 ⟨rv, X', rfl, ha, ho⟩; obtain ⟨ad, cp, rfl⟩ := ownsRow_form ho; have q := OutP.held h hbA bR (by omega) ha ho; have HQ := hide q.2; obtain ⟨r0, r1, r2⟩ := three_cells q.1; have z := free_of_block q.1; clear q ha ho)
    go_wp2_with fail
    refine bodyPost_ret (v := .agg #[.int .i64 o.fin, .int .i64 o.next, .slice ad o.recs.length cp]) ?_ rfl (unhide HQ _ _ _)
    simp [results, Tryz.results38, go_sem, r0, r1, r2]
set_option maxHeartbeats 1000000 in
theorem step_any (w : World) (M B : Nat) (ty : TypeId) (tail : List Value) (S : Rt.Src) (m : Rt.Mc) (X : McX) (h : McS w M B ty tail S m X) (hm : Mok S m) (hsm : Rt.Small (Rt.formAt S.pls m.line)) (hfw : LkFwd S.pls S.lk) :
    Calls Tryz.prog 24 #[.pointer (some ⟨M, 0, none⟩)] w (StepP M B ty tail S X m w) := by
  have c6 := h.c6
  have c7 := h.c7
  have HH := hide h
  have HM := hide hm
  have hMlt := block_lt h.block
  by_cases hz : m.fin = 0
  · clear h hm
    rw [hz] at c7
    have hb0 := (Below.refl w.heap.size w).alloc (Nat.le_refl _) (.cells #[.int .i64 0, .string ⟨#[]⟩, .int .i64 0, .slice none 0 0, .slice none 0 0, .slice none 0 0] 77)
    have hMne : ¬ M = w.heap.size := by omega
    have HF := hide (show (Rt.lineAtP S.pls m.line).form = Rt.formAt S.pls m.line from Rt.lineAtP_form _ _)
    have HB := hide hb0
    have HO := hide (heap_alloc_new w (.cells #[.int .i64 0, .string ⟨#[]⟩, .int .i64 0, .slice none 0 0, .slice none 0 0, .slice none 0 0] 77))
    clear hb0
    go_enter Tryz.func24, Tryz.ntmps24
    go_wp2_with fail
    apply cutL (F := fun O a0 a1 a2 a3 c0 c1 c2 c3 wy => StepF B (Rt.lineAtP S.pls m.line).form w O a1 a2 a3 c1 c2 c3 wy)
    · intro HT
      have HT' := hide HT
      clear HT
      go_region_with (first | (go_at_call 37; refine (Line_m _ _ _ _ _ _ _ m.line ((unhide HH).prog.later (below_to_drew _))).mono ?_; rintro e w1 ⟨a0, a1, a2, a3, k0, k1, k2, k3, rfl, -, hfv, hb⟩; have hf := Tryz.fieldL1 a0 (Rt.lineAtP S.pls m.line).toks.length k0 (Rt.lineAtP S.pls m.line).form.kind (Rt.lineAtP S.pls m.line).form.name (Rt.lineAtP S.pls m.line).form.cells a1 (Rt.lineAtP S.pls m.line).form.params.length k1 a2 (Rt.lineAtP S.pls m.line).form.index.length k2 a3 (Rt.lineAtP S.pls m.line).form.values.length k3 (Rt.lineAtP S.pls m.line).depth (Rt.lineAtP S.pls m.line).opener (Rt.lkAt S.lk m.line).1 (Rt.lkAt S.lk m.line).2 (Rt.lineAtP S.pls m.line).proc; have HR := hide (StepF.one (below_of_drew hb) hfv); clear hb hfv) | (go_at_call 37; refine (Line_m _ _ _ _ _ _ _ m.line ((unhide HH).prog.later ((unhide HB).drew))).mono ?_; rintro e w1 ⟨a0, a1, a2, a3, k0, k1, k2, k3, rfl, -, hfv, hb⟩; have hf := Tryz.fieldL1 a0 (Rt.lineAtP S.pls m.line).toks.length k0 (Rt.lineAtP S.pls m.line).form.kind (Rt.lineAtP S.pls m.line).form.name (Rt.lineAtP S.pls m.line).form.cells a1 (Rt.lineAtP S.pls m.line).form.params.length k1 a2 (Rt.lineAtP S.pls m.line).form.index.length k2 a3 (Rt.lineAtP S.pls m.line).form.values.length k3 (Rt.lineAtP S.pls m.line).depth (Rt.lineAtP S.pls m.line).opener (Rt.lkAt S.lk m.line).1 (Rt.lkAt S.lk m.line).2 (Rt.lineAtP S.pls m.line).proc; have hO := block_later (unhide HO) (below_of_drew hb); have HR := hide (StepF.two ((unhide HB).trans ((below_of_drew hb).mono (by simp))) hO hfv (Nat.le_refl _)); obtain ⟨y0, y1, y2, y3, y4, y5, z0, z1, z2, z3, z4, z5⟩ := six hO; have yz := block_lt hO; clear hb hfv hO))
      all_goals
        rename_i hKK
        refine hKK _ _ ?_
        have HR' := unhide HR
        revert HR'
        first
          | (generalize w1.alloc (.cells (fmA (Rt.lineAtP S.pls m.line).form a1 a2 a3 k1 k2 k3) 77) = wy; generalize w1.heap.size = O)
          | (generalize W6 w1 w.heap.size (.int .i64 (Rt.lineAtP S.pls m.line).form.kind) (.string (Rt.lineAtP S.pls m.line).form.name) (.int .i64 (Rt.lineAtP S.pls m.line).form.cells) (.slice a1 (Rt.lineAtP S.pls m.line).form.params.length k1) (.slice a2 (Rt.lineAtP S.pls m.line).form.index.length k2) (.slice a3 (Rt.lineAtP S.pls m.line).form.values.length k3) = wy; generalize w.heap.size = O)
        intro HR'
        exact unhide HT' _ a0 _ _ _ k0 _ _ _ _ HR'
    · intro O a0 a1 a2 a3 c0 c1 c2 c3 wy hR
      have HS := hide (show Rt.stepM S m = if (Rt.perform S m (Rt.formAt S.pls m.line)).fin = 0 then ({ (Rt.perform S m (Rt.formAt S.pls m.line)).m with line := Rt.goOn S.pls S.lk 102 (Rt.perform S m (Rt.formAt S.pls m.line)).next }, (Rt.perform S m (Rt.formAt S.pls m.line)).recs) else ({ m with fin := (Rt.perform S m (Rt.formAt S.pls m.line)).fin }, [Rt.stay m.line]) by unfold Rt.stepM; rw [if_pos hz])
      rw [unhide HF] at hR ⊢
      obtain ⟨hbY, bO, hfv, hle⟩ := hR
      have hY := (unhide HH).later hbY
      obtain ⟨y0, y1, y2, y3, y4, y5, z0, z1, z2, z3, z4, z5⟩ := six bO
      go_wp2_with fail
      refine (perform_any _ M B ty tail S m X B _ a1 a2 a3 c1 c2 c3 hY (unhide HM) hfv hsm).mono ?_
      rintro e w4 ⟨rv, X', rfl, ha, ho⟩
      have HEN := hide (perform_ended S m (Rt.formAt S.pls m.line))
      have HRG := hide (perform_range S m (Rt.formAt S.pls m.line))
      generalize Rt.perform S m (Rt.formAt S.pls m.line) = o at *
      obtain ⟨ad, cp, rfl⟩ := ownsRow_form ho
      have ha' := Aft.from (unhide HH) hbY ha
      have ho' := ownsRow_mono ho hbY.size
      have hb5 := (Below.refl w4.heap.size w4).alloc (Nat.le_refl _) (.cells #[.int .i64 o.fin, .int .i64 o.next, .slice ad o.recs.length cp] 82)
      have HA5 := hide (And.intro (ha'.below hb5) (And.intro (own_later ho' hb5) (heap_alloc_new w4 (.cells #[.int .i64 o.fin, .int .i64 o.next, .slice ad o.recs.length cp] 82))))
      have HA4 := hide ha'
      have hO5 : M < w4.heap.size := Nat.lt_of_lt_of_le ha'.lt ha'.frm.size
      have hO6 : ¬ M = w4.heap.size := by omega
      have hO7 : w.heap.size ≤ w4.heap.size := ha'.frm.size
      have d7 := ha'.mc.c7
      have d6 := ha'.mc.c6
      have e7 := ha'.mc.fz 7
      have e6 := ha'.mc.fz 6
      clear ha ho ha' ho' hb5 hY hfv bO y0 y1 y2 y3 y4 y5 z0 z1 z2 z3 z4 z5 c6 c7
      by_cases hfn : o.fin = 0
      · replace HS := hide ((unhide HS).trans (if_pos hfn))
        have hfn' : (o.fin != 0) = false := by simpa using hfn
        rw [hfn] at HA5
        go_wp2_with fail
        go_region_with ((go_at_call 39; refine (goOn_any _ M B S.pls S.lk _ _ o.next ((unhide HA5).1.mc.prog.later (below_to_drew _)) (unhide HM).pls hfw (unhide HRG)).mono ?_; rintro e w6 ⟨rfl, hb6'⟩; have hb6 := below_of_drew hb6'; obtain ⟨hA5, ho5, bO5⟩ := unhide HA5; have hA6 := hA5.below hb6; have ho6 := own_later ho5 hb6; have bO6 := block_later bO5 hb6; have g6 := hA6.mc.c6; have k6 := hA6.mc.fz 6; obtain ⟨r0, r1, r2⟩ := three_cells bO6; have HF1 := hide (hA6.own (m' := { o.m with line := Rt.goOn S.pls S.lk 102 o.next }) 6 (.int .i64 (Rt.goOn S.pls S.lk 102 o.next)) (by simp [mcCells]) rfl rfl rfl); have HF2 := hide (own_same (w' := w6.setCell ⟨M, 6, none⟩ (.int .i64 (Rt.goOn S.pls S.lk 102 o.next))) ho6 (fun g hg => Below.heap_setCell w6 ⟨M, 6, none⟩ _ g (by have := (ho6.lt g hg).1; show g ≠ M; omega))); clear hA5 ho5 bO5 hA6 ho6 bO6 hb6 hb6'))
        all_goals
          clear d6 d7 e6 e7
          go_wp2_with fail
          go_ret
          exact ⟨_, _, rfl, by rw [unhide HS]; exact unhide HF1, by rw [unhide HS]; exact unhide HF2⟩
      · replace HS := hide ((unhide HS).trans (if_neg hfn))
        have hfn' : (o.fin != 0) = true := by simpa using hfn
        have hom := unhide HEN hfn
        have hA4 := unhide HA4
        rw [hom] at hA4 d6 d7
        have hA6 := (hA4.own (m' := { m with fin := o.fin }) 7 (.int .i64 o.fin) (by simp [mcCells]) rfl rfl rfl).below ((Below.refl _ _).alloc (Nat.le_refl _) (.cells #[.int .i64 o.fin, .int .i64 o.next, .slice ad o.recs.length cp] 82))
        have hsz : ((w4.setCell ⟨M, 7, none⟩ (.int .i64 o.fin)).alloc (.cells #[.int .i64 o.fin, .int .i64 o.next, .slice ad o.recs.length cp] 82)).heap.size = w4.heap.size + 1 := by simp [World.setCell]
        have HF1 := hide (hA6.below ((Below.refl _ _).alloc (Nat.le_refl _) (.cells #[.int .i64 1, .int .i64 m.line, .int .i64 0, .int .i64 0, .int .i64 0] 87)))
        have hfr := rec_fresh 1 ((w4.setCell ⟨M, 7, none⟩ (.int .i64 o.fin)).alloc (.cells #[.int .i64 o.fin, .int .i64 o.next, .slice ad o.recs.length cp] 82)) w.heap.size #[.int .i64 1, .int .i64 m.line, .int .i64 0, .int .i64 0, .int .i64 0] (hA6.frm.size) rfl (by omega)
        rw [hsz] at hfr
        have HF2 := hide hfr
        clear hA4 hA6 hfr hsz
        go_wp2_with fail
        go_ret
        exact ⟨_, _, rfl, by rw [unhide HS]; exact unhide HF1, by rw [unhide HS]; exact unhide HF2⟩
  · have hz' : (m.fin != 0) = true := by simpa using hz
    have HS := hide (show Rt.stepM S m = (m, []) by unfold Rt.stepM; rw [if_neg hz])
    clear h hm
    go_enter Tryz.func24, Tryz.ntmps24
    go_wp2_with fail
    go_ret
    exact ⟨_, X, rfl, by rw [unhide HS]; exact Aft.start (unhide HH) (Below.refl _ _), by rw [unhide HS]; exact World.ownsRow_nil _ _ _ _⟩
end Go.Proofs.YtbpajiljfppjcaaGreat

