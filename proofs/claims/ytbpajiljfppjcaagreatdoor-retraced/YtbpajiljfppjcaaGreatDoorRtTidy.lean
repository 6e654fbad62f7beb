/- Tidied lines as plain functions: no program, no walk. -/
import Derived.Test.YtbpajiljfppjcaaGreatDoorSsE
import Derived.Test.YtbpajiljfppjcaaGreatDoorRtProg
namespace Go.Proofs.YtbpajiljfppjcaaGreatDoor
open Go.RowKit
attribute [local go_sem ↓] Go.wp_at_zero Go.wp_at_succ

namespace Rt
/-- A move backward, from where so many steps have been taken back: the session, the steps, the reason. -/
def backRun (kind fuel d0 : Int) : Nat → Se → Nat → Se × Nat × Int
  | 0, s, k => (s, k, 4)
  | f + 1, s, k => if backEnds s kind fuel d0 k = 0 then backRun kind fuel d0 f (seBack s) (k + 1) else (s, k, backEnds s kind fuel d0 k)
end Rt
/-- What a source is whose run can be walked. -/
structure Plc (S : Rt.Src) : Prop where
  good : Good S
  call : Call4 S
  first : KeepG S (Rt.firstM S)
theorem Plc.keep {S : Rt.Src} (h : Plc S) (n : Nat) : KeepG S (Rt.atM S n) := at_keep h.good h.first n
theorem Plc.par {S : Rt.Src} (h : Plc S) (n : Nat) : Par4 (Rt.atM S n) := at_par4 h.call n
theorem Plc.mid {S : Rt.Src} (h : Plc S) (n : Nat) : Mid S (Rt.atM S n) 10 := mid_of (h.keep n) (h.par n)
theorem Plc.input {S : Rt.Src} (h : Plc S) : S.input.length ≤ 100 := h.first.mok.input
theorem Plc.keepS {S : Rt.Src} (h : Plc S) {cap : Int} {n low : Nat} (hk : Rt.SeOk S cap n low) (mk : List Bool) (hm : mk.length = 101) : KeepS S cap (Rt.seAt S n low mk) := ⟨h.keep n, h.par n, hk.room, hm⟩
/-- A session that stands at a place of the run, no farther than n. -/
def AtP (S : Rt.Src) (cap : Int) (n low : Nat) (mk : List Bool) (s : Rt.Se) : Prop := ∃ n', s = Rt.seAt S n' low mk ∧ Rt.SeOk S cap n' low ∧ n' ≤ n
theorem AtP.back {S : Rt.Src} {cap : Int} {n low : Nat} {mk : List Bool} {s : Rt.Se} (h : AtP S cap n low mk s) (hS : Plc S) (hc : cap ≤ 500) (hn : n < 4611686018427387000) {kind fuel d0 mv : Int} (hz : Rt.backEnds s kind fuel d0 mv = 0) : AtP S cap n low mk (Rt.seBack s) ∧ Mid S s.m 10 ∧ 0 < s.recs.length ∧ s.recs.length ≤ 500 := by
  obtain ⟨n', rfl, hk, hl⟩ := h
  obtain ⟨hi0, hil, _⟩ := Rt.backEnds_zero hz
  clear hz
  have hi0 : (n' : Int) ≠ 0 := hi0
  have hil : (n' : Int) ≠ (low : Int) := hil
  have hle := hk.le
  obtain ⟨q, rfl⟩ : ∃ q, n' = q + 1 := ⟨n' - 1, by omega⟩
  have hlq : low ≤ q := by omega
  have hr : ((Rt.recsOf S low (q + 1 - low)).length : Int) ≤ cap := hk.room
  refine ⟨⟨q, Rt.seBack_at hk hlq hS.input (by omega) mk, hk.back hlq, by omega⟩, hS.mid _, Rt.last_lt hk hlq, ?_⟩
  show (Rt.recsOf S low (q + 1 - low)).length ≤ 500
  omega
theorem AtP.marks {S : Rt.Src} {cap : Int} {n low : Nat} {mk : List Bool} {s : Rt.Se} (h : AtP S cap n low mk s) (hm : mk.length = 101) : s.marks.length = 101 := by
  obtain ⟨n', rfl, _, _⟩ := h
  exact hm
set_option maxHeartbeats 1000000 in
set_option maxRecDepth 100000 in
theorem backward_any (w : World) (P B : Nat) (S : Rt.Src) (cap : Int) (n low : Nat) (mk : List Bool) (s : Rt.Se) (X : McX) (jv : Value) (h : SesS w P B S cap s X jv) (hS : Plc S) (hc : cap ≤ 500) (hk : AtP S cap n low mk s) (hn : n < 4611686018427387000) (hmk : mk.length = 101) (kind : Int) (fuel : Nat) (hkd : 0 ≤ kind ∧ kind ≤ 3) (hfu : fuel ≤ 1000) :
    Calls Tryz.prog 24 #[.pointer (some ⟨P, 0, none⟩), .int .i64 kind, .int .i64 fuel] w (FwdP P B S cap X jv (Rt.backRun kind fuel s.m.frames.length (fuel + 1) s 0) w) := by
  have hPlt := block_lt h.mc.block
  have HH := hide (And.intro h (And.intro hk (And.intro (fun s' (h : AtP S cap n low mk s') => h.marks hmk) (fun s' (h : AtP S cap n low mk s') (mv : Int) (d0 : Int) (hz : Rt.backEnds s' kind fuel d0 mv = 0) => h.back hS hc hn hz))))
  clear h hS hk hmk hn
  go_enter Tryz.func24, Tryz.ntmps24
  go_wp2_with fail
  refine (refuse_any kind fuel _ hkd (by omega)).mono ?_
  rintro e w0 ⟨rfl, rfl⟩
  go_wp2_with fail
  have hbZ := (Below.refl w.heap.size w).alloc (Nat.le_refl _) (.cells #[.int .i64 0, .int .i64 0, .int .i64 0, .int .i64 0, .int .i64 0, .int .i64 0] 36)
  refine (depth_any _ P B _ _ S s.m X ((unhide HH).1.mc.later hbZ)).mono ?_
  rintro e w0 ⟨rfl, rfl⟩
  generalize hd : (s.m.frames.length : Int) = d at *
  have HD := hide hd
  clear hd
  go_wp2_with fail
  have hbA := hbZ.alloc (by simp) (.cells (mvA kind fuel d 0) 95)
  have bR := block_alloc (heap_alloc_new w (.cells #[.int .i64 0, .int .i64 0, .int .i64 0, .int .i64 0, .int .i64 0, .int .i64 0] 36)) (.cells (mvA kind fuel d 0) 95)
  have bM := alloc2_plain w (.cells #[.int .i64 0, .int .i64 0, .int .i64 0, .int .i64 0, .int .i64 0, .int .i64 0] 36) (.cells (mvA kind fuel d 0) 95)
  refine (backwardEnds_any _ P B S cap s X jv ((unhide HH).1.later hbA) ((unhide HH).2.2.1 _ (unhide HH).2.1) kind fuel d 0).mono ?_
  rintro e w1 ⟨rfl, hb1⟩
  have HA := hide (And.intro (SAft.start (unhide HH).1 (hbA.trans (hb1.mono (B' := w.heap.size) (by simp; omega)))) (And.intro (block_later bR hb1) (block_later bM hb1)))
  clear hbZ hbA bR bM hb1
  go_wp2_with fail
  go_loopw [10] (fun rv wr => ∃ (k : Nat) (s' : Rt.Se) (X' : McX) (jv' : Value), k ≤ fuel ∧ rv = .int .i64 (Rt.backEnds s' kind fuel d k) ∧ wr.heap[w.heap.size]? = some (.cells #[.int .i64 0, .int .i64 0, .int .i64 0, .int .i64 0, .int .i64 0, .int .i64 0] 36 (0, 0)) ∧ wr.heap[w.heap.size + 1]? = some (.cells (mvA kind fuel d k) 95 (0, 0)) ∧ SAft P B S cap X X' jv jv' s' w wr ∧ AtP S cap n low mk s' ∧ Rt.backRun kind fuel d (fuel + 1 - k) s' k = Rt.backRun kind fuel d (fuel + 1) s 0) (fun _ wr => fuel + 1 - mvAt wr (w.heap.size + 1))
  case atStart => exact ⟨0, s, X, jv, Nat.zero_le _, rfl, (unhide HA).2.1, (unhide HA).2.2, (unhide HA).1, (unhide HH).2.1, rfl⟩
  case round =>
    obtain ⟨k, s', X', jv', hk, rfl, bR, bM, hA, hks, hrun⟩ := hrel
    have m3 : wr.cell? ⟨w.heap.size + 1, 3, none⟩ = some (.int .i64 (k : Int)) := by have := cell_of_block bM 3 (by simp); simpa using this
    have f3 := free_of_block bM 3
    have HM := hide (show mvAt wr (w.heap.size + 1) = k by unfold mvAt; rw [m3]; simp)
    have HX := hide (And.intro bR (And.intro bM (And.intro hA (And.intro hks hrun))))
    have hRl := block_lt bR
    have hMl := block_lt bM
    clear bR bM hA hks hrun HA
    have hw3 : wrap64 ((k : Int) + 1) = (k : Int) + 1 := IntWalk.wrap64_in _ (by omega)
    have hw4 : IntKind.i64.wrap ((k : Int) + 1) = (k : Int) + 1 := by rw [IntWalk.i64_left, IntWalk.wrap64_in _ (by omega)]
    by_cases hz : Rt.backEnds s' kind fuel d k = 0
    · have hz' : (Rt.backEnds s' kind fuel d k == 0) = true := by simpa using hz
      have hlt := (Rt.backEnds_zero hz).2.2
      have hq := hide ((unhide HH).2.2.2 _ (unhide HX).2.2.2.1 _ _ hz)
      have HN := hide (show Rt.backRun kind fuel d (fuel + 1 - (k + 1)) (Rt.seBack s') (k + 1) = Rt.backRun kind fuel d (fuel + 1) s 0 by
        rw [← (unhide HX).2.2.2.2, show fuel + 1 - k = (fuel + 1 - (k + 1)) + 1 by omega, Rt.backRun, if_pos hz])
      clear hz
      go_wp2_with fail
      clear hz'
      obtain ⟨bR, bM, hA, hks, hrun⟩ := unhide HX
      refine (takeBack_any wr P B S cap s' X' jv' hA.ses (unhide hq).2.1 (unhide hq).2.2.1 (unhide hq).2.2.2).mono ?_
      rintro e w2 ⟨rfl, X2, jv2, hA2⟩
      have bR2 := SAft.keeps hA.ses hA2 bR (by omega) (by unfold OutTy PTy; decide)
      have bM2 := SAft.keeps hA.ses hA2 bM (by omega) (by unfold OutTy PTy; decide)
      have hA3 := (hA.trans hA2).other bM2 (by omega) (by unfold OutTy PTy; decide) 3 (.int .i64 ((k : Int) + 1))
      have bM3 : (w2.setCell ⟨w.heap.size + 1, 3, none⟩ (.int .i64 ((k : Int) + 1))).heap[w.heap.size + 1]? = some (.cells (mvA kind fuel d ((k : Int) + 1)) 95 (0, 0)) := by
        have := set_block bM2 3 (.int .i64 ((k : Int) + 1))
        simpa using this
      have bR3 : (w2.setCell ⟨w.heap.size + 1, 3, none⟩ (.int .i64 ((k : Int) + 1))).heap[w.heap.size]? = some (.cells #[.int .i64 0, .int .i64 0, .int .i64 0, .int .i64 0, .int .i64 0, .int .i64 0] 36 (0, 0)) := (Below.heap_setCell w2 ⟨w.heap.size + 1, 3, none⟩ _ _ (by show w.heap.size ≠ w.heap.size + 1; omega)).trans bR2
      have HY := hide (And.intro hA3 (And.intro bM3 bR3))
      have n0 : w2.cell? ⟨w.heap.size + 1, 0, none⟩ = some (.int .i64 kind) := by have := cell_of_block bM2 0 (by simp); simpa using this
      have n1 : w2.cell? ⟨w.heap.size + 1, 1, none⟩ = some (.int .i64 (fuel : Int)) := by have := cell_of_block bM2 1 (by simp); simpa using this
      have n2 : w2.cell? ⟨w.heap.size + 1, 2, none⟩ = some (.int .i64 d) := by have := cell_of_block bM2 2 (by simp); simpa using this
      have n3 : w2.cell? ⟨w.heap.size + 1, 3, none⟩ = some (.int .i64 (k : Int)) := by have := cell_of_block bM2 3 (by simp); simpa using this
      have g3 := free_of_block bM2 3
      clear bR bM hA hks hrun hA2 bR2 bM2 hA3 bM3 bR3 m3 f3
      go_wp2_with fail
      refine (backwardEnds_any _ P B S cap (Rt.seBack s') X2 jv2 (unhide HY).1.ses ((unhide HH).2.2.1 _ (unhide hq).1) kind fuel d ((k : Int) + 1)).mono ?_
      rintro e w4 ⟨rfl, hb4⟩
      have bM4 := block_later (unhide HY).2.1 hb4
      have m34 : w4.cell? ⟨w.heap.size + 1, 3, none⟩ = some (.int .i64 ((k : Int) + 1)) := by have := cell_of_block bM4 3 (by simp); simpa using this
      have HM4 := hide (show mvAt w4 (w.heap.size + 1) = k + 1 by unfold mvAt; rw [m34]; show ((k : Int) + 1).toNat = k + 1; omega)
      have HZ := hide (And.intro ((unhide HY).1.below hb4) (And.intro bM4 (block_later (unhide HY).2.2 hb4)))
      clear hb4 bM4 m34 n0 n1 n2 n3 g3
      go_wp2_with fail
      go_roundw
      case rel => exact ⟨k + 1, Rt.seBack s', X2, jv2, by omega, rfl, (unhide HZ).2.2, (unhide HZ).2.1, (unhide HZ).1, (unhide hq).1, unhide HN⟩
      case measure =>
        show fuel + 1 - mvAt w4 (w.heap.size + 1) < fuel + 1 - mvAt wr (w.heap.size + 1)
        rw [unhide HM, unhide HM4]
        omega
    · have hz' : (Rt.backEnds s' kind fuel d k == 0) = false := by simpa using hz
      have HE := hide (show Rt.backRun kind fuel d (fuel + 1) s 0 = (s', k, Rt.backEnds s' kind fuel d k) by
        rw [← (unhide HX).2.2.2.2, show fuel + 1 - k = (fuel - k) + 1 by omega, Rt.backRun, if_neg hz])
      clear hz
      obtain ⟨bR, bM, hA, hks, hrun⟩ := unhide HX
      have n0 : wr.cell? ⟨w.heap.size + 1, 0, none⟩ = some (.int .i64 kind) := by have := cell_of_block bM 0 (by simp); simpa using this
      have n1 : wr.cell? ⟨w.heap.size + 1, 1, none⟩ = some (.int .i64 (fuel : Int)) := by have := cell_of_block bM 1 (by simp); simpa using this
      have n2 : wr.cell? ⟨w.heap.size + 1, 2, none⟩ = some (.int .i64 d) := by have := cell_of_block bM 2 (by simp); simpa using this
      clear bR bM hA hks hrun
      generalize hrs : Rt.backEnds s' kind fuel d k = rs at *
      clear hrs
      go_wp2_with fail
      obtain ⟨bR, bM, hA, _, _⟩ := unhide HX
      refine (reply_any wr P B S cap s' X' jv' hA.ses kind fuel d k rs).mono ?_
      rintro e w3 ⟨rfl, hb3⟩
      have bR3 := block_later bR hb3
      have hA3 := hA.below hb3
      obtain ⟨y0, y1, y2, y3, y4, y5, z⟩ := six_any bR3
      have HF := hide (fun a b c x y q => SAft.six hA3 bR3 (Nat.le_refl _) (by unfold OutTy PTy; decide) a b c x y q)
      clear bR bM hA hb3 bR3 hA3 n0 n1 n2 m3
      go_wp2_with fail
      refine bodyPost_ret (v := .tuple #[.agg (replyA rs k s'), .int .i64 0]) ?_ rfl ⟨_, _, by rw [unhide HE], by rw [unhide HE]; exact unhide HF _ _ _ _ _ _⟩
      simp [results, Tryz.results24, go_sem, y0, y1, y2, y3, y4, y5]
end Go.Proofs.YtbpajiljfppjcaaGreatDoor

namespace Go.Proofs.YtbpajiljfppjcaaGreatDoor
open Go.RowKit
attribute [local go_sem ↓] Go.wp_at_zero Go.wp_at_succ

namespace Rt
/-- What a name means at a place: the value, the error. -/
def valueR (S : Src) (m : Mc) (x : ByteArray) : Int × Int := if isVar S.pls (procOf S m) x = true then (getS m (varS S m x), 0) else (0, 4)
/-- A cell of an array at a place: the value, the error. -/
def cellR (S : Src) (m : Mc) (x : ByteArray) (n : Int) : Int × Int := if isArr S.pls (procOf S m) x = true then (match cellS S m x n with | some s => (getS m s, 0) | none => (0, 9)) else (0, 4)
/-- The lines of the calls. -/
def callsL (m : Mc) : List Int := (m.frames.drop 1).map Fm.call
end Rt
theorem cellb_lt {w : World} {b o : Nat} {v : Value} (h : w.cell? ⟨b, o, none⟩ = some v) : b < w.heap.size := by
  unfold World.cell? at h
  split at h
  · rename_i hb; exact (Array.getElem?_eq_some_iff.1 hb).1
  · cases h
set_option maxHeartbeats 1000000 in
theorem mValue_any (w : World) (M B : Nat) (ty : TypeId) (tail : List Value) (S : Rt.Src) (m : Rt.Mc) (X : McX) (x : ByteArray) (h : McS w M B ty tail S m X) (hm : Mok S m) :
    Calls Tryz.prog 79 #[.pointer (some ⟨M, 0, none⟩), .string x] w fun e w' => e = .returned (.tuple #[.int .i64 (Rt.valueR S m x).1, .int .i64 (Rt.valueR S m x).2]) ∧ Below w.heap.size w w' := by
  have hpar : (Rt.formAt S.pls (Rt.procOf S m)).params.length ≤ 1000 := Rt.small_formAt hm.forms (Rt.procOf S m)
  go_enter Tryz.func79, Tryz.ntmps79
  go_wp2_with fail
  refine (proc_any w M B ty tail S m X h).mono ?_
  rintro e w1 ⟨rfl, hb1⟩
  have HV := hide (show Rt.valueR S m x = if Rt.isVar S.pls (Rt.procOf S m) x = true then (Rt.getS m (Rt.varS S m x), 0) else (0, 4) from rfl)
  generalize Rt.procOf S m = pc at *
  go_wp2_with fail
  refine (isVariable_m _ _ _ _ _ _ _ pc x (h.prog.later hb1) hm.pls hpar).mono ?_
  rintro e w2 ⟨rfl, hb2⟩
  have hB2 := hb1.trans (hb2.mono hb1.size)
  have h2 := h.later hB2
  clear hb1 hb2 hpar
  cases hv : Rt.isVar S.pls pc x with
  | false =>
    have HE := hide (show Rt.valueR S m x = (0, 4) by rw [unhide HV, hv]; rfl)
    have HB := hide hB2
    clear h h2 hm hB2 hv HV
    go_wp2_with fail
    refine bodyPost_ret (v := .tuple #[.int .i64 0, .int .i64 4]) ?_ rfl ⟨by rw [unhide HE], unhide HB⟩
    simp [results, Tryz.results79, go_sem]
  | true =>
    have HE := hide (show Rt.valueR S m x = (Rt.getS m (Rt.varS S m x), 0) by rw [unhide HV, hv]; rfl)
    have HH := hide (And.intro h2 (And.intro hm hB2))
    clear h h2 hm hB2 hv HV
    go_wp2_with fail
    refine (mvar_any w2 M B ty tail S m X x (unhide HH).1 (unhide HH).2.1).mono ?_
    rintro e w3 ⟨rfl, hb3⟩
    have HB := hide ((unhide HH).2.2.trans (hb3.mono (unhide HH).2.2.size))
    have h3 := (unhide HH).1.later hb3
    obtain ⟨_, hm, _⟩ := unhide HH
    generalize hsp : Rt.varS S m x = sp at *
    have HG := hide (fun (W : World) (hW : McS W M B ty tail S m X) => get_any W M B ty tail S m X sp hW hm)
    have HH3 := hide h3
    clear hsp hb3 h3 hm HH
    generalize Rt.getS m sp = gv at *
    go_wp2_with fail
    have hbC := (Below.refl w3.heap.size w3).alloc (Nat.le_refl _) (.cells #[.int .i64 sp.line, .int .i64 sp.cell] 131)
    refine (unhide HG _ ((unhide HH3).later hbC)).mono ?_
    rintro e w4 ⟨rfl, hb4⟩
    have HB4 := hide ((unhide HB).trans ((hbC.trans (hb4.mono (B' := w3.heap.size) (by simp))).mono (unhide HB).size))
    clear hbC hb4
    go_wp2_with fail
    refine bodyPost_ret (v := .tuple #[.int .i64 gv, .int .i64 0]) ?_ rfl ⟨by rw [unhide HE], unhide HB4⟩
    simp [results, Tryz.results79, go_sem]
set_option maxHeartbeats 1000000 in
theorem mCell_any (w : World) (M B : Nat) (ty : TypeId) (tail : List Value) (S : Rt.Src) (m : Rt.Mc) (X : McX) (x : ByteArray) (n : Int) (h : McS w M B ty tail S m X) (hm : Mok S m) :
    Calls Tryz.prog 80 #[.pointer (some ⟨M, 0, none⟩), .string x, .int .i64 n] w fun e w' => e = .returned (.tuple #[.int .i64 (Rt.cellR S m x n).1, .int .i64 (Rt.cellR S m x n).2]) ∧ Below w.heap.size w w' := by
  have hpar : (Rt.formAt S.pls (Rt.procOf S m)).params.length ≤ 1000 := Rt.small_formAt hm.forms (Rt.procOf S m)
  go_enter Tryz.func80, Tryz.ntmps80
  go_wp2_with fail
  refine (proc_any w M B ty tail S m X h).mono ?_
  rintro e w1 ⟨rfl, hb1⟩
  have HV := hide (show Rt.cellR S m x n = if Rt.isArr S.pls (Rt.procOf S m) x = true then (match Rt.cellS S m x n with | some s => (Rt.getS m s, (0 : Int)) | none => ((0 : Int), (9 : Int))) else ((0 : Int), (4 : Int)) from rfl)
  generalize Rt.procOf S m = pc at *
  go_wp2_with fail
  refine (isArray_m _ _ _ _ _ _ _ pc x (h.prog.later hb1) hm.pls hpar).mono ?_
  rintro e w2 ⟨rfl, hb2⟩
  have hB2 := hb1.trans (hb2.mono hb1.size)
  have h2 := h.later hB2
  clear hb1 hb2 hpar
  cases hv : Rt.isArr S.pls pc x with
  | false =>
    have HE := hide (show Rt.cellR S m x n = (0, 4) by rw [unhide HV, hv]; rfl)
    have HB := hide hB2
    clear h h2 hm hB2 hv HV
    go_wp2_with fail
    refine bodyPost_ret (v := .tuple #[.int .i64 0, .int .i64 4]) ?_ rfl ⟨by rw [unhide HE], unhide HB⟩
    simp [results, Tryz.results80, go_sem]
  | true =>
    have HE := hide (show Rt.cellR S m x n = (match Rt.cellS S m x n with | some s => (Rt.getS m s, (0 : Int)) | none => ((0 : Int), (9 : Int))) by rw [unhide HV, hv]; rfl)
    have HH := hide (And.intro h2 (And.intro hm hB2))
    clear h h2 hm hB2 hv HV
    go_wp2_with fail
    refine (mcell_any w2 M B ty tail S m X x n (unhide HH).1 (unhide HH).2.1).mono ?_
    rintro e w3 ⟨rfl, hb3⟩
    have HB := hide ((unhide HH).2.2.trans (hb3.mono (unhide HH).2.2.size))
    have h3 := (unhide HH).1.later hb3
    obtain ⟨_, hm, _⟩ := unhide HH
    cases hsp : Rt.cellS S m x n with
    | none =>
      rw [hsp] at HE
      clear hsp hb3 h3 hm HH
      unfold cellR
      go_wp2_with fail
      refine bodyPost_ret (v := .tuple #[.int .i64 0, .int .i64 9]) ?_ rfl ⟨by rw [unhide HE], (unhide HB).alloc (unhide HB).size _⟩
      simp [results, Tryz.results80, go_sem]
    | some sp =>
      rw [hsp] at HE
      have HG := hide (fun (W : World) (hW : McS W M B ty tail S m X) => get_any W M B ty tail S m X sp hW hm)
      have HH3 := hide h3
      clear hsp hb3 h3 hm HH
      simp only at HE
      generalize Rt.getS m sp = gv at *
      unfold cellR
      go_wp2_with fail
      have hbC := (Below.refl w3.heap.size w3).alloc (Nat.le_refl _) (.cells #[.int .i64 sp.line, .int .i64 sp.cell] 131)
      refine (unhide HG _ ((unhide HH3).later hbC)).mono ?_
      rintro e w4 ⟨rfl, hb4⟩
      have HB4 := hide ((unhide HB).trans ((hbC.trans (hb4.mono (B' := w3.heap.size) (by simp))).mono (unhide HB).size))
      clear hbC hb4
      go_wp2_with fail
      refine bodyPost_ret (v := .tuple #[.int .i64 gv, .int .i64 0]) ?_ rfl ⟨by rw [unhide HE], unhide HB4⟩
      simp [results, Tryz.results80, go_sem]
set_option maxHeartbeats 1000000 in
set_option maxRecDepth 100000 in
theorem mCalls_any (w : World) (M B : Nat) (ty : TypeId) (tail : List Value) (S : Rt.Src) (m : Rt.Mc) (X : McX) (h : McS w M B ty tail S m X) (hm : m.frames.length ≤ 1000) (h0 : 0 < m.frames.length) :
    Calls Tryz.prog 81 #[.pointer (some ⟨M, 0, none⟩)] w fun e w' => Below w.heap.size w w' ∧ ∃ v, e = .returned v ∧ w'.ownsRow w.heap.size 3 1 v (Rt.callsL m).length (intsV (Rt.callsL m)) := by
  obtain ⟨i0, hi0, hz0, hz1, hz2⟩ := info_parts Tryz.infoIntK
  have HH := hide h
  obtain ⟨fad, fcap, hfv⟩ := ownsRow_form h.frames
  have HC := hide (show ∀ k, (hk : k < m.frames.length) → ∃ g, fad = some ⟨g, 0, none⟩ ∧ (X.fv.ownBlock = some g) ∧ ∀ W, Below w.heap.size w W → W.cell? ⟨g, k * 2 + 1, none⟩ = some (.int .i64 m.frames[k].call) by
    intro k hk
    obtain ⟨g, gcap, hg, _, _, k2⟩ := own_cell h.frames (fCells_get X.fps m.frames h.fl k hk).2
    refine ⟨g, by rw [hfv] at hg; injection hg, by rw [hg]; rfl, fun W hW => cell_later hW k2⟩)
  have HX := hide (show ∀ W, Below w.heap.size w W → W.cell? ⟨M, 2, none⟩ = some (.slice fad m.frames.length fcap) from fun W hW => by rw [← hfv]; exact (h.later hW).c2)
  have HL := hide (show ∀ k, (hk : k < m.frames.length) → (Rt.callsL m).take (k - 1) ++ (if 1 ≤ k then [m.frames[k].call] else []) = (Rt.callsL m).take k by
    intro k hk
    unfold Rt.callsL
    cases k with
    | zero => simp
    | succ k =>
      have : ((m.frames.drop 1).map Rt.Fm.call)[k]? = some m.frames[k + 1].call := by
        rw [List.getElem?_map, List.getElem?_drop, show 1 + k = k + 1 by omega, List.getElem?_eq_getElem hk]
        rfl
      rw [List.take_add_one, this]
      simp)
  have HCL := hide (show (Rt.callsL m).length = m.frames.length - 1 by unfold Rt.callsL; simp)
  clear h hfv
  go_enter Tryz.func81, Tryz.ntmps81
  go_wp2_with fail
  go_loopw [3, 4] (fun v i wr => ∃ k : Nat, k + 1 ≤ m.frames.length ∧ i = .int .i64 ((k : Int) + 1) ∧ wr.ownsRow w.heap.size 3 1 v k (intsV ((Rt.callsL m).take k)) ∧ Below w.heap.size w wr)
    (fun _ i _ => m.frames.length + 1 - (intOf i).toNat)
  case atStart => exact ⟨0, by omega, rfl, World.ownsRow_nil _ _ _ _, Below.refl _ _⟩
  case round =>
    obtain ⟨k, hk, rfl, hown, hbe⟩ := hrel
    have hsz := hbe.size
    obtain ⟨adv, capv, rfl⟩ := ownsRow_form hown
    have c2 := unhide HX wr hbe
    by_cases hlt : k + 1 < m.frames.length
    · obtain ⟨g, rfl, _, hc⟩ := unhide HC (k + 1) hlt
      have k2 := hc wr hbe
      have hg := cellb_lt k2
      have HT := hide (unhide HL (k + 1) hlt)
      generalize m.frames[k + 1].call = q at *
      have hlt' : ((k : Int) + 1) < (m.frames.length : Int) := by omega
      have h0' : (0 : Int) ≤ (k : Int) + 1 := by omega
      have ek : ((k : Int) + 1).toNat = k + 1 := by omega
      clear hc
      go_wp2_with (at_builtin; refine wpList_append_own _ rfl _ _ 22 rfl w.heap.size 3 i0 _ 1 8 Tryz.underlying22 hi0 hz0 hz1 hz2 rfl (by decide) _ _ _ rfl (hown.alloc _) ⟨_, 0, none⟩ 1 1 [.int .i64 q] rfl rfl (cell_one_new _ _ _) ?c2 ?c3 ?c4 ?c5 ?_)
      case c2 => intro u hu; simp at hu; rcases hu with rfl; rfl
      case c3 => unfold maxLen; omega
      case c4 => omega
      case c5 => simp; omega
      intro v' w3 hown3 hgrow _
      have hbe3 := below_append hbe hsz hown hgrow
      have HF := hide (And.intro hown3 hbe3)
      clear hown3 hbe3 hgrow hown hbe c2 k2
      go_wp2_with fail
      go_roundw
      case rel =>
        obtain ⟨q2, q3⟩ := unhide HF
        have ht := unhide HT
        rw [Nat.add_sub_cancel, if_pos (by omega)] at ht
        exact ⟨k + 1, by omega, by go_num, by rw [← ht, intsV, List.map_append]; exact q2, q3⟩
      case measure => simp [intOf]; omega
    · have HF := hide (And.intro hown hbe)
      have hlt' : ¬ ((k : Int) + 1) < (m.frames.length : Int) := by omega
      have HE := hide (show (Rt.callsL m).take k = Rt.callsL m ∧ (Rt.callsL m).length = k from by
        have hcl := unhide HCL
        exact ⟨List.take_of_length_le (by omega), by omega⟩)
      clear hown hbe
      go_wp2_with fail
      go_ret
      refine ⟨(unhide HF).2, _, rfl, ?_⟩
      have := (unhide HF).1
      rw [(unhide HE).1] at this
      rw [(unhide HE).2]
      exact this
theorem sValue_any (w : World) (P B : Nat) (S : Rt.Src) (cap : Int) (s : Rt.Se) (X : McX) (jv : Value) (x : ByteArray) (h : SesS w P B S cap s X jv) (hm : Mok S s.m) :
    Calls Tryz.prog 52 #[.pointer (some ⟨P, 0, none⟩), .string x] w fun e w' => e = .returned (.tuple #[.int .i64 (Rt.valueR S s.m x).1, .int .i64 (Rt.valueR S s.m x).2]) ∧ Below w.heap.size w w' := by
  have HC := hide (mValue_any w P B _ _ S s.m X x h.mc hm)
  clear h hm
  go_enter Tryz.func52, Tryz.ntmps52
  go_wp2_with fail
  refine (unhide HC).mono ?_
  rintro e w1 ⟨rfl, hb1⟩
  have HB := hide hb1
  clear hb1
  go_wp2_with fail
  refine bodyPost_ret (v := .tuple #[.int .i64 (Rt.valueR S s.m x).1, .int .i64 (Rt.valueR S s.m x).2]) ?_ rfl ⟨rfl, unhide HB⟩
  simp [results, Tryz.results52, go_sem]
theorem sCell_any (w : World) (P B : Nat) (S : Rt.Src) (cap : Int) (s : Rt.Se) (X : McX) (jv : Value) (x : ByteArray) (n : Int) (h : SesS w P B S cap s X jv) (hm : Mok S s.m) :
    Calls Tryz.prog 53 #[.pointer (some ⟨P, 0, none⟩), .string x, .int .i64 n] w fun e w' => e = .returned (.tuple #[.int .i64 (Rt.cellR S s.m x n).1, .int .i64 (Rt.cellR S s.m x n).2]) ∧ Below w.heap.size w w' := by
  have HC := hide (mCell_any w P B _ _ S s.m X x n h.mc hm)
  clear h hm
  go_enter Tryz.func53, Tryz.ntmps53
  go_wp2_with fail
  refine (unhide HC).mono ?_
  rintro e w1 ⟨rfl, hb1⟩
  have HB := hide hb1
  clear hb1
  go_wp2_with fail
  refine bodyPost_ret (v := .tuple #[.int .i64 (Rt.cellR S s.m x n).1, .int .i64 (Rt.cellR S s.m x n).2]) ?_ rfl ⟨rfl, unhide HB⟩
  simp [results, Tryz.results53, go_sem]
theorem sCalls_any (w : World) (P B : Nat) (S : Rt.Src) (cap : Int) (s : Rt.Se) (X : McX) (jv : Value) (h : SesS w P B S cap s X jv) (hm : s.m.frames.length ≤ 1000) (h0 : 0 < s.m.frames.length) :
    Calls Tryz.prog 54 #[.pointer (some ⟨P, 0, none⟩)] w fun e w' => Below w.heap.size w w' ∧ ∃ v, e = .returned v ∧ w'.ownsRow w.heap.size 3 1 v (Rt.callsL s.m).length (intsV (Rt.callsL s.m)) := by
  have HC := hide (mCalls_any w P B _ _ S s.m X h.mc hm h0)
  clear h
  go_enter Tryz.func54, Tryz.ntmps54
  go_wp2_with fail
  refine (unhide HC).mono ?_
  rintro e w1 ⟨hb1, v, rfl, hv⟩
  have HF := hide (And.intro hb1 hv)
  clear hb1 hv
  go_wp2_with fail
  go_ret
  exact ⟨(unhide HF).1, v, rfl, (unhide HF).2⟩
end Go.Proofs.YtbpajiljfppjcaaGreatDoor

namespace Go.Proofs.YtbpajiljfppjcaaGreatDoor
open Go.RowKit

namespace Rt
/-- Blanks behind a text, two for each block. -/
def spP (out : ByteArray) : Nat → ByteArray
  | 0 => out
  | k + 1 => spP out k ++ ⟨#[32, 32]⟩
/-- The first i tokens of a line behind a text. -/
def tokP (out : ByteArray) (t : List Tk) : Nat → ByteArray
  | 0 => out
  | i + 1 => (if 0 < i then tokP out t i ++ ⟨#[32]⟩ else tokP out t i) ++ ((t[i]?).map Tk.text).getD ⟨#[]⟩
/-- A line, tidied. -/
def tidyLn (pl : PL) : ByteArray := if pl.toks.length = 0 then ⟨#[]⟩ else tokP (spP ⟨#[]⟩ pl.depth.toNat) pl.toks pl.toks.length
theorem spP_size (out : ByteArray) : ∀ k, (spP out k).size = out.size + 2 * k
  | 0 => rfl
  | k + 1 => by rw [spP, ByteArray.size_append, spP_size out k]; show _ + 2 = _; omega
theorem tokP_size {t : List Tk} (ht : ∀ x ∈ t, x.text.size ≤ 40000) (out : ByteArray) : ∀ i, i ≤ t.length → (tokP out t i).size ≤ out.size + i * 40001
  | 0, _ => by rw [tokP]; omega
  | i + 1, hi => by
    have ih := tokP_size ht out i (by omega)
    have hx := ht _ (List.getElem_mem (show i < t.length by omega))
    rw [tokP, ByteArray.size_append, List.getElem?_eq_getElem (show i < t.length by omega)]
    simp only [Option.map_some, Option.getD_some]
    split
    · rw [ByteArray.size_append]
      have : (ByteArray.mk #[32]).size = 1 := rfl
      omega
    · omega
end Rt
namespace Rt
/-- The first k lines (from line 1 on), tidied. -/
def tidyTo (pls : List PL) : Nat → ByteArray
  | 0 => ⟨#[]⟩
  | k + 1 => (if 0 < k then tidyTo pls k ++ ⟨#[10]⟩ else tidyTo pls k) ++ tidyLn ((pls[k + 1]?).getD zPL)
def tidyP (pls : List PL) : ByteArray := tidyTo pls (pls.length - 1)
/-- Lines of no great size. -/
def Fit (pl : PL) : Prop := pl.toks.length ≤ 1000 ∧ (∀ t ∈ pl.toks, t.text.size ≤ 40000) ∧ pl.depth ≤ 1000
theorem tidyLn_size {pl : PL} (h : Fit pl) : (tidyLn pl).size ≤ 49999999 := by
  obtain ⟨h1, h2, h3⟩ := h
  unfold tidyLn
  split
  · show 0 ≤ _; omega
  · have := tokP_size h2 (spP ⟨#[]⟩ pl.depth.toNat) _ (Nat.le_refl _)
    rw [spP_size] at this
    have h0 : (ByteArray.mk #[]).size = 0 := rfl
    have h4 : pl.toks.length * 40001 ≤ 1000 * 40001 := Nat.mul_le_mul_right _ h1
    omega
theorem zPL_fit : Fit zPL := ⟨by simp [zPL], by simp [zPL], by simp [zPL]⟩
theorem tidyTo_size {pls : List PL} (h : ∀ p ∈ pls, Fit p) : ∀ k, (tidyTo pls k).size ≤ k * 50000000
  | 0 => by show 0 ≤ _; omega
  | k + 1 => by
    have ih := tidyTo_size h k
    have hf : Fit ((pls[k + 1]?).getD zPL) := by
      cases hq : pls[k + 1]? with
      | none => exact zPL_fit
      | some p => exact h p (List.mem_of_getElem? hq)
    have hl := tidyLn_size hf
    rw [tidyTo, ByteArray.size_append]
    split
    · rw [ByteArray.size_append]
      have : (ByteArray.mk #[10]).size = 1 := rfl
      omega
    · omega
end Rt
end Go.Proofs.YtbpajiljfppjcaaGreatDoor

