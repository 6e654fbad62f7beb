/- What Straight calls besides. -/
import Derived.Test.YtbpajiljfppjcaaGreatDoorRtTidy
import Derived.Test.YtbpajiljfppjcaaGreatDoorMkD
import Derived.Test.YtbpajiljfppjcaaGreatDoorJrD
import Derived.Test.YtbpajiljfppjcaaGreatDoorRwA
namespace Go.Proofs.YtbpajiljfppjcaaGreatDoor
open Go.RowKit

namespace Rt
/-- Why a move forward ends at a place. -/
def endsN (S : Src) (mk : List Bool) (kind fuel d0 : Int) (n k : Nat) : Int := fwdEnds (seAt S n 0 mk) kind fuel d0 k
/-- A move forward over the places. -/
def fwdN (S : Src) (mk : List Bool) (kind fuel d0 : Int) : Nat → Nat → Nat → Nat × Nat × Int
  | 0, n, k => (n, k, 4)
  | f + 1, n, k => if endsN S mk kind fuel d0 n k = 0 then fwdN S mk kind fuel d0 f (n + 1) (k + 1) else (n, k, endsN S mk kind fuel d0 n k)
/-- Low behind j steps. -/
def lowJ (S : Src) (cap : Int) : Nat → Nat → Nat → Nat
  | 0, _, low => low
  | j + 1, n, low => lowJ S cap j (n + 1) (lowF S cap n low)
theorem lowF_ge (S : Src) (cap : Int) (n low : Nat) : low ≤ lowF S cap n low := lowR_ge S cap _ _
theorem lowJ_ge (S : Src) (cap : Int) : ∀ j n low, low ≤ lowJ S cap j n low
  | 0, _, _ => Nat.le_refl _
  | j + 1, n, low => Nat.le_trans (lowF_ge S cap n low) (lowJ_ge S cap j (n + 1) _)
theorem lowJ_more (S : Src) (cap : Int) : ∀ i j n low, lowJ S cap (i + j) n low = lowJ S cap j (n + i) (lowJ S cap i n low)
  | 0, j, n, low => by rw [Nat.zero_add]; rfl
  | i + 1, j, n, low => by
    rw [show i + 1 + j = (i + j) + 1 by omega, lowJ, lowJ_more S cap i j (n + 1) _, lowJ, show n + 1 + i = n + (i + 1) by omega]
theorem fwdN_form (S : Src) (mk : List Bool) (kind : Int) (fuel : Nat) (d0 : Int) : ∀ (f n k : Nat), k + f = fuel + 1 → 0 < f → ∃ j, fwdN S mk kind fuel d0 f n k = (n + j, k + j, endsN S mk kind fuel d0 (n + j) (k + j)) ∧ k + j ≤ fuel ∧ ¬ endsN S mk kind fuel d0 (n + j) (k + j) = 0 ∧ ∀ i, i < j → endsN S mk kind fuel d0 (n + i) (k + i) = 0
  | 0, _, _, _, h => by omega
  | f + 1, n, k, he, _ => by
    rw [fwdN]
    by_cases hz : endsN S mk kind fuel d0 n k = 0
    · rw [if_pos hz]
      have hlt : (k : Int) < fuel := (fwdEnds_zero hz).2
      obtain ⟨j, h1, h2, h3, h4⟩ := fwdN_form S mk kind fuel d0 f (n + 1) (k + 1) (by omega) (by omega)
      have ej : n + 1 + j = n + (j + 1) := by omega
      have ek : k + 1 + j = k + (j + 1) := by omega
      rw [ej, ek] at h1 h3
      refine ⟨j + 1, h1, by omega, h3, fun i hi => ?_⟩
      cases i with
      | zero => exact hz
      | succ i =>
        have := h4 i (by omega)
        rwa [show n + 1 + i = n + (i + 1) by omega, show k + 1 + i = k + (i + 1) by omega] at this
    · rw [if_neg hz]
      exact ⟨0, rfl, by omega, hz, fun i hi => by omega⟩
/-- A move of a session is a move over the places. -/
theorem fwdRun_at {S : Src} {cap : Int} (hc : 0 ≤ cap) (mk : List Bool) (kind fuel d0 : Int) : ∀ (f n k low : Nat), SeOk S cap n low → n + f ≤ 4611686018427387000 →
    fwdRun S cap kind fuel d0 f (seAt S n low mk) k = (seAt S (fwdN S mk kind fuel d0 f n k).1 (lowJ S cap ((fwdN S mk kind fuel d0 f n k).1 - n) n low) mk, (fwdN S mk kind fuel d0 f n k).2) ∧ SeOk S cap (fwdN S mk kind fuel d0 f n k).1 (lowJ S cap ((fwdN S mk kind fuel d0 f n k).1 - n) n low) ∧ n ≤ (fwdN S mk kind fuel d0 f n k).1
  | 0, n, k, low, h, _ => by
    rw [fwdN, fwdRun]
    simp only [Nat.sub_self, lowJ]
    exact ⟨trivial, h, Nat.le_refl _⟩
  | f + 1, n, k, low, h, hn => by
    rw [fwdN, fwdRun]
    have he : fwdEnds (seAt S n low mk) kind fuel d0 k = endsN S mk kind fuel d0 n k := rfl
    rw [he]
    by_cases hz : endsN S mk kind fuel d0 n k = 0
    · rw [if_pos hz, if_pos hz]
      have hfin : (atM S n).fin = 0 := (fwdEnds_zero hz).1
      rw [seStep_at h hc hfin (by omega) mk]
      obtain ⟨h1, h2, h3⟩ := fwdRun_at hc mk kind fuel d0 f (n + 1) (k + 1) (lowF S cap n low) (h.step hc hfin) (by omega)
      generalize fwdN S mk kind fuel d0 f (n + 1) (k + 1) = r at *
      have el : lowJ S cap (r.1 - n) n low = lowJ S cap (r.1 - (n + 1)) (n + 1) (lowF S cap n low) := by
        rw [show r.1 - n = (r.1 - (n + 1)) + 1 by omega, lowJ]
      rw [el]
      exact ⟨h1, h2, by omega⟩
    · rw [if_neg hz, if_neg hz]
      simp only [Nat.sub_self, lowJ]
      exact ⟨trivial, h, Nat.le_refl _⟩
/-- Why a move backward ends at a place. -/
def bendsN (S : Src) (mk : List Bool) (low : Nat) (kind fuel d0 : Int) (n k : Nat) : Int := backEnds (seAt S n low mk) kind fuel d0 k
/-- A move backward over the places. -/
def backN (S : Src) (mk : List Bool) (low : Nat) (kind fuel d0 : Int) : Nat → Nat → Nat → Nat × Nat × Int
  | 0, n, k => (n, k, 4)
  | f + 1, n, k => if bendsN S mk low kind fuel d0 n k = 0 then backN S mk low kind fuel d0 f (n - 1) (k + 1) else (n, k, bendsN S mk low kind fuel d0 n k)
theorem bends_zero {S : Src} {mk : List Bool} {low : Nat} {kind fuel d0 : Int} {n k : Nat} (h : bendsN S mk low kind fuel d0 n k = 0) : n ≠ 0 ∧ n ≠ low ∧ (k : Int) < fuel := by
  obtain ⟨h1, h2, h3⟩ := backEnds_zero h
  clear h
  have h1 : (n : Int) ≠ 0 := h1
  have h2 : (n : Int) ≠ (low : Int) := h2
  exact ⟨by omega, by omega, h3⟩
theorem backN_form (S : Src) (mk : List Bool) (low : Nat) (kind : Int) (fuel : Nat) (d0 : Int) : ∀ (f n k : Nat), low ≤ n → k + f = fuel + 1 → 0 < f → ∃ j, backN S mk low kind fuel d0 f n k = (n - j, k + j, bendsN S mk low kind fuel d0 (n - j) (k + j)) ∧ low + j ≤ n ∧ k + j ≤ fuel ∧ ¬ bendsN S mk low kind fuel d0 (n - j) (k + j) = 0 ∧ ∀ i, i < j → bendsN S mk low kind fuel d0 (n - i) (k + i) = 0
  | 0, _, _, _, _, h => by omega
  | f + 1, n, k, hl, he, _ => by
    rw [backN]
    by_cases hz : bendsN S mk low kind fuel d0 n k = 0
    · rw [if_pos hz]
      obtain ⟨h0, h0', hlt⟩ := bends_zero hz
      obtain ⟨j, h1, h1', h2, h3, h4⟩ := backN_form S mk low kind fuel d0 f (n - 1) (k + 1) (by omega) (by omega) (by omega)
      have ej : n - 1 - j = n - (j + 1) := by omega
      have ek : k + 1 + j = k + (j + 1) := by omega
      rw [ej, ek] at h1 h3
      refine ⟨j + 1, h1, by omega, by omega, h3, fun i hi => ?_⟩
      cases i with
      | zero => exact hz
      | succ i =>
        have := h4 i (by omega)
        rwa [show n - 1 - i = n - (i + 1) by omega, show k + 1 + i = k + (i + 1) by omega] at this
    · rw [if_neg hz]
      exact ⟨0, rfl, by omega, by omega, hz, fun i hi => by omega⟩
theorem backRun_at {S : Src} {cap : Int} (hi : S.input.length ≤ 100) (mk : List Bool) (low : Nat) (kind fuel d0 : Int) : ∀ (f n k : Nat), SeOk S cap n low → n ≤ 4611686018427387000 →
    backRun kind fuel d0 f (seAt S n low mk) k = (seAt S (backN S mk low kind fuel d0 f n k).1 low mk, (backN S mk low kind fuel d0 f n k).2) ∧ SeOk S cap (backN S mk low kind fuel d0 f n k).1 low ∧ (backN S mk low kind fuel d0 f n k).1 ≤ n
  | 0, n, k, h, _ => by
    rw [backN, backRun]
    exact ⟨rfl, h, Nat.le_refl _⟩
  | f + 1, n, k, h, hn => by
    rw [backN, backRun]
    have he : backEnds (seAt S n low mk) kind fuel d0 k = bendsN S mk low kind fuel d0 n k := rfl
    rw [he]
    by_cases hz : bendsN S mk low kind fuel d0 n k = 0
    · rw [if_pos hz, if_pos hz]
      obtain ⟨h0, h0', hlt⟩ := bends_zero hz
      obtain ⟨q, rfl⟩ : ∃ q, n = q + 1 := ⟨n - 1, by omega⟩
      have hle := h.le
      rw [seBack_at h (by omega) hi (by omega) mk, Nat.add_sub_cancel]
      obtain ⟨h1, h2, h3⟩ := backRun_at hi mk low kind fuel d0 f q (k + 1) (h.back (by omega)) (by omega)
      exact ⟨h1, h2, by omega⟩
    · rw [if_neg hz, if_neg hz]
      exact ⟨rfl, h, Nat.le_refl _⟩
/-- A raw number as a move: its kind, its fuel, whether it goes forward. -/
def mvV (raw : Int) : Nat := (pickP raw 1099511627776).toNat
def mvK (raw : Int) : Nat := mvV raw / 3 % 4
def mvF (raw : Int) : Nat := mvV raw / 12 % 60
/-- A move of a session. -/
def moveR (S : Src) (cap raw : Int) (s : Se) : Se × Nat × Int := if mvV raw % 3 < 2 then fwdRun S cap (mvK raw) (mvF raw) s.m.frames.length (mvF raw + 1) s 0 else backRun (mvK raw) (mvF raw) s.m.frames.length (mvF raw + 1) s 0
/-- A move over the places. -/
def moveN (S : Src) (mk : List Bool) (low : Nat) (raw : Int) (n : Nat) : Nat × Nat × Int := if mvV raw % 3 < 2 then fwdN S mk (mvK raw) (mvF raw) (atM S n).frames.length (mvF raw + 1) n 0 else backN S mk low (mvK raw) (mvF raw) (atM S n).frames.length (mvF raw + 1) n 0
def moveLow (S : Src) (cap : Int) (mk : List Bool) (low : Nat) (raw : Int) (n : Nat) : Nat := if mvV raw % 3 < 2 then lowJ S cap ((moveN S mk low raw n).1 - n) n low else low
theorem moveLow_ge (S : Src) (cap : Int) (mk : List Bool) (low : Nat) (raw : Int) (n : Nat) : low ≤ moveLow S cap mk low raw n := by
  unfold moveLow
  split
  · exact lowJ_ge S cap _ _ _
  · exact Nat.le_refl _
theorem mvF_lt (raw : Int) : mvF raw < 60 := Nat.mod_lt _ (by omega)
theorem mvK_lt (raw : Int) : mvK raw < 4 := Nat.mod_lt _ (by omega)
theorem moveR_at {S : Src} {cap : Int} (hc : 0 ≤ cap) (hi : S.input.length ≤ 100) (mk : List Bool) (raw : Int) (n low : Nat) (h : SeOk S cap n low) (hn : n + 60 ≤ 4611686018427387000) :
    moveR S cap raw (seAt S n low mk) = (seAt S (moveN S mk low raw n).1 (moveLow S cap mk low raw n) mk, (moveN S mk low raw n).2) ∧ SeOk S cap (moveN S mk low raw n).1 (moveLow S cap mk low raw n) ∧ (moveN S mk low raw n).1 ≤ n + 60 ∧ (moveN S mk low raw n).2.1 ≤ mvF raw := by
  have hF := mvF_lt raw
  by_cases hv : mvV raw % 3 < 2
  · have e : moveN S mk low raw n = fwdN S mk (mvK raw) (mvF raw) (atM S n).frames.length (mvF raw + 1) n 0 := by unfold moveN; rw [if_pos hv]
    have e2 : moveLow S cap mk low raw n = lowJ S cap ((moveN S mk low raw n).1 - n) n low := by unfold moveLow; rw [if_pos hv]
    have e3 : moveR S cap raw (seAt S n low mk) = fwdRun S cap (mvK raw) (mvF raw) (atM S n).frames.length (mvF raw + 1) (seAt S n low mk) 0 := by unfold moveR; rw [if_pos hv]; rfl
    rw [e2, e3, e]
    obtain ⟨h1, h2, h3⟩ := fwdRun_at hc mk (mvK raw) (mvF raw) (atM S n).frames.length (mvF raw + 1) n 0 low h (by omega)
    obtain ⟨j, g1, g2, _, _⟩ := fwdN_form S mk (mvK raw) (mvF raw) (atM S n).frames.length (mvF raw + 1) n 0 (by omega) (by omega)
    refine ⟨h1, h2, ?_, ?_⟩
    · rw [g1]; show n + j ≤ n + 60; omega
    · rw [g1]; show 0 + j ≤ mvF raw; omega
  · have e : moveN S mk low raw n = backN S mk low (mvK raw) (mvF raw) (atM S n).frames.length (mvF raw + 1) n 0 := by unfold moveN; rw [if_neg hv]
    have e2 : moveLow S cap mk low raw n = low := by unfold moveLow; rw [if_neg hv]
    have e3 : moveR S cap raw (seAt S n low mk) = backRun (mvK raw) (mvF raw) (atM S n).frames.length (mvF raw + 1) (seAt S n low mk) 0 := by unfold moveR; rw [if_neg hv]; rfl
    rw [e2, e3, e]
    obtain ⟨h1, h2, h3⟩ := backRun_at hi mk low (mvK raw) (mvF raw) (atM S n).frames.length (mvF raw + 1) n 0 h (by omega)
    obtain ⟨j, g1, _, g2, _, _⟩ := backN_form S mk low (mvK raw) (mvF raw) (atM S n).frames.length (mvF raw + 1) n 0 h.le (by omega) (by omega)
    refine ⟨h1, h2, by omega, ?_⟩
    rw [g1]; show 0 + j ≤ mvF raw; omega
/-- One to five records a step. -/
theorem recsOf_len {S : Src} (h4 : Call4 S) (lo : Nat) : ∀ k, (∀ i, i < lo + k → (atM S i).fin = 0) → k ≤ (recsOf S lo k).length ∧ (recsOf S lo k).length ≤ 5 * k
  | 0, _ => by simp [recsOf]
  | k + 1, h => by
    obtain ⟨h1, h2⟩ := recsOf_len h4 lo k (fun i hi => h i (by omega))
    obtain ⟨_, g1, g2⟩ := step_par4 h4 (at_par4 h4 (lo + k))
    have g3 := g2 (h (lo + k) (by omega))
    rw [recsOf, List.length_append]
    have e : (recsAt S (lo + k)).length = (stepM S (atM S (lo + k))).2.length := rfl
    omega
end Rt
end Go.Proofs.YtbpajiljfppjcaaGreatDoor

namespace Go.Proofs.YtbpajiljfppjcaaGreatDoor
open Go.RowKit
attribute [local go_sem ↓] Go.wp_at_zero Go.wp_at_succ

namespace Rt
def seFirst (S : Src) : Se := ⟨firstM S, [], 0, 0, List.replicate 101 false⟩
end Rt
/-- What a new session says. -/
def SNewP (S : Rt.Src) (cap : Int) (w : World) (e : Ending) (w' : World) : Prop :=
  Below w.heap.size w w' ∧ ∃ P B X, e = .returned (.tuple #[.pointer (some ⟨P, 0, none⟩), .int .i64 0, .int .i64 0]) ∧ w.heap.size ≤ P ∧ (∀ k ∈ blkX X, w.heap.size ≤ k) ∧ SesS w' P B S cap (Rt.seFirst S) X (.slice none 0 0)
theorem jnew_any (cap : Int) (w : World) : Calls Tryz.prog 71 #[.int .i64 cap] w fun e w' => e = .returned (.agg #[.int .i64 cap, .slice none 0 0, .int .i64 0]) ∧ Below w.heap.size w w' := by
  go_enter Tryz.func71, Tryz.ntmps71
  go_wp2_with fail
  have E := three_cells (heap_alloc_new w (.cells #[.int .i64 cap, .slice none 0 0, .int .i64 0] 90))
  refine bodyPost_ret (v := .agg #[.int .i64 cap, .slice none 0 0, .int .i64 0]) ?_ rfl ⟨rfl, (Below.refl _ _).alloc (Nat.le_refl _) _⟩
  revert E
  generalize w.alloc (.cells #[.int .i64 cap, .slice none 0 0, .int .i64 0] 90) = wz
  intro E
  simp [results, Tryz.results71, go_sem, E.1, E.2.1, E.2.2]
theorem ses_cells (v0 v1 v2 v3 v4 v5 v6 v7 v8 v9 v10 : Value) : (((((((((((Tryz.zeroCells93.setIfInBounds 0 v0).setIfInBounds 1 v1).setIfInBounds 2 v2).setIfInBounds 3 v3).setIfInBounds 4 v4).setIfInBounds 5 v5).setIfInBounds 6 v6).setIfInBounds 7 v7).setIfInBounds 8 v8).setIfInBounds 9 v9).setIfInBounds 10 v10) = (#[v0, v1, v2, v3, v4, v5, v6, v7] ++ ([v8, v9, v10, .int .i64 0] ++ (List.replicate 101 false).map Value.bool).toArray : Array Value) := by kernel_rfl
set_option maxHeartbeats 1000000 in
set_option maxRecDepth 100000 in
theorem snew_any (s : ByteArray) (iv : Value) (inp : List Int) (cap : Int) (w : World) (pls : List Rt.PL) (hs : s.size ≤ maxLen) (hi : Ints w iv inp) (hR : Rt.readS s = (0, 0, pls)) (hl : inp.length ≤ 100) (hc : 5 ≤ cap ∧ cap ≤ 500) :
    Calls Tryz.prog 40 #[.string s, iv, .int .i64 cap] w (SNewP (srcOf s pls inp) cap w) := by
  have hfit := fit_of hR
  have HI := hide hi
  have hc1 : ¬ cap < 5 := by omega
  have hc2 : ¬ 500 < cap := by omega
  obtain ⟨iad, icap, rfl, _⟩ := hi
  go_enter Tryz.func40, Tryz.ntmps40
  go_wp2_with fail
  refine (new_any s _ inp _ hs (unhide HI) (fun p hp => by rw [hR] at hp; injection hp with _ hp; injection hp with _ hp; rw [← hp]; exact hfit)).mono ?_
  rintro e w1 ⟨hb1, hcase⟩
  rcases hcase with ⟨hlt, _⟩ | ⟨_, er, ln, pls', hR', hcc⟩
  · exact absurd hlt (by omega)
  rw [hR] at hR'
  injection hR' with e1 hR'
  injection hR' with e2 e3
  subst e1 e2 e3
  rcases hcc with ⟨h0, _⟩ | ⟨_, _, hlen, M0, X, rfl, hM0, hblk, hmc⟩
  · exact absurd rfl h0
  obtain ⟨la, lc, ia, ic, fa, fc, va, vc, oa, oc, q1, q2, q3, q4, q5⟩ := hmc.shape
  generalize hm0 : Rt.firstM (srcOf s pls inp) = m0 at *
  have hcells : mcCells X m0 [] = #[.slice la pls.length lc, .slice ia inp.length ic, .slice fa m0.frames.length fc, .slice va m0.values.length vc, .int .i64 m0.taken, .slice oa m0.output.length oc, .int .i64 m0.line, .int .i64 m0.fin] := by
    simp only [mcCells, q1, q2, q3, q4, q5, srcOf, List.length_map]
    rfl
  rw [hcells]
  have HX := hide (And.intro hb1 (And.intro hblk (And.intro hmc (And.intro hcells hm0))))
  clear hb1 hblk hmc hcells hm0 q1 q2 q3 q4 q5 hR hfit
  go_wp2_with fail
  have hbA := (Below.refl w1.heap.size w1).alloc (Nat.le_refl _) (.cells #[.slice la pls.length lc, .slice ia inp.length ic, .slice fa m0.frames.length fc, .slice va m0.values.length vc, .int .i64 m0.taken, .slice oa m0.output.length oc, .int .i64 m0.line, .int .i64 m0.fin] 80)
  refine (jnew_any cap _).mono ?_
  rintro e w2 ⟨rfl, hb2⟩
  have bm := block_later (heap_alloc_new w1 (.cells #[.slice la pls.length lc, .slice ia inp.length ic, .slice fa m0.frames.length fc, .slice va m0.values.length vc, .int .i64 m0.taken, .slice oa m0.output.length oc, .int .i64 m0.line, .int .i64 m0.fin] 80)) hb2
  obtain ⟨y0, y1, y2, y3, y4, y5, y6, y7⟩ := eight_cells bm
  have hlt2 := block_lt bm
  have hn1 : ¬ w1.heap.size = w2.heap.size := by omega
  have HB2 := hide (hbA.trans (hb2.mono (B' := w1.heap.size) (by simp)))
  clear hbA hb2 bm
  go_wp2_with fail
  have hcl : (((((((((((Tryz.zeroCells93.setIfInBounds 0 (.slice la pls.length lc)).setIfInBounds 1 (.slice ia inp.length ic)).setIfInBounds 2 (.slice fa m0.frames.length fc)).setIfInBounds 3 (.slice va m0.values.length vc)).setIfInBounds 4 (.int .i64 m0.taken)).setIfInBounds 5 (.slice oa m0.output.length oc)).setIfInBounds 6 (.int .i64 m0.line)).setIfInBounds 7 (.int .i64 m0.fin)).setIfInBounds 8 (.int .i64 cap)).setIfInBounds 9 (.slice none 0 0)).setIfInBounds 10 (.int .i64 0)) = mcCells X m0 (tailS cap (.slice none 0 0) 0 0 (List.replicate 101 false)) := by
    rw [ses_cells]
    have := (unhide HX).2.2.2.1
    have e : (mcCells X m0 (tailS cap (.slice none 0 0) 0 0 (List.replicate 101 false))) = mcCells X m0 [] ++ (tailS cap (.slice none 0 0) 0 0 (List.replicate 101 false)).toArray := by
      unfold mcCells
      rw [List.append_nil, List.append_toArray]
    rw [e, this]
    simp [tailS]
  rw [hcl]
  obtain ⟨hb1, hblk, hmc, _, hm0⟩ := unhide HX
  have hb3 := ((Below.refl w2.heap.size w2).alloc (Nat.le_refl _) (.cells #[.int .i64 cap, .slice none 0 0, .int .i64 0] 90)).alloc (by simp) (.cells (mcCells X m0 (tailS cap (.slice none 0 0) 0 0 (List.replicate 101 false))) 93)
  have bS := alloc2_plain w2 (.cells #[.int .i64 cap, .slice none 0 0, .int .i64 0] 90) (.cells (mcCells X m0 (tailS cap (.slice none 0 0) 0 0 (List.replicate 101 false))) 93)
  have hbF := (unhide HB2).trans (hb3.mono (B' := w1.heap.size) (unhide HB2).size)
  have hm3 := hmc.moved hbF bS (by unfold TyOk; decide)
  refine bodyPost_ret (v := .tuple #[.pointer (some ⟨w2.heap.size + 1, 0, none⟩), .int .i64 0, .int .i64 0]) ?_ rfl ⟨hb1.trans (hbF.mono (B' := w.heap.size) hb1.size), _, _, X, rfl, by have := (unhide HB2).size; have := hb1.size; omega, hblk, ⟨by rw [Rt.seFirst, hm0]; exact hm3, World.ownsRow_nil _ _ _ _⟩⟩
  simp [results, Tryz.results40, go_sem]
end Go.Proofs.YtbpajiljfppjcaaGreatDoor

namespace Go.Proofs.YtbpajiljfppjcaaGreatDoor
open Go.RowKit
attribute [local go_sem ↓] Go.wp_at_zero Go.wp_at_succ

theorem IntsR.ints {w : World} {B : Nat} {v : Value} {xs : List Int} (h : IntsR w B v xs) : Ints w v xs := by
  obtain ⟨ad, cap, e, _, _, _, h5⟩ := h
  refine ⟨ad, cap, e, ?_⟩
  rcases h5 with h5 | ⟨b, off, h6, _, _, h9⟩
  · exact Or.inl h5
  · exact Or.inr ⟨b, off, h6, h9⟩
theorem Ints.part {w : World} {ad : Option Addr} {cap : Nat} {l : List Int} (h : Ints w (.slice ad l.length cap) l) (n : Nat) (hn : n ≤ l.length) : Ints w (.slice ad n cap) (l.take n) := by
  obtain ⟨ad', cap', he, h⟩ := h
  simp at he
  obtain ⟨rfl, rfl⟩ := he
  refine ⟨ad, cap, by simp; omega, ?_⟩
  rcases h with h | ⟨b, o, h1, h2⟩
  · left; rw [h]; simp
  · exact Or.inr ⟨b, o, h1, fun j hj => by
      simp at hj
      rw [h2 j (by omega)]
      simp⟩
theorem row_ints {w : World} {B : Nat} {v : Value} {n : Nat} {l : List Int} (h : w.ownsRow B 3 1 v n (intsV l)) (hn : n = l.length) : Ints w v l := by
  subst hn
  obtain ⟨ad, cap, rfl⟩ := ownsRow_form h
  refine ⟨ad, cap, rfl, ?_⟩
  by_cases hl : l = []
  · exact Or.inl hl
  · right
    obtain ⟨g, cap', he, _⟩ := int_cell h (j := 0) (List.length_pos_iff.mpr hl)
    simp at he
    obtain ⟨rfl, rfl⟩ := he
    refine ⟨g, 0, rfl, fun j hj => ?_⟩
    obtain ⟨g', cap', he', hc⟩ := int_cell h hj
    simp at he'
    obtain ⟨rfl, rfl⟩ := he'
    rw [Nat.zero_add]
    exact hc
theorem none_fresh (w : World) : (w.alloc (.cells #[] 3)).ownsRow w.heap.size 3 1 (.slice (some ⟨w.heap.size, 0, none⟩) 0 0) 0 [] :=
  ⟨by simp, Or.inr ⟨w.heap.size, 0, #[], rfl, Nat.le_refl _, heap_alloc_new w _, Nat.le_refl _, by unfold maxLen; omega, by simp, by simp⟩⟩
set_option maxHeartbeats 1000000 in
theorem fed_more (w : World) (a : Addr) (cap : Nat) (l : List Int) (h : 100 < l.length) (hcap : l.length ≤ cap) (hi : Ints w (.slice (some a) l.length cap) l) :
    Calls Tryz.prog 14 #[.slice (some a) l.length cap] w fun e w' => Below w.heap.size w w' ∧ ∃ v, e = .returned v ∧ w'.ownsRow w.heap.size 3 1 v (l.take 100).length (intsV (l.take 100)) := by
  obtain ⟨i0, hi0, hz0, hz1, hz2⟩ := info_parts Tryz.infoIntK
  have HI := hide hi
  clear hi
  have h1 : (100 : Int) < (l.length : Int) := by omega
  have h2 : (100 : Int) ≤ (cap : Int) := by omega
  have hlen : (l.take 100).length = 100 := by simp; omega
  go_enter Tryz.func14, Tryz.ntmps14
  go_wp2_with (at_builtin; refine wpList_append_any _ rfl _ _ 22 22 rfl w.heap.size 3 i0 _ Tryz.underlying22 hi0 hz0 hz1 (by omega) rfl _ 0 [] rfl ?c3 _ 100 ((l.take 100).map (Value.int .i64)) rfl ?c0 ?c1 ?c2 ?_)
  case c3 => exact none_fresh w
  case c0 =>
    have := (((unhide HI).part 100 (by omega)).later ((Below.refl _ w).alloc (Nat.le_refl _) (.cells #[] 3))).src
    rw [hlen] at this
    exact this
  case c1 => omega
  case c2 => simp
  intro v w1 hown hgrow
  have hb1 : Below w.heap.size w w1 := Below.grown ((Below.refl _ w).alloc (Nat.le_refl _) _) hgrow (by simp) (fun k hk => by simp [Value.ownBlock] at hk; omega)
  have HF := hide (And.intro hb1 (show w1.ownsRow w.heap.size 3 1 v (l.take 100).length (intsV (l.take 100)) by rw [hlen, intsV, List.map_take]; exact hown))
  clear hown hgrow hb1
  go_wp2_with fail
  go_ret
  exact ⟨(unhide HF).1, _, rfl, (unhide HF).2⟩
set_option maxHeartbeats 1000000 in
theorem fed_few (w : World) (a : Addr) (cap : Nat) (l : List Int) (h : l.length ≤ 100) (hcap : l.length ≤ cap) (hi : Ints w (.slice (some a) l.length cap) l) :
    Calls Tryz.prog 14 #[.slice (some a) l.length cap] w fun e w' => Below w.heap.size w w' ∧ ∃ v, e = .returned v ∧ w'.ownsRow w.heap.size 3 1 v (l).length (intsV (l)) := by
  obtain ⟨i0, hi0, hz0, hz1, hz2⟩ := info_parts Tryz.infoIntK
  have HI := hide hi
  clear hi
  have h1 : ¬ (100 : Int) < (l.length : Int) := by omega
  have h2 : (l.length : Int) ≤ (cap : Int) := by omega
  go_enter Tryz.func14, Tryz.ntmps14
  go_wp2_with (at_builtin; refine wpList_append_any _ rfl _ _ 22 22 rfl w.heap.size 3 i0 _ Tryz.underlying22 hi0 hz0 hz1 (by omega) rfl _ 0 [] rfl ?c3 _ l.length ((l).map (Value.int .i64)) rfl ?c0 ?c1 ?c2 ?_)
  case c3 => exact none_fresh w
  case c0 =>
    have := ((unhide HI).later ((Below.refl _ w).alloc (Nat.le_refl _) (.cells #[] 3))).src
    exact this
  case c1 => omega
  intro v w1 hown hgrow
  have hb1 : Below w.heap.size w w1 := Below.grown ((Below.refl _ w).alloc (Nat.le_refl _) _) hgrow (by simp) (fun k hk => by simp [Value.ownBlock] at hk; omega)
  have HF := hide (And.intro hb1 (show w1.ownsRow w.heap.size 3 1 v (l).length (intsV (l)) by simpa [intsV] using hown))
  clear hown hgrow hb1
  go_wp2_with fail
  go_ret
  exact ⟨(unhide HF).1, _, rfl, (unhide HF).2⟩
set_option maxHeartbeats 1000000 in
theorem fed_nil (w : World) (cap : Nat) :
    Calls Tryz.prog 14 #[.slice none 0 cap] w fun e w' => Below w.heap.size w w' ∧ ∃ v, e = .returned v ∧ w'.ownsRow w.heap.size 3 1 v ([] : List Int).length (intsV []) := by
  obtain ⟨i0, hi0, hz0, hz1, hz2⟩ := info_parts Tryz.infoIntK
  have hI : ∀ c, Ints (w.alloc (.cells #[] 3)) (.slice none 0 c) [] := fun c => ⟨none, c, rfl, Or.inl rfl⟩
  have HI := hide hI
  clear hI
  go_enter Tryz.func14, Tryz.ntmps14
  go_wp2_with (at_builtin; refine wpList_append_any _ rfl _ _ 22 22 rfl w.heap.size 3 i0 _ Tryz.underlying22 hi0 hz0 hz1 (by omega) rfl _ 0 [] rfl ?c3 _ 0 [] rfl ?c0 (by omega) (by simp) ?_)
  case c3 => exact none_fresh w
  case c0 => exact (unhide HI _).src
  intro v w1 hown hgrow
  have hb1 : Below w.heap.size w w1 := Below.grown ((Below.refl _ w).alloc (Nat.le_refl _) _) hgrow (by simp) (fun k hk => by simp [Value.ownBlock] at hk; omega)
  have HF := hide (And.intro hb1 (show w1.ownsRow w.heap.size 3 1 v ([] : List Int).length (intsV []) from hown))
  clear hown hgrow hb1
  go_wp2_with fail
  go_ret
  exact ⟨(unhide HF).1, _, rfl, (unhide HF).2⟩
theorem fed_any (w : World) (B : Nat) (v : Value) (l : List Int) (h : IntsR w B v l) :
    Calls Tryz.prog 14 #[v] w fun e w' => Below w.heap.size w w' ∧ ∃ u, e = .returned u ∧ w'.ownsRow w.heap.size 3 1 u (l.take 100).length (intsV (l.take 100)) := by
  have hi := h.ints
  obtain ⟨ad, cap, rfl, hcap, _, _, h5⟩ := h
  cases ad with
  | none =>
    have : l = [] := by
      rcases h5 with h5 | ⟨b, off, h6, _⟩
      · exact h5
      · cases h6
    subst this
    exact fed_nil w cap
  | some a =>
    by_cases h100 : 100 < l.length
    · exact fed_more w a cap l h100 hcap hi
    · rw [List.take_of_length_le (by omega)]
      exact fed_few w a cap l (by omega) hcap hi
theorem begun_any (s : ByteArray) (iv : Value) (inp : List Int) (cap : Int) (w : World) (pls : List Rt.PL) (hs : s.size ≤ maxLen) (hi : Ints w iv inp) (hR : Rt.readS s = (0, 0, pls)) (hl : inp.length ≤ 100) (hc : 5 ≤ cap ∧ cap ≤ 500) :
    Calls Tryz.prog 15 #[.string s, iv, .int .i64 cap] w fun e w' => Below w.heap.size w w' ∧ ∃ P B X, e = .returned (.pointer (some ⟨P, 0, none⟩)) ∧ w.heap.size ≤ P ∧ (∀ k ∈ blkX X, w.heap.size ≤ k) ∧ SesS w' P B (srcOf s pls inp) cap (Rt.seFirst (srcOf s pls inp)) X (.slice none 0 0) := by
  go_enter Tryz.func15, Tryz.ntmps15
  go_wp2_with fail
  refine (snew_any s iv inp cap w pls hs hi hR hl hc).mono ?_
  rintro e w1 ⟨hb1, P, B, X, rfl, h1, h2, h3⟩
  have HF := hide (And.intro hb1 (And.intro h1 (And.intro h2 h3)))
  clear hb1 h1 h2 h3 hi
  go_wp2_with fail
  go_ret
  obtain ⟨q1, q2, q3, q4⟩ := unhide HF
  exact ⟨q1, P, B, X, rfl, q2, q3, q4⟩
theorem sOutput_any (w : World) (P B : Nat) (S : Rt.Src) (cap : Int) (s : Rt.Se) (X : McX) (jv : Value) (h : SesS w P B S cap s X jv) (ho : s.m.output.length ≤ 1000) :
    Calls Tryz.prog 17 #[.pointer (some ⟨P, 0, none⟩)] w fun e w' => Below w.heap.size w w' ∧ ∃ v, e = .returned v ∧ w'.ownsRow w.heap.size 3 1 v s.m.output.length (intsV s.m.output) := by
  go_enter Tryz.func17, Tryz.ntmps17
  go_wp2_with fail
  refine (output_any _ P B _ _ S s.m X h.mc ho).mono ?_
  rintro e w1 ⟨hb1, v, rfl, hv⟩
  have HF := hide (And.intro hb1 hv)
  clear hb1 hv h
  go_wp2_with fail
  go_ret
  exact ⟨(unhide HF).1, v, rfl, (unhide HF).2⟩
set_option maxHeartbeats 1000000 in
theorem sameResult_any (w : World) (B B' : Nat) (va vb : Value) (a b : List Int) (ea sa eb sb : Int) (ha : w.ownsRow B 3 1 va a.length (intsV a)) (hb : w.ownsRow B' 3 1 vb b.length (intsV b)) (hl : a.length ≤ 1000) (hl2 : b.length ≤ 1000) :
    Calls Tryz.prog 18 #[.agg #[.int .i64 ea, .int .i64 sa, va], .agg #[.int .i64 eb, .int .i64 sb, vb]] w fun e w' => e = .returned (.bool (decide (a = b) && (ea == eb) && (sa == sb))) ∧ Below w.heap.size w w' := by
  obtain ⟨aad, acap, rfl⟩ := ownsRow_form ha
  obtain ⟨bad, bcap, rfl⟩ := ownsRow_form hb
  go_enter Tryz.func18, Tryz.ntmps18
  go_wp2_with fail
  have hbA := ((Below.refl w.heap.size w).alloc (Nat.le_refl _) (.cells #[.int .i64 ea, .int .i64 sa, .slice aad a.length acap] 29)).alloc (by simp) (.cells #[.int .i64 eb, .int .i64 sb, .slice bad b.length bcap] 29)
  have b1 := block_alloc (heap_alloc_new w (.cells #[.int .i64 ea, .int .i64 sa, .slice aad a.length acap] 29)) (.cells #[.int .i64 eb, .int .i64 sb, .slice bad b.length bcap] 29)
  have b2 := alloc2_plain w (.cells #[.int .i64 ea, .int .i64 sa, .slice aad a.length acap] 29) (.cells #[.int .i64 eb, .int .i64 sb, .slice bad b.length bcap] 29)
  refine (sameInts_keep _ B B' _ _ a b (own_later ha hbA) (own_later hb hbA) hl hl2).mono ?_
  rintro e w1 ⟨rfl, hb1⟩
  obtain ⟨x0, x1, x2⟩ := three_cells (block_later b1 hb1)
  obtain ⟨y0, y1, y2⟩ := three_cells (block_later b2 hb1)
  have HB := hide (hbA.trans (hb1.mono (B' := w.heap.size) (by simp; omega)))
  clear hbA b1 b2 hb1 ha hb
  generalize hab : decide (a = b) = q at *
  have HQ := hide hab
  clear hab
  cases q with
  | false =>
    go_wp2_with fail
    go_ret
    exact ⟨by rw [unhide HQ]; rfl, unhide HB⟩
  | true =>
    cases he : (ea == eb) with
    | false =>
      have HE := hide he
      go_wp2_with fail
      go_ret
      exact ⟨by rw [unhide HQ, unhide HE]; rfl, unhide HB⟩
    | true =>
      have HE := hide he
      go_wp2_with fail
      go_ret
      exact ⟨by rw [unhide HQ, unhide HE]; rfl, unhide HB⟩
end Go.Proofs.YtbpajiljfppjcaaGreatDoor

