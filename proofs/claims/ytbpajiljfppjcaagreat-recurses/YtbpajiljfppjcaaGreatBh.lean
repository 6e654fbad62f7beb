/- How the statements begin a session: at place 0. -/
import Derived.Test.YtbpajiljfppjcaaGreatSsL
import Derived.Test.YtbpajiljfppjcaaGreatJrD
import Derived.Test.YtbpajiljfppjcaaGreatKit0
import Derived.Deep.RegionHeld3
import Derived.Deep.AppendLies
import Derived.Deep.DrawnRows
import Derived.Deep.QuietTactic
import Derived.BigQuiet
import Derived.Deep.RegionLaw
namespace Go.Proofs.YtbpajiljfppjcaaGreat
open Go.RowKit
attribute [local go_sem ↓] Go.wp_at_zero Go.wp_at_succ

namespace Rt
/-- The reason of a single step. -/
def stepWhy (S : Src) (n : Nat) : Int := if (atM S n).fin = 0 then 1 else 3
theorem ends_one (S : Src) (mk : List Bool) (d0 : Int) (n : Nat) : endsN S mk 0 1 d0 n 1 = stepWhy S n := by
  unfold endsN fwdEnds stepWhy arrivedI reachedB
  have e : (seAt S n 0 mk).m = atM S n := rfl
  rw [e]
  by_cases hz : (atM S n).fin = 0
  · rw [if_neg (not_not_intro hz), if_pos hz]; simp
  · rw [if_pos hz, if_neg hz]
theorem ends_none (S : Src) (mk : List Bool) (d0 : Int) (n : Nat) : endsN S mk 0 1 d0 n 0 = if (atM S n).fin = 0 then 0 else 3 := by
  unfold endsN fwdEnds arrivedI
  have e : (seAt S n 0 mk).m = atM S n := rfl
  rw [e]
  by_cases hz : (atM S n).fin = 0
  · rw [if_neg (not_not_intro hz), if_pos hz]; simp
  · rw [if_pos hz, if_neg hz]
theorem stepWhy_ne (S : Src) (n : Nat) : ¬ stepWhy S n = 0 := by
  unfold stepWhy
  split <;> omega
theorem fwd_one {S : Src} {n : Nat} (hz : (atM S n).fin = 0) (mk : List Bool) (d0 : Int) : fwdN S mk 0 1 d0 2 n 0 = (n + 1, 1, stepWhy S (n + 1)) := by
  rw [fwdN, ends_none, if_pos hz, if_pos rfl, fwdN, ends_one, if_neg (stepWhy_ne S _)]
theorem fwd_ended {S : Src} {n : Nat} (hz : ¬ (atM S n).fin = 0) (mk : List Bool) (d0 : Int) : fwdN S mk 0 1 d0 2 n 0 = (n, 0, 3) := by
  rw [fwdN, ends_none, if_neg hz, if_neg (by omega)]
theorem bends_one (S : Src) (mk : List Bool) (low : Nat) (d0 : Int) (n : Nat) : bendsN S mk low 0 1 d0 n 1 = 1 := by
  unfold bendsN backEnds arrivedI reachedB
  simp
theorem bends_none (S : Src) (mk : List Bool) (low : Nat) (d0 : Int) (n : Nat) : bendsN S mk low 0 1 d0 n 0 = if n = 0 then 5 else if n = low then 6 else 0 := by
  unfold bendsN backEnds arrivedI
  have e1 : (seAt S n low mk).idx = (n : Int) := rfl
  have e2 : (seAt S n low mk).low = (low : Int) := rfl
  rw [e1, e2]
  by_cases h0 : n = 0
  · rw [if_pos h0, h0]; simp
  · rw [if_neg h0]
    by_cases h1 : n = low
    · rw [if_pos h1, h1]
      have : ¬ low = 0 := by omega
      simp [this]
    · rw [if_neg h1]
      have g1 : ¬ (n : Int) = (low : Int) := by omega
      simp [h0, g1]
theorem back_one {S : Src} {low n : Nat} (h0 : n ≠ 0) (h1 : n ≠ low) (mk : List Bool) (d0 : Int) : backN S mk low 0 1 d0 2 n 0 = (n - 1, 1, 1) := by
  rw [backN, bends_none, if_neg h0, if_neg h1, if_pos rfl, backN, bends_one, if_neg (by omega)]
theorem back_start {S : Src} {low : Nat} (mk : List Bool) (d0 : Int) : backN S mk low 0 1 d0 2 0 0 = (0, 0, 5) := by
  rw [backN, bends_none, if_pos rfl, if_neg (by omega)]
theorem back_horizon {S : Src} {low n : Nat} (h0 : n ≠ 0) (h1 : n = low) (mk : List Bool) (d0 : Int) : backN S mk low 0 1 d0 2 n 0 = (n, 0, 6) := by
  rw [backN, bends_none, if_neg h0, if_pos h1, if_neg (by omega)]
end Rt
/-- A reply at a place. -/
def replyN (S : Rt.Src) (rs : Int) (k n : Nat) : Array Value := #[.int .i64 rs, .int .i64 (k : Int), .int .i64 (Rt.atM S n).fin, .int .i64 (Rt.atM S n).line, .int .i64 ((Rt.atM S n).frames.length : Int), .int .i64 (n : Int)]
theorem replyN_eq (S : Rt.Src) (rs : Int) (k n low : Nat) (mk : List Bool) : replyA rs k (Rt.seAt S n low mk) = replyN S rs k n := rfl
/-- A session at a place of the run. -/
structure Sess (w : World) (P B : Nat) (S : Rt.Src) (cap : Int) (n low : Nat) (mk : List Bool) (X : McX) (jv : Value) : Prop where
  ses : SesS w P B S cap (Rt.seAt S n low mk) X jv
  ok : Rt.SeOk S cap n low
/-- What does not change. -/
structure Cst (S : Rt.Src) (cap : Int) (mk : List Bool) : Prop where
  plc : Plc S
  lo : 5 ≤ cap
  hi : cap ≤ 500
  mks : mk.length = 101
/-- What a move says that ends at a place. -/
def MvP (P B : Nat) (S : Rt.Src) (cap : Int) (mk : List Bool) (X : McX) (jv : Value) (n' low' k : Nat) (rs : Int) (w : World) (e : Ending) (w' : World) : Prop :=
  e = .returned (.tuple #[.agg (replyN S rs k n'), .int .i64 0]) ∧ ∃ X' jv', SAft P B S cap X X' jv jv' (Rt.seAt S n' low' mk) w w' ∧ Rt.SeOk S cap n' low'
section
variable {w : World} {P B : Nat} {S : Rt.Src} {cap : Int} {n low : Nat} {mk : List Bool} {X : McX} {jv : Value}
theorem Sess.later {w' : World} (h : Sess w P B S cap n low mk X jv) (hb : Below w.heap.size w w') : Sess w' P B S cap n low mk X jv := ⟨h.ses.later hb, h.ok⟩
theorem Sess.whereS (h : Sess w P B S cap n low mk X jv) : Calls Tryz.prog 26 #[.pointer (some ⟨P, 0, none⟩)] w fun e w' => e = .returned (.agg (replyN S 0 0 n)) ∧ Below w.heap.size w w' := where_any w P B S cap _ X jv h.ses
theorem Sess.fwd (h : Sess w P B S cap n low mk X jv) (hc : Cst S cap mk) (kind : Int) (fuel : Nat) (hkd : 0 ≤ kind ∧ kind ≤ 3) (hfu : fuel ≤ 1000) (hn : n + 1001 ≤ 4611686018427386000) :
    Calls Tryz.prog 5 #[.pointer (some ⟨P, 0, none⟩), .int .i64 kind, .int .i64 fuel] w (MvP P B S cap mk X jv (Rt.fwdN S mk kind fuel (Rt.atM S n).frames.length (fuel + 1) n 0).1 (Rt.lowJ S cap ((Rt.fwdN S mk kind fuel (Rt.atM S n).frames.length (fuel + 1) n 0).1 - n) n low) (Rt.fwdN S mk kind fuel (Rt.atM S n).frames.length (fuel + 1) n 0).2.1 (Rt.fwdN S mk kind fuel (Rt.atM S n).frames.length (fuel + 1) n 0).2.2 w) := by
  have hc0 : 0 ≤ cap := by have := hc.lo; omega
  obtain ⟨h1, h2, _⟩ := Rt.fwdRun_at hc0 mk kind fuel (Rt.atM S n).frames.length (fuel + 1) n 0 low h.ok (by omega)
  refine (forward_any w P B S cap (Rt.seAt S n low mk) X jv h.ses hc.plc.good hc.plc.call ⟨hc0, hc.hi⟩ (hc.plc.keepS h.ok mk hc.mks) kind fuel hkd hfu).mono ?_
  rintro e w' ⟨X', jv', he, hA⟩
  rw [show ((Rt.seAt S n low mk).m.frames.length : Int) = ((Rt.atM S n).frames.length : Int) from rfl, h1] at he hA
  exact ⟨he, X', jv', hA, h2⟩
theorem Sess.bwd (h : Sess w P B S cap n low mk X jv) (hc : Cst S cap mk) (kind : Int) (fuel : Nat) (hkd : 0 ≤ kind ∧ kind ≤ 3) (hfu : fuel ≤ 1000) (hn : n + 1001 ≤ 4611686018427386000) :
    Calls Tryz.prog 18 #[.pointer (some ⟨P, 0, none⟩), .int .i64 kind, .int .i64 fuel] w (MvP P B S cap mk X jv (Rt.backN S mk low kind fuel (Rt.atM S n).frames.length (fuel + 1) n 0).1 low (Rt.backN S mk low kind fuel (Rt.atM S n).frames.length (fuel + 1) n 0).2.1 (Rt.backN S mk low kind fuel (Rt.atM S n).frames.length (fuel + 1) n 0).2.2 w) := by
  obtain ⟨h1, h2, _⟩ := Rt.backRun_at (cap := cap) hc.plc.input mk low kind fuel (Rt.atM S n).frames.length (fuel + 1) n 0 h.ok (by omega)
  refine (backward_any w P B S cap n low mk (Rt.seAt S n low mk) X jv h.ses hc.plc hc.hi ⟨n, rfl, h.ok, Nat.le_refl _⟩ (by omega) hc.mks kind fuel hkd hfu).mono ?_
  rintro e w' ⟨X', jv', he, hA⟩
  rw [show ((Rt.seAt S n low mk).m.frames.length : Int) = ((Rt.atM S n).frames.length : Int) from rfl, h1] at he hA
  exact ⟨he, X', jv', hA, h2⟩
/-- A single step. -/
theorem Sess.fwd1 (h : Sess w P B S cap n low mk X jv) (hc : Cst S cap mk) (hz : (Rt.atM S n).fin = 0) (hn : n + 1001 ≤ 4611686018427386000) :
    Calls Tryz.prog 5 #[.pointer (some ⟨P, 0, none⟩), .int .i64 0, .int .i64 1] w (MvP P B S cap mk X jv (n + 1) (Rt.lowF S cap n low) 1 (Rt.stepWhy S (n + 1)) w) := by
  have := h.fwd hc 0 1 (by omega) (by omega) hn
  have e : Rt.fwdN S mk 0 ((1 : Nat) : Int) (Rt.atM S n).frames.length (1 + 1) n 0 = (n + 1, 1, Rt.stepWhy S (n + 1)) := Rt.fwd_one hz mk _
  rw [e] at this
  simp only [show n + 1 - n = 1 by omega] at this
  exact this
theorem Sess.fwd1_ended (h : Sess w P B S cap n low mk X jv) (hc : Cst S cap mk) (hz : ¬ (Rt.atM S n).fin = 0) (hn : n + 1001 ≤ 4611686018427386000) :
    Calls Tryz.prog 5 #[.pointer (some ⟨P, 0, none⟩), .int .i64 0, .int .i64 1] w (MvP P B S cap mk X jv n low 0 3 w) := by
  have := h.fwd hc 0 1 (by omega) (by omega) hn
  have e : Rt.fwdN S mk 0 ((1 : Nat) : Int) (Rt.atM S n).frames.length (1 + 1) n 0 = (n, 0, 3) := Rt.fwd_ended hz mk _
  rw [e] at this
  simp only [Nat.sub_self] at this
  exact this
theorem Sess.bwd1 (h : Sess w P B S cap n low mk X jv) (hc : Cst S cap mk) (h0 : n ≠ 0) (h1 : n ≠ low) (hn : n + 1001 ≤ 4611686018427386000) :
    Calls Tryz.prog 18 #[.pointer (some ⟨P, 0, none⟩), .int .i64 0, .int .i64 1] w (MvP P B S cap mk X jv (n - 1) low 1 1 w) := by
  have := h.bwd hc 0 1 (by omega) (by omega) hn
  have e : Rt.backN S mk low 0 ((1 : Nat) : Int) (Rt.atM S n).frames.length (1 + 1) n 0 = (n - 1, 1, 1) := Rt.back_one h0 h1 mk _
  rw [e] at this
  exact this
theorem Sess.bwd1_start (h : Sess w P B S cap 0 low mk X jv) (hc : Cst S cap mk) :
    Calls Tryz.prog 18 #[.pointer (some ⟨P, 0, none⟩), .int .i64 0, .int .i64 1] w (MvP P B S cap mk X jv 0 low 0 5 w) := by
  have := h.bwd hc 0 1 (by omega) (by omega) (by omega)
  have e : Rt.backN S mk low 0 ((1 : Nat) : Int) (Rt.atM S 0).frames.length (1 + 1) 0 0 = (0, 0, 5) := Rt.back_start mk _
  rw [e] at this
  exact this
theorem Sess.bwd1_horizon (h : Sess w P B S cap n low mk X jv) (hc : Cst S cap mk) (h0 : n ≠ 0) (h1 : n = low) (hn : n + 1001 ≤ 4611686018427386000) :
    Calls Tryz.prog 18 #[.pointer (some ⟨P, 0, none⟩), .int .i64 0, .int .i64 1] w (MvP P B S cap mk X jv n low 0 6 w) := by
  have := h.bwd hc 0 1 (by omega) (by omega) hn
  have e : Rt.backN S mk low 0 ((1 : Nat) : Int) (Rt.atM S n).frames.length (1 + 1) n 0 = (n, 0, 6) := Rt.back_horizon h0 h1 mk _
  rw [e] at this
  exact this
end
end Go.Proofs.YtbpajiljfppjcaaGreat

namespace Go.Proofs.YtbpajiljfppjcaaGreat
open Go.RowKit
attribute [local go_sem ↓] Go.wp_at_zero Go.wp_at_succ

namespace Rt
def seFirst (S : Src) : Se := ⟨firstM S, [], 0, 0, List.replicate 101 false⟩
end Rt
/-- What a new session says. -/
def SNewP (S : Rt.Src) (cap : Int) (w : World) (e : Ending) (w' : World) : Prop :=
  Below w.heap.size w w' ∧ ∃ P B X, e = .returned (.tuple #[.pointer (some ⟨P, 0, none⟩), .int .i64 0, .int .i64 0]) ∧ w.heap.size ≤ P ∧ (∀ k ∈ blkX X, w.heap.size ≤ k) ∧ SesS w' P B S cap (Rt.seFirst S) X (.slice none 0 0)
theorem jnew_any (cap : Int) (w : World) : Calls Tryz.prog 21 #[.int .i64 cap] w fun e w' => e = .returned (.agg #[.int .i64 cap, .slice none 0 0, .int .i64 0]) ∧ Below w.heap.size w w' := by
  go_enter Tryz.func21, Tryz.ntmps21
  go_wp2_with fail
  have E := three_cells (heap_alloc_new w (.cells #[.int .i64 cap, .slice none 0 0, .int .i64 0] 46))
  refine bodyPost_ret (v := .agg #[.int .i64 cap, .slice none 0 0, .int .i64 0]) ?_ rfl ⟨rfl, (Below.refl _ _).alloc (Nat.le_refl _) _⟩
  revert E
  generalize w.alloc (.cells #[.int .i64 cap, .slice none 0 0, .int .i64 0] 46) = wz
  intro E
  simp [results, Tryz.results21, go_sem, E.1, E.2.1, E.2.2]
theorem ses_cells (v0 v1 v2 v3 v4 v5 v6 v7 v8 v9 v10 : Value) : (((((((((((Tryz.zeroCells49.setIfInBounds 0 v0).setIfInBounds 1 v1).setIfInBounds 2 v2).setIfInBounds 3 v3).setIfInBounds 4 v4).setIfInBounds 5 v5).setIfInBounds 6 v6).setIfInBounds 7 v7).setIfInBounds 8 v8).setIfInBounds 9 v9).setIfInBounds 10 v10) = (#[v0, v1, v2, v3, v4, v5, v6, v7] ++ ([v8, v9, v10, .int .i64 0] ++ (List.replicate 101 false).map Value.bool).toArray : Array Value) := by kernel_rfl
set_option maxHeartbeats 1000000 in
set_option maxRecDepth 100000 in
theorem snew_any (s : ByteArray) (iv : Value) (inp : List Int) (cap : Int) (w : World) (pls : List Rt.PL) (hs : s.size ≤ maxLen) (hi : Ints w iv inp) (hR : Rt.readS s = (0, 0, pls)) (hl : inp.length ≤ 100) (hc : 5 ≤ cap ∧ cap ≤ 500) :
    Calls Tryz.prog 9 #[.string s, iv, .int .i64 cap] w (SNewP (srcOf s pls inp) cap w) := by
  have hfit := fit_of hR
  have HI := hide hi
  have hc1 : ¬ cap < 5 := by omega
  have hc2 : ¬ 500 < cap := by omega
  obtain ⟨iad, icap, rfl, _⟩ := hi
  go_enter Tryz.func9, Tryz.ntmps9
  go_wp2_with fail
  refine (new_any s _ inp _ hs (unhide HI) (fun p hp => by rw [hR] at hp; injection hp with _ hp; injection hp with _ hp; rw [← hp]; exact hfit)).mono ?_
  rintro e w1 ⟨hb1, hcase⟩
  rcases hcase with ⟨hlt, _⟩ | ⟨_, er, ln, pls', hR', hcc⟩
  · exact absurd hlt (by omega)
  rw [hR] at hR'
  injection hR' with e1 hR'
  injection hR' with e2 e3
  subst e1 e2 e3
  rcases hcc with ⟨h0, _⟩ | ⟨_, _, hlen, M0, X, rfl, hM0, hblk, hmc⟩
  · exact absurd rfl h0
  obtain ⟨la, lc, ia, ic, fa, fc, va, vc, oa, oc, q1, q2, q3, q4, q5⟩ := hmc.shape
  generalize hm0 : Rt.firstM (srcOf s pls inp) = m0 at *
  have hcells : mcCells X m0 [] = #[.slice la pls.length lc, .slice ia inp.length ic, .slice fa m0.frames.length fc, .slice va m0.values.length vc, .int .i64 m0.taken, .slice oa m0.output.length oc, .int .i64 m0.line, .int .i64 m0.fin] := by
    simp only [mcCells, q1, q2, q3, q4, q5, srcOf, List.length_map]
    rfl
  rw [hcells]
  have HX := hide (And.intro hb1 (And.intro hblk (And.intro hmc (And.intro hcells hm0))))
  clear hb1 hblk hmc hcells hm0 q1 q2 q3 q4 q5 hR hfit
  go_wp2_with fail
  have hbA := (Below.refl w1.heap.size w1).alloc (Nat.le_refl _) (.cells #[.slice la pls.length lc, .slice ia inp.length ic, .slice fa m0.frames.length fc, .slice va m0.values.length vc, .int .i64 m0.taken, .slice oa m0.output.length oc, .int .i64 m0.line, .int .i64 m0.fin] 43)
  refine (jnew_any cap _).mono ?_
  rintro e w2 ⟨rfl, hb2⟩
  have bm := block_later (heap_alloc_new w1 (.cells #[.slice la pls.length lc, .slice ia inp.length ic, .slice fa m0.frames.length fc, .slice va m0.values.length vc, .int .i64 m0.taken, .slice oa m0.output.length oc, .int .i64 m0.line, .int .i64 m0.fin] 43)) hb2
  obtain ⟨y0, y1, y2, y3, y4, y5, y6, y7⟩ := eight_cells bm
  have hlt2 := block_lt bm
  have hn1 : ¬ w1.heap.size = w2.heap.size := by omega
  have HB2 := hide (hbA.trans (hb2.mono (B' := w1.heap.size) (by simp)))
  clear hbA hb2 bm
  go_wp2_with fail
  have hcl : (((((((((((Tryz.zeroCells49.setIfInBounds 0 (.slice la pls.length lc)).setIfInBounds 1 (.slice ia inp.length ic)).setIfInBounds 2 (.slice fa m0.frames.length fc)).setIfInBounds 3 (.slice va m0.values.length vc)).setIfInBounds 4 (.int .i64 m0.taken)).setIfInBounds 5 (.slice oa m0.output.length oc)).setIfInBounds 6 (.int .i64 m0.line)).setIfInBounds 7 (.int .i64 m0.fin)).setIfInBounds 8 (.int .i64 cap)).setIfInBounds 9 (.slice none 0 0)).setIfInBounds 10 (.int .i64 0)) = mcCells X m0 (tailS cap (.slice none 0 0) 0 0 (List.replicate 101 false)) := by
    rw [ses_cells]
    have := (unhide HX).2.2.2.1
    have e : (mcCells X m0 (tailS cap (.slice none 0 0) 0 0 (List.replicate 101 false))) = mcCells X m0 [] ++ (tailS cap (.slice none 0 0) 0 0 (List.replicate 101 false)).toArray := by
      unfold mcCells
      rw [List.append_nil, List.append_toArray]
    rw [e, this]
    simp [tailS]
  rw [hcl]
  obtain ⟨hb1, hblk, hmc, _, hm0⟩ := unhide HX
  have hb3 := ((Below.refl w2.heap.size w2).alloc (Nat.le_refl _) (.cells #[.int .i64 cap, .slice none 0 0, .int .i64 0] 46)).alloc (by simp) (.cells (mcCells X m0 (tailS cap (.slice none 0 0) 0 0 (List.replicate 101 false))) 49)
  have bS := alloc2_plain w2 (.cells #[.int .i64 cap, .slice none 0 0, .int .i64 0] 46) (.cells (mcCells X m0 (tailS cap (.slice none 0 0) 0 0 (List.replicate 101 false))) 49)
  have hbF := (unhide HB2).trans (hb3.mono (B' := w1.heap.size) (unhide HB2).size)
  have hm3 := hmc.moved hbF bS (by unfold TyOk; decide)
  refine bodyPost_ret (v := .tuple #[.pointer (some ⟨w2.heap.size + 1, 0, none⟩), .int .i64 0, .int .i64 0]) ?_ rfl ⟨hb1.trans (hbF.mono (B' := w.heap.size) hb1.size), _, _, X, rfl, by have := (unhide HB2).size; have := hb1.size; omega, hblk, ⟨by rw [Rt.seFirst, hm0]; exact hm3, World.ownsRow_nil _ _ _ _⟩⟩
  simp [results, Tryz.results9, go_sem]
end Go.Proofs.YtbpajiljfppjcaaGreat

namespace Go.Proofs.YtbpajiljfppjcaaGreat
open Go.RowKit

def ints (l : List Int) : List Value := l.map (Value.int .i64)

/-- The numbers of a row can be read. -/
theorem int_cell {w : World} {B n : Nat} {v : Value} {l : List Int} (h : w.ownsRow B 3 1 v n (ints l)) {j : Nat} (hj : j < l.length) : ∃ g cap, v = .slice (some ⟨g, 0, none⟩) n cap ∧ w.cell? ⟨g, j, none⟩ = some (.int .i64 l[j]) := by
  obtain ⟨g, cap, he, _, _, hc⟩ := own_cell h (j := j) (u := .int .i64 l[j]) (by simp [ints, hj])
  exact ⟨g, cap, he, hc⟩

theorem ints_eq_from {a b : List Int} (hn : a.length = b.length) (h : ∀ j (h : j < a.length) (h' : j < b.length), a[j] = b[j]) : a = b := List.ext_getElem hn h

set_option maxHeartbeats 2000000 in
set_option maxRecDepth 100000 in
theorem sameInts_keep (w : World) (B B' : Nat) (va vb : Value) (a b : List Int) (ha : w.ownsRow B 3 1 va a.length (ints a)) (hb : w.ownsRow B' 3 1 vb b.length (ints b)) (hl : a.length ≤ 1000) (hl2 : b.length ≤ 1000) :
    Calls Tryz.prog 17 #[va, vb] w fun e w' => e = .returned (.bool (decide (a = b))) ∧ Below w.heap.size w w' := by
  obtain ⟨ad, ca, rfl⟩ := ownsRow_form ha
  obtain ⟨bd, cb, rfl⟩ := ownsRow_form hb
  by_cases hn : a.length = b.length
  · have hn' : ((a.length : Int) == (b.length : Int)) = true := by rw [beq_iff_eq]; omega
    have HN := hide hn
    clear hn
    go_enter Tryz.func17, Tryz.ntmps17
    go_wp2
    go_loopw [5] (fun i wr => ∃ k : Nat, k ≤ a.length ∧ i = .int .i64 k ∧ (∀ j (h : j < a.length) (h' : j < b.length), j < k → a[j] = b[j]) ∧ wr.ownsRow B 3 1 (.slice ad a.length ca) a.length (ints a) ∧ wr.ownsRow B' 3 1 (.slice bd b.length cb) b.length (ints b) ∧ Below w.heap.size w wr) (fun i _ => a.length - (intOf i).toNat)
    case atStart => exact ⟨0, Nat.zero_le _, rfl, fun j _ _ h => by omega, ha, hb, Below.refl _ _⟩
    case round =>
      obtain ⟨k, hk, rfl, hall, ha2, hb2, hbe⟩ := hrel
      have HX := hide (And.intro hall (And.intro ha2 (And.intro hb2 hbe)))
      by_cases hlt : k < a.length
      · have hlt' : (k : Int) < (a.length : Int) := by omega
        have hlb : k < b.length := by have := unhide HN; omega
        have hlb' : (k : Int) < (b.length : Int) := by omega
        have hk0 : (0 : Int) ≤ (k : Int) := by omega
        obtain ⟨g, cap, he, cx⟩ := int_cell ha2 hlt
        obtain ⟨g', cap', he', cy⟩ := int_cell hb2 hlb
        simp at he he'
        obtain ⟨rfl, rfl⟩ := he
        obtain ⟨rfl, rfl⟩ := he'
        have HE := hide (show a[k] = b[k] → ∀ j (h : j < a.length) (h' : j < b.length), j < k + 1 → a[j] = b[j] from fun e j h h' hj => by
          by_cases hjk : j = k
          · subst hjk; exact e
          · exact hall j h h' (by omega))
        have HF := hide (show ¬ a[k] = b[k] → decide (a = b) = false from fun e => by
          rw [decide_eq_false_iff_not]
          intro hab
          subst hab
          exact e rfl)
        clear hall ha2 hb2 hbe
        generalize a[k] = x at *
        generalize b[k] = y at *
        cases hxy : (x == y) with
        | true =>
          have hx := unhide HE (by simpa using hxy)
          have HE2 := hide hx
          clear hx
          go_wp2_with fail
          go_region_held3 (fun w' => w'.cell? ⟨g, k, none⟩ = some (.int .i64 x) ∧ w'.cell? ⟨g', k, none⟩ = some (.int .i64 y)) (go_keep) (fail)
          go_wp2_with fail
          go_roundw
          case rel =>
            obtain ⟨_, q2, q3, q4⟩ := unhide HX
            exact ⟨k + 1, by omega, by go_num, unhide HE2, own_later q2 (below_to_drew _), own_later q3 (below_to_drew _), q4.trans ((below_to_drew _).mono q4.size)⟩
          case measure => simp [intOf]; omega
        | false =>
          have hx := unhide HF (by simpa using hxy)
          have HF2 := hide hx
          clear hx
          go_wp2_with fail
          go_region_held3 (fun w' => w'.cell? ⟨g, k, none⟩ = some (.int .i64 x) ∧ w'.cell? ⟨g', k, none⟩ = some (.int .i64 y)) (go_keep) (fail)
          go_wp2_with fail
          go_ret
          obtain ⟨_, q2, q3, q4⟩ := unhide HX
          exact ⟨by rw [unhide HF2]; rfl, q4.trans ((below_to_drew _).mono q4.size)⟩
      · have hlt' : ¬ (k : Int) < (a.length : Int) := by omega
        have HE := hide (show decide (a = b) = true from by
          rw [decide_eq_true_eq]
          exact ints_eq_from (unhide HN) (fun j h h' => hall j h h' (by omega)))
        clear hall ha2 hb2 hbe
        go_wp2_with fail
        go_ret
        exact ⟨by rw [unhide HE]; rfl, (unhide HX).2.2.2⟩
  · have hn' : ((a.length : Int) == (b.length : Int)) = false := by rw [beq_eq_false_iff_ne]; omega
    go_enter Tryz.func17, Tryz.ntmps17
    go_wp2
    go_ret
    exact ⟨ret_bool (by rw [eq_comm, decide_eq_false_iff_not]; intro e; exact hn (by rw [e])), Below.refl _ _⟩


end Go.Proofs.YtbpajiljfppjcaaGreat

namespace Go.Proofs.YtbpajiljfppjcaaGreat
open Go.RowKit
attribute [local go_sem ↓] Go.wp_at_zero Go.wp_at_succ

theorem row_ints {w : World} {B : Nat} {v : Value} {n : Nat} {l : List Int} (h : w.ownsRow B 3 1 v n (intsV l)) (hn : n = l.length) : Ints w v l := by
  subst hn
  obtain ⟨ad, cap, rfl⟩ := ownsRow_form h
  refine ⟨ad, cap, rfl, ?_⟩
  by_cases hl : l = []
  · exact Or.inl hl
  · right
    obtain ⟨g, cap', he, _⟩ := int_cell h (j := 0) (List.length_pos_iff.mpr hl)
    simp at he
    obtain ⟨rfl, rfl⟩ := he
    refine ⟨g, 0, rfl, fun j hj => ?_⟩
    obtain ⟨g', cap', he', hc⟩ := int_cell h hj
    simp at he'
    obtain ⟨rfl, rfl⟩ := he'
    rw [Nat.zero_add]
    exact hc
theorem begun_any (s : ByteArray) (iv : Value) (inp : List Int) (cap : Int) (w : World) (pls : List Rt.PL) (hs : s.size ≤ maxLen) (hi : Ints w iv inp) (hR : Rt.readS s = (0, 0, pls)) (hl : inp.length ≤ 100) (hc : 5 ≤ cap ∧ cap ≤ 500) :
    Calls Tryz.prog 4 #[.string s, iv, .int .i64 cap] w fun e w' => Below w.heap.size w w' ∧ ∃ P B X, e = .returned (.pointer (some ⟨P, 0, none⟩)) ∧ w.heap.size ≤ P ∧ (∀ k ∈ blkX X, w.heap.size ≤ k) ∧ SesS w' P B (srcOf s pls inp) cap (Rt.seFirst (srcOf s pls inp)) X (.slice none 0 0) := by
  go_enter Tryz.func4, Tryz.ntmps4
  go_wp2_with fail
  refine (snew_any s iv inp cap w pls hs hi hR hl hc).mono ?_
  rintro e w1 ⟨hb1, P, B, X, rfl, h1, h2, h3⟩
  have HF := hide (And.intro hb1 (And.intro h1 (And.intro h2 h3)))
  clear hb1 h1 h2 h3 hi
  go_wp2_with fail
  go_ret
  obtain ⟨q1, q2, q3, q4⟩ := unhide HF
  exact ⟨q1, P, B, X, rfl, q2, q3, q4⟩
theorem sOutput_any (w : World) (P B : Nat) (S : Rt.Src) (cap : Int) (s : Rt.Se) (X : McX) (jv : Value) (h : SesS w P B S cap s X jv) (ho : s.m.output.length ≤ 1000) :
    Calls Tryz.prog 8 #[.pointer (some ⟨P, 0, none⟩)] w fun e w' => Below w.heap.size w w' ∧ ∃ v, e = .returned v ∧ w'.ownsRow w.heap.size 3 1 v s.m.output.length (intsV s.m.output) := by
  go_enter Tryz.func8, Tryz.ntmps8
  go_wp2_with fail
  refine (output_any _ P B _ _ S s.m X h.mc ho).mono ?_
  rintro e w1 ⟨hb1, v, rfl, hv⟩
  have HF := hide (And.intro hb1 hv)
  clear hb1 hv h
  go_wp2_with fail
  go_ret
  exact ⟨(unhide HF).1, v, rfl, (unhide HF).2⟩
end Go.Proofs.YtbpajiljfppjcaaGreat

namespace Go.Proofs.YtbpajiljfppjcaaGreat
open Go.RowKit
attribute [local go_sem ↓] Go.wp_at_zero Go.wp_at_succ

def mk0 : List Bool := List.replicate 101 false
theorem plc_of {s : ByteArray} {pls : List Rt.PL} {inp : List Int} (hR : Rt.readS s = (0, 0, pls)) (hl : inp.length ≤ 100) : Plc (srcOf s pls inp) := ⟨good_of hR hl, call4_of hR, first_keepG (good_of hR hl)⟩
theorem begun_at (s : ByteArray) (iv : Value) (inp : List Int) (cap : Int) (w : World) (pls : List Rt.PL) (hs : s.size ≤ maxLen) (hi : Ints w iv inp) (hR : Rt.readS s = (0, 0, pls)) (hl : inp.length ≤ 100) (hc : 5 ≤ cap ∧ cap ≤ 500) :
    Calls Tryz.prog 4 #[.string s, iv, .int .i64 cap] w fun e w' => Below w.heap.size w w' ∧ ∃ P B X jv, e = .returned (.pointer (some ⟨P, 0, none⟩)) ∧ (∀ k ∈ ownL P X jv, w.heap.size ≤ k) ∧ Sess w' P B (srcOf s pls inp) cap 0 0 mk0 X jv := by
  refine (begun_any s iv inp cap w pls hs hi hR hl hc).mono ?_
  rintro e w' ⟨hb, P, B, X, he, hP, hX, hses⟩
  refine ⟨hb, P, B, X, .slice none 0 0, he, fun k hk => ?_, hses, ⟨fun i hi => by omega, Nat.le_refl _, ?_⟩⟩
  · rcases in_ownL hk with e | e | e
    · omega
    · exact hX k e
    · cases e
  · show ((0 : Nat) : Int) ≤ cap
    omega
theorem six_set {w : World} {b : Nat} {v0 v1 v2 v3 v4 v5 : Value} {t : TypeId} (h : w.heap[b]? = some (.cells #[v0, v1, v2, v3, v4, v5] t (0, 0))) (a0 a1 a2 a3 a4 a5 : Value) : (W6 w b a0 a1 a2 a3 a4 a5).heap[b]? = some (.cells #[a0, a1, a2, a3, a4, a5] t (0, 0)) := by
  have := set_block (set_block (set_block (set_block (set_block (set_block h 0 a0) 1 a1) 2 a2) 3 a3) 4 a4) 5 a5
  simpa using this
theorem first_fin (S : Rt.Src) : (Rt.atM S 0).fin = 0 := rfl
end Go.Proofs.YtbpajiljfppjcaaGreat

