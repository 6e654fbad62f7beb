/- Do two sessions stand alike: alike. -/
import Derived.Test.YtbpajiljfppjcaaGreatDoorSsM
import Derived.BigRegion
namespace Go.Proofs.YtbpajiljfppjcaaGreatDoor
open Go.RowKit
attribute [local go_sem ↓] Go.wp_at_zero Go.wp_at_succ

theorem outT : OutTy 46 ∧ 46 ≠ 93 := by unfold OutTy PTy; decide
theorem outB : OutTy 4 ∧ 4 ≠ 93 := by unfold OutTy PTy; decide
def twC (Pa Pb M : Nat) : Array Value := #[.pointer (some ⟨Pa, 0, none⟩), .pointer (some ⟨Pb, 0, none⟩), .slice (some ⟨M, 0, none⟩) 101 101]
def mkC (mk : List Bool) : Array Value := (mk.map Value.bool).toArray
theorem mkC_get {mk : List Bool} {l : Nat} {b : Bool} (h : mk[l]? = some b) : (mkC mk)[l]? = some (.bool b) := by
  unfold mkC
  rw [List.getElem?_toArray, List.getElem?_map, h]
  rfl
theorem mkC_set (mk : List Bool) (l : Nat) (b : Bool) : (mkC mk).setIfInBounds l (.bool b) = mkC (mk.set l b) := by
  unfold mkC
  rw [List.setIfInBounds_toArray, List.map_set]
/-- A mark is turned. -/
def turn (S : Rt.Src) (mk : List Bool) (l : Nat) : List Bool := if Rt.isStopP S.pls (Rt.lineAtP S.pls l) = true then mk.set l (!((mk[l]?).getD false)) else mk
theorem turn_len (S : Rt.Src) (mk : List Bool) (l : Nat) : (turn S mk l).length = mk.length := by
  unfold turn
  split
  · rw [List.length_set]
  · rfl
def mkLine (raw : Int) : Nat := 1 + (Rt.pickP raw 100).toNat
set_option maxHeartbeats 4000000 in
set_option maxRecDepth 100000 in
theorem tmark_any (w wr : World) (Pa Ba Pb Bb T M : Nat) (S : Rt.Src) (ca cb : Int) (mk : List Bool) (na la nb lb : Nat) (Xa Xb : McX) (ja jb : Value) (bl : List (Nat × Array Value × TypeId)) (h : TwI w wr Pa Ba Pb Bb S ca cb mk mk na la Xa ja nb lb Xb jb ((M, mkC mk, 4) :: (T, twC Pa Pb M, 46) :: bl)) (hne : ∀ b ∈ bl, b.1 ≠ M) (hmk : mk.length = 101) (raw : Int) (h1 : -9223372036854775808 ≤ raw ∧ raw ≤ 9223372036854775807) :
    Calls Tryz.prog 47 #[.pointer (some ⟨T, 0, none⟩), .int .i64 raw] wr fun e w' => e = .returned (.bool true) ∧ TwI w w' Pa Ba Pb Bb S ca cb (turn S mk (mkLine raw)) (turn S mk (mkLine raw)) na la Xa ja nb lb Xb jb ((M, mkC (turn S mk (mkLine raw)), 4) :: (T, twC Pa Pb M, 46) :: bl) := by
  have hp := pick_range2 raw 100 (by omega)
  have HC := hide (fun W => pick_any W raw 100 h1.1 h1.2 (by omega) (by omega))
  obtain ⟨q, hq⟩ := Int.eq_ofNat_of_zero_le hp.1
  obtain ⟨l, hl⟩ : ∃ l, l = mkLine raw := ⟨_, rfl⟩
  have hlq : l = 1 + q := by rw [hl]; unfold mkLine; rw [hq]; rfl
  rw [← hl]
  rw [hq] at HC hp
  have hl101 : l < 101 := by omega
  have hmt : M ≠ T := fun e => by
    have g1 := (h.bls (M, mkC mk, 4) (by simp)).1
    have g2 := (h.bls (T, twC Pa Pb M, 46) (by simp)).1
    simp only at g1 g2
    rw [e, g2] at g1
    injection g1 with g1
    injection g1 with _ g1
    exact absurd g1 (by decide)
  have e1 : IntKind.i64.wrap (1 + (q : Int)) = (l : Int) := by rw [IntWalk.i64_left, IntWalk.wrap64_in _ (by omega)]; omega
  obtain ⟨t0, t1, t2⟩ := three_cells (h.bls (T, twC Pa Pb M, 46) (by simp)).1
  have HI := hide h
  have HN := hide (And.intro hne hmt)
  clear h hp hq hl hlq h1 hne hmt
  cases hs : Rt.isStopP S.pls (Rt.lineAtP S.pls l) with
  | false =>
    have HT := hide (show turn S mk l = mk by unfold turn; rw [hs]; rfl)
    have HS := hide hs
    clear hs
    rw [unhide HT]
    go_enter Tryz.func47, Tryz.ntmps47
    go_wp2_with fail
    refine (unhide HC _).mono ?_
    rintro e w1 ⟨rfl, rfl⟩
    go_wp2_with fail
    refine (mark_none _ Pa Ba S ca _ Xa ja (unhide HI).a.ses l hl101 (unhide HS)).mono ?_
    rintro e w2 ⟨rfl, hb2⟩
    have HI2 := hide ((unhide HI).later hb2)
    clear hb2 t0 t1 t2
    obtain ⟨t0, t1, t2⟩ := three_cells ((unhide HI2).bls (T, twC Pa Pb M, 46) (by simp)).1
    go_wp2_with fail
    refine (mark_none _ Pb Bb S cb _ Xb jb (unhide HI2).b.ses l hl101 (unhide HS)).mono ?_
    rintro e w3 ⟨rfl, hb3⟩
    have HI3 := hide ((unhide HI2).later hb3)
    clear hb3 t0 t1 t2
    go_wp2_with fail
    go_ret
    exact ⟨rfl, unhide HI3⟩
  | true =>
    obtain ⟨b, hb⟩ : ∃ b, mk[l]? = some b := ⟨mk[l]'(by omega), List.getElem?_eq_getElem (by omega)⟩
    have HT := hide (show turn S mk l = mk.set l (!b) by unfold turn; rw [hs, hb]; rfl)
    have HS := hide (And.intro hs hb)
    clear hs hb
    rw [unhide HT]
    go_enter Tryz.func47, Tryz.ntmps47
    go_wp2_with fail
    refine (unhide HC _).mono ?_
    rintro e w1 ⟨rfl, rfl⟩
    go_wp2_with fail
    refine (mark_stop _ Pa Ba S ca _ Xa ja (unhide HI).a.ses hmk l hl101 (unhide HS).1 b (unhide HS).2).mono ?_
    rintro e w2 ⟨rfl, hA⟩
    have HI2 := hide ((unhide HI).moveA (mk2 := mk.set l (!b)) hA (unhide HI).a.ok)
    clear hA t0 t1 t2 HI
    obtain ⟨t0, t1, t2⟩ := three_cells ((unhide HI2).bls (T, twC Pa Pb M, 46) (by simp)).1
    go_wp2_with fail
    refine (mark_stop _ Pb Bb S cb _ Xb jb (unhide HI2).b.ses hmk l hl101 (unhide HS).1 b (unhide HS).2).mono ?_
    rintro e w3 ⟨rfl, hA⟩
    have HI3 := hide ((unhide HI2).moveB (mk2 := mk.set l (!b)) hA (unhide HI2).b.ok)
    clear hA t0 t1 t2 HI2
    obtain ⟨t0, t1, t2⟩ := three_cells ((unhide HI3).bls (T, twC Pa Pb M, 46) (by simp)).1
    have bM := ((unhide HI3).bls (M, mkC mk, 4) (by simp)).1
    have mc : w3.cell? ⟨M, l, none⟩ = some (.bool b) := by
      rw [cell_of_row w3 M l _ _ _ bM]
      exact mkC_get (unhide HS).2
    have mf := free_of_block bM l
    have hq := hide ((unhide HI3).set1 (by
      intro x hx
      rcases List.mem_cons.mp hx with rfl | hx
      · exact fun e => (unhide HN).2 e.symm
      · exact (unhide HN).1 x hx) l (.bool (!b)))
    rw [mkC_set] at hq
    have h0 : (0 : Int) ≤ (l : Int) := by omega
    have h2 : (l : Int) < 101 := by omega
    have hMT : ¬ M = T := (unhide HN).2
    have hTM : ¬ T = M := fun e => (unhide HN).2 e.symm
    clear bM
    go_wp2_with fail
    go_region
    go_wp2_with fail
    go_ret
    exact ⟨rfl, (unhide hq).later (below_to_drew _)⟩
theorem goal_any (w : World) (kind d0 : Int) (d : Nat) (hk : 0 ≤ kind ∧ kind ≤ 3) :
    Calls Tryz.prog 76 #[.int .i64 kind, .int .i64 d0, .int .i64 (d : Int)] w fun e w' => e = .returned (.bool (Rt.reachedB kind d0 d)) ∧ w' = w := by
  obtain ⟨k, rfl⟩ := Int.eq_ofNat_of_zero_le hk.1
  have hk3 : k ≤ 3 := by omega
  match k, hk3 with
  | 0, _ =>
    go_enter Tryz.func76, Tryz.ntmps76
    go_wp2_with fail
    go_ret
    exact ⟨rfl, rfl⟩
  | 1, _ =>
    have HE := hide (show Rt.reachedB ((1 : Nat) : Int) d0 d = decide ((d : Int) ≤ d0) from rfl)
    go_enter Tryz.func76, Tryz.ntmps76
    go_wp2_with fail
    go_ret
    exact ⟨by rw [unhide HE]; rfl, rfl⟩
  | 2, _ =>
    have HE := hide (show Rt.reachedB ((2 : Nat) : Int) d0 d = decide ((d : Int) < d0) from rfl)
    go_enter Tryz.func76, Tryz.ntmps76
    go_wp2_with fail
    go_ret
    exact ⟨by rw [unhide HE]; rfl, rfl⟩
  | 3, _ =>
    go_enter Tryz.func76, Tryz.ntmps76
    go_wp2_with fail
    go_ret
    exact ⟨rfl, rfl⟩
set_option maxHeartbeats 4000000 in
set_option maxRecDepth 100000 in
theorem come_any (w wr : World) (Pa Ba Pb Bb T M : Nat) (S : Rt.Src) (ca cb : Int) (mk : List Bool) (na la nb lb : Nat) (Xa Xb : McX) (ja jb : Value) (bl : List (Nat × Array Value × TypeId)) (h : TwI w wr Pa Ba Pb Bb S ca cb mk mk na la Xa ja nb lb Xb jb bl) (hT : (T, twC Pa Pb M, 46) ∈ bl) (hM : (M, mkC mk, 4) ∈ bl) (hmk : mk.length = 101) (kind d0 : Int) (hk : 0 ≤ kind ∧ kind ≤ 3) :
    Calls Tryz.prog 49 #[.pointer (some ⟨T, 0, none⟩), .int .i64 kind, .int .i64 d0] wr fun e w' => e = .returned (.int .i64 (Rt.arrivedI (Rt.seAt S nb 0 mk) kind d0 1)) ∧ Below wr.heap.size wr w' := by
  obtain ⟨t0, t1, t2⟩ := three_cells (h.bls _ hT).1
  have HG := hide (fun W => goal_any W kind d0 (Rt.atM S nb).frames.length hk)
  have HI := hide (And.intro h.b (And.intro (h.bls _ hT).1 (h.bls _ hM).1))
  have HA := hide (show Rt.arrivedI (Rt.seAt S nb 0 mk) kind d0 1 = if Rt.reachedB kind d0 (Rt.atM S nb).frames.length = true then 1 else if Rt.markedB (Rt.seAt S nb 0 mk) = true then 2 else 0 by unfold Rt.arrivedI; rw [if_neg (by omega)]; rfl)
  have HMB := hide (show Rt.markedB (Rt.seAt S nb 0 mk) = (decide (0 ≤ (Rt.atM S nb).line ∧ (Rt.atM S nb).line < 101) && (mk[(Rt.atM S nb).line.toNat]?).getD false) from rfl)
  generalize Rt.markedB (Rt.seAt S nb 0 mk) = mb at *
  generalize Rt.arrivedI (Rt.seAt S nb 0 mk) kind d0 1 = ai at *
  clear h hk hT hM
  go_enter Tryz.func49, Tryz.ntmps49
  go_wp2_with fail
  refine (unhide HI).1.whereS.mono ?_
  rintro e w1 ⟨rfl, hb1⟩
  have bT := block_later (unhide HI).2.1 hb1
  have bM := block_later (unhide HI).2.2 hb1
  clear t0 t1 t2 HI
  unfold replyN
  generalize Rt.reachedB kind d0 (Rt.atM S nb).frames.length = rb at *
  generalize (Rt.atM S nb).frames.length = d at *
  generalize (Rt.atM S nb).line = ln at *
  generalize (Rt.atM S nb).fin = fn at *
  have hbA := hb1.trans (((Below.refl w1.heap.size w1).alloc (Nat.le_refl _) (.cells #[.int .i64 0, .int .i64 0, .int .i64 fn, .int .i64 ln, .int .i64 (d : Int), .int .i64 (nb : Int)] 36)).mono hb1.size)
  have bT2 := block_alloc bT (.cells #[.int .i64 0, .int .i64 0, .int .i64 fn, .int .i64 ln, .int .i64 (d : Int), .int .i64 (nb : Int)] 36)
  have bM2 := block_alloc bM (.cells #[.int .i64 0, .int .i64 0, .int .i64 fn, .int .i64 ln, .int .i64 (d : Int), .int .i64 (nb : Int)] 36)
  have bW := heap_alloc_new w1 (.cells #[.int .i64 0, .int .i64 0, .int .i64 fn, .int .i64 ln, .int .i64 (d : Int), .int .i64 (nb : Int)] 36)
  go_wp2_with fail
  refine (unhide HG _).mono ?_
  rintro e w2 ⟨rfl, rfl⟩
  revert hbA bT2 bM2 bW
  generalize w1.alloc (.cells #[.int .i64 0, .int .i64 0, .int .i64 fn, .int .i64 ln, .int .i64 (d : Int), .int .i64 (nb : Int)] 36) = wa
  generalize w1.heap.size = A at *
  intro hbA bT2 bM2 bW
  obtain ⟨t0, t1, t2⟩ := three_cells bT2
  obtain ⟨x0, x1, x2, x3, x4, x5, xz⟩ := six_any bW
  have HB := hide hbA
  clear hbA bT bM bT2 bW hb1
  cases rb with
  | true =>
    have HE := hide ((unhide HA).trans (if_pos rfl))
    clear bM2
    go_wp2_with fail
    go_ret
    exact ⟨by rw [unhide HE]; rfl, unhide HB⟩
  | false =>
    replace HA := hide ((unhide HA).trans (if_neg (by simp)))
    by_cases hl : 0 ≤ ln ∧ ln < 101
    · obtain ⟨j, hj⟩ := Int.eq_ofNat_of_zero_le hl.1
      obtain ⟨b, hb⟩ : ∃ b, mk[j]? = some b := ⟨mk[j]'(by omega), List.getElem?_eq_getElem (by omega)⟩
      have mc : wa.cell? ⟨M, j, none⟩ = some (.bool b) := by
        rw [cell_of_row wa M j _ _ _ bM2]
        exact mkC_get hb
      have hmb : mb = b := by
        rw [unhide HMB, show decide (0 ≤ ln ∧ ln < 101) = true by simpa using hl, hj]
        simp [hb]
      have h0 : (0 : Int) ≤ (j : Int) := by omega
      have h2 : (j : Int) < 101 := by omega
      subst hj hmb
      have HH := hide hb
      clear hb hl bM2 HMB
      cases mb with
      | true =>
        have HE := hide ((unhide HA).trans (if_pos rfl))
        go_wp2_with fail
        go_quiet (fail)
        go_wp2_with fail
        go_ret
        exact ⟨by rw [unhide HE]; rfl, (unhide HB).trans ((below_drewN wa _).mono (unhide HB).size)⟩
      | false =>
        have HE := hide ((unhide HA).trans (if_neg (by simp)))
        go_wp2_with fail
        go_quiet (fail)
        go_wp2_with fail
        go_ret
        exact ⟨by rw [unhide HE]; rfl, (unhide HB).trans ((below_drewN wa _).mono (unhide HB).size)⟩
    · have hmb : mb = false := by
        rw [unhide HMB, show decide (0 ≤ ln ∧ ln < 101) = false by simpa using hl]
        rfl
      subst hmb
      have HE := hide ((unhide HA).trans (if_neg (by simp)))
      clear bM2 HMB
      by_cases hl0 : 0 ≤ ln
      · have hl1 : decide (ln < 101) = false := by simpa using fun h => hl ⟨hl0, h⟩
        clear hl
        go_wp2_with fail
        go_quiet (fail)
        go_wp2_with fail
        go_ret
        exact ⟨by rw [unhide HE]; rfl, (unhide HB).trans ((below_drewN wa _).mono (unhide HB).size)⟩
      · have hl1 : decide (0 ≤ ln) = false := by simpa using hl0
        clear hl
        go_wp2_with fail
        go_quiet (fail)
        go_wp2_with fail
        go_ret
        exact ⟨by rw [unhide HE]; rfl, (unhide HB).trans ((below_drewN wa _).mono (unhide HB).size)⟩
end Go.Proofs.YtbpajiljfppjcaaGreatDoor

namespace Go.Proofs.YtbpajiljfppjcaaGreatDoor
open Go.RowKit
attribute [local go_sem ↓] Go.wp_at_zero Go.wp_at_succ

set_option maxHeartbeats 4000000 in
set_option maxRecDepth 100000 in
theorem alike_any (w wr : World) (Pa Ba Pb Bb T M : Nat) (S : Rt.Src) (cap : Int) (mk : List Bool) (n low : Nat) (Xa Xb : McX) (ja jb : Value) (h : TwI w wr Pa Ba Pb Bb S cap cap mk mk n low Xa ja n low Xb jb [(T, twC Pa Pb M, 46)]) (hc : Cst S cap mk) (reason moved : Int) :
    Calls Tryz.prog 21 #[.pointer (some ⟨T, 0, none⟩), .agg #[.int .i64 reason, .int .i64 moved, .int .i64 (Rt.atM S n).fin, .int .i64 (Rt.atM S n).line, .int .i64 ((Rt.atM S n).frames.length : Int), .int .i64 (n : Int)], .int .i64 reason, .int .i64 moved] wr fun e w' => e = .returned (.bool true) ∧ Below w.heap.size w w' := by
  have HI := hide h
  have HC := hide hc
  obtain ⟨f1, hf1⟩ : ∃ f, f = (Rt.atM S n).fin := ⟨_, rfl⟩
  obtain ⟨l1, hl1⟩ : ∃ f, f = (Rt.atM S n).line := ⟨_, rfl⟩
  obtain ⟨d1, hd1⟩ : ∃ f : Int, f = ((Rt.atM S n).frames.length : Int) := ⟨_, rfl⟩
  rw [← hf1, ← hl1, ← hd1]
  have HQ1 := hide (And.intro hf1 (And.intro hl1 hd1))
  clear hf1 hl1 hd1 h hc
  have HI1 := hide ((unhide HI).alloc #[.int .i64 reason, .int .i64 moved, .int .i64 f1, .int .i64 l1, .int .i64 d1, .int .i64 (n : Int)] 36 outR2)
  obtain ⟨t0, t1, t2⟩ := three_cells ((unhide HI1).bls (T, twC Pa Pb M, 46) (by simp)).1
  have hTw := block_lt ((unhide HI).bls (T, twC Pa Pb M, 46) (by simp)).1
  go_enter Tryz.func21, Tryz.ntmps21
  go_wp2_with fail
  obtain ⟨A, hA⟩ : ∃ A, A = wr.heap.size := ⟨_, rfl⟩
  rw [← hA] at HI1 ⊢
  clear t0 t1 t2 hTw HI
  revert HI1
  generalize wr.alloc (.cells #[.int .i64 reason, .int .i64 moved, .int .i64 f1, .int .i64 l1, .int .i64 d1, .int .i64 (n : Int)] 36) = wa
  intro HI1
  clear hA
  refine ((unhide HI1).a.look (unhide HC)).mono ?_
  rintro e w1 ⟨hb, va, vc, vo, rfl, hv⟩
  obtain ⟨xa1, xc1, xa2, xc2, xa3, xc3, rfl, rfl, rfl⟩ := hv.forms
  have HI2p := hide (And.intro ((unhide HI1).later hb) hb)
  have HVx0 := hide hv
  clear hb hv HI1
  generalize (Rt.valuesL S (Rt.atM S n)).length = xy1 at *
  generalize (Rt.callsL (Rt.atM S n)).length = xy2 at *
  generalize (Rt.atM S n).output.length = xy3 at *
  have HVx := hide (show vwA S n (.slice xa1 xy1 xc1) (.slice xa2 xy2 xc2) (.slice xa3 xy3 xc3) = #[.int .i64 0, .int .i64 0, .int .i64 f1, .int .i64 l1, .int .i64 d1, .int .i64 (n : Int), .slice xa1 xy1 xc1, .slice xa2 xy2 xc2, .slice xa3 xy3 xc3] from by rw [(unhide HQ1).1, (unhide HQ1).2.1, (unhide HQ1).2.2]; rfl)
  rw [unhide HVx]
  have HI2 := hide (unhide HI2p).1
  clear HI2p
  obtain ⟨t0, t1, t2⟩ := three_cells ((unhide HI2).bls (T, twC Pa Pb M, 46) (by simp)).1
  have hTw := block_lt ((unhide HI2).bls (T, twC Pa Pb M, 46) (by simp)).1
  have q1 := (unhide HI2).alloc #[.int .i64 0, .int .i64 0, .int .i64 f1, .int .i64 l1, .int .i64 d1, .int .i64 (n : Int), .slice xa1 xy1 xc1, .slice xa2 xy2 xc2, .slice xa3 xy3 xc3] 56 outV2
  obtain ⟨s0, s1, s2⟩ := three_cells (q1.bls (T, twC Pa Pb M, 46) (by simp)).1
  clear q1
  go_wp2_with fail
  clear t0 t1 t2 s0 s1 s2 hTw
  have hq := hide ((unhide HI2).alloc #[.int .i64 0, .int .i64 0, .int .i64 f1, .int .i64 l1, .int .i64 d1, .int .i64 (n : Int), .slice xa1 xy1 xc1, .slice xa2 xy2 xc2, .slice xa3 xy3 xc3] 56 outV2)
  have HVx1 := hide ((unhide HVx0).later ((Below.refl w1.heap.size w1).alloc (Nat.le_refl _) (.cells #[.int .i64 0, .int .i64 0, .int .i64 f1, .int .i64 l1, .int .i64 d1, .int .i64 (n : Int), .slice xa1 xy1 xc1, .slice xa2 xy2 xc2, .slice xa3 xy3 xc3] 56)))
  clear HVx0
  clear HI2
  obtain ⟨A1, hA1⟩ : ∃ A, A = w1.heap.size := ⟨_, rfl⟩
  rw [← hA1] at hq ⊢
  revert hq HVx1
  generalize w1.alloc (.cells #[.int .i64 0, .int .i64 0, .int .i64 f1, .int .i64 l1, .int .i64 d1, .int .i64 (n : Int), .slice xa1 xy1 xc1, .slice xa2 xy2 xc2, .slice xa3 xy3 xc3] 56) = wb
  intro HVx1 HI3
  clear hA1
  refine ((unhide HI3).b.look (unhide HC)).mono ?_
  rintro e w2 ⟨hb, va, vc, vo, rfl, hv⟩
  obtain ⟨ya1, yc1, ya2, yc2, ya3, yc3, rfl, rfl, rfl⟩ := hv.forms
  have HI4p := hide (And.intro ((unhide HI3).later hb) hb)
  have HVy0 := hide hv
  clear hb hv HI3
  generalize (Rt.valuesL S (Rt.atM S n)).length = yy1 at *
  generalize (Rt.callsL (Rt.atM S n)).length = yy2 at *
  generalize (Rt.atM S n).output.length = yy3 at *
  have HVy := hide (show vwA S n (.slice ya1 yy1 yc1) (.slice ya2 yy2 yc2) (.slice ya3 yy3 yc3) = #[.int .i64 0, .int .i64 0, .int .i64 f1, .int .i64 l1, .int .i64 d1, .int .i64 (n : Int), .slice ya1 yy1 yc1, .slice ya2 yy2 yc2, .slice ya3 yy3 yc3] from by rw [(unhide HQ1).1, (unhide HQ1).2.1, (unhide HQ1).2.2]; rfl)
  rw [unhide HVy]
  have HVx2 := hide ((unhide HVx1).later (unhide HI4p).2)
  have HI4 := hide (unhide HI4p).1
  clear HI4p HVx1
  have g1 := (unhide HI4).bls (A1, #[.int .i64 0, .int .i64 0, .int .i64 f1, .int .i64 l1, .int .i64 d1, .int .i64 (n : Int), .slice xa1 xy1 xc1, .slice xa2 xy2 xc2, .slice xa3 xy3 xc3], 56) (by simp)
  obtain ⟨x0, x1, x2, x3, x4, x5, x6, x7, x8, xz⟩ := nine_any g1.1
  have hA1w := block_lt g1.1
  clear g1
  go_wp2_with fail
  clear x0 x1 x2 x3 x4 x5 x6 x7 x8 xz hA1w
  have hq := hide ((unhide HI4).alloc #[.int .i64 0, .int .i64 0, .int .i64 f1, .int .i64 l1, .int .i64 d1, .int .i64 (n : Int), .slice ya1 yy1 yc1, .slice ya2 yy2 yc2, .slice ya3 yy3 yc3] 56 outV2)
  have HVx3 := hide ((unhide HVx2).later ((Below.refl w2.heap.size w2).alloc (Nat.le_refl _) (.cells #[.int .i64 0, .int .i64 0, .int .i64 f1, .int .i64 l1, .int .i64 d1, .int .i64 (n : Int), .slice ya1 yy1 yc1, .slice ya2 yy2 yc2, .slice ya3 yy3 yc3] 56)))
  have HVy1 := hide ((unhide HVy0).later ((Below.refl w2.heap.size w2).alloc (Nat.le_refl _) (.cells #[.int .i64 0, .int .i64 0, .int .i64 f1, .int .i64 l1, .int .i64 d1, .int .i64 (n : Int), .slice ya1 yy1 yc1, .slice ya2 yy2 yc2, .slice ya3 yy3 yc3] 56)))
  clear HVx2 HVy0
  clear HI4
  obtain ⟨A2, hA2⟩ : ∃ A, A = w2.heap.size := ⟨_, rfl⟩
  rw [← hA2] at hq ⊢
  revert hq HVx3 HVy1
  generalize w2.alloc (.cells #[.int .i64 0, .int .i64 0, .int .i64 f1, .int .i64 l1, .int .i64 d1, .int .i64 (n : Int), .slice ya1 yy1 yc1, .slice ya2 yy2 yc2, .slice ya3 yy3 yc3] 56) = wc
  intro HVx3 HVy1 HI5
  clear hA2
  have hsv := views_same (unhide HVx3) (unhide HVy1) (unhide HC).plc
  rw [unhide HVx, unhide HVy] at hsv
  refine hsv.mono ?_
  rintro e w3 ⟨rfl, hb3⟩
  have HI6 := hide ((unhide HI5).later hb3)
  clear hsv hb3 HI5
  obtain ⟨t0, t1, t2⟩ := three_cells ((unhide HI6).bls (T, twC Pa Pb M, 46) (by simp)).1
  go_wp2_with fail
  refine ((unhide HI6).a.held).mono ?_
  rintro e w4 ⟨rfl, rfl⟩
  obtain ⟨ct, hct⟩ : ∃ c, c = (Rt.recsOf S low (n - low)).length := ⟨_, rfl⟩
  rw [← hct]
  go_wp2_with fail
  refine ((unhide HI6).b.held).mono ?_
  rintro e w5 ⟨rfl, rfl⟩
  rw [← hct]
  clear hct
  have g2 := (unhide HI6).bls (A2, #[.int .i64 0, .int .i64 0, .int .i64 f1, .int .i64 l1, .int .i64 d1, .int .i64 (n : Int), .slice ya1 yy1 yc1, .slice ya2 yy2 yc2, .slice ya3 yy3 yc3], 56) (by simp)
  obtain ⟨x0, x1, x2, x3, x4, x5, x6, x7, x8, xz⟩ := nine_any g2.1
  have g3 := (unhide HI6).bls (A, #[.int .i64 reason, .int .i64 moved, .int .i64 f1, .int .i64 l1, .int .i64 d1, .int .i64 (n : Int)], 36) (by simp)
  obtain ⟨y0, y1, y2, y3, y4, y5, yz⟩ := six_any g3.1
  have hAw := block_lt g3.1
  have HB := hide (unhide HI6).below
  clear g2 g3 t0 t1 t2
  go_wp2_with fail
  go_ret
  exact ⟨rfl, (unhide HB).alloc (unhide HB).size _⟩
end Go.Proofs.YtbpajiljfppjcaaGreatDoor

