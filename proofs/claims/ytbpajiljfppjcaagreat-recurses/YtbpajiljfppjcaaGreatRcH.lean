/- Recurses, walked. -/
import Derived.Test.YtbpajiljfppjcaaGreatRcE
namespace Go.Proofs.YtbpajiljfppjcaaGreat
open Go.RowKit
attribute [local go_sem ↓] Go.wp_at_zero Go.wp_at_succ

theorem ints_fresh (w : World) (B : Nat) (l : List Int) (hB : B ≤ w.heap.size) (hl : l.length ≤ 100) : (w.alloc (.cells (intsV l).toArray 3)).ownsRow B 3 1 (.slice (some ⟨w.heap.size, 0, none⟩) l.length l.length) l.length (intsV l) := by
  refine ⟨by simp [intsV], Or.inr ⟨w.heap.size, l.length, (intsV l).toArray, rfl, hB, heap_alloc_new w _, Nat.le_refl _, by unfold maxLen; omega, by simp [intsV], ?_⟩⟩
  exact List.take_of_length_le (by simp [intsV])
set_option maxHeartbeats 4000000 in
set_option maxRecDepth 100000 in
theorem deep_any (w : World) (P B : Nat) (k : Int) (X : McX) (jv : Value) (h6 : 6 ≤ k) (hm : k ≤ 9223372036854775807) (h : Sess w P B (Rt.rcSrc k) 500 18 0 mk0 X jv) (hc : Cst (Rt.rcSrc k) 500 mk0) :
    Calls Tryz.prog 6 #[.pointer (some ⟨P, 0, none⟩), .int .i64 k] w fun e w' => e = .returned (.bool true) ∧ ∃ X' jv' s', SAft P B (Rt.rcSrc k) 500 X X' jv jv' s' w w' := by
  obtain ⟨a0, a1, a2, a3, a4, a5, a6, a7, a8, a9, a10, a11, a12, a13, a14, a15, a16, a17, a18⟩ := Rt.rc_deepAt k h6 hm
  have hkg := hc.plc.keep 18
  have em : (Rt.seAt (Rt.rcSrc k) 18 0 mk0).m = Rt.atM (Rt.rcSrc k) 18 := rfl
  have HVr := hide (fun (W : World) (hW : Below w.heap.size w W) => sValue_any W P B (Rt.rcSrc k) 500 _ X jv ⟨#[114]⟩ (h.ses.later hW) hkg.mok)
  have HVn := hide (fun (W : World) (hW : Below w.heap.size w W) => sValue_any W P B (Rt.rcSrc k) 500 _ X jv ⟨#[110]⟩ (h.ses.later hW) hkg.mok)
  have HO := hide (fun (W : World) (hW : Below w.heap.size w W) => sOutput_any W P B (Rt.rcSrc k) 500 _ X jv (h.ses.later hW) hkg.mok.output)
  have HCl := hide (fun (W : World) (hW : Below w.heap.size w W) => sCalls_any W P B (Rt.rcSrc k) 500 _ X jv (h.ses.later hW) hkg.mok.frames hkg.lo)
  rw [em, a18] at HVr HVn HO HCl
  have ec : ∀ r : Int, Rt.callsL { Rt.rcM [Rt.noFm, ⟨[k], 12⟩, ⟨[k - 1], 6⟩, ⟨[k - 2], 6⟩, ⟨[k - 3], 6⟩, ⟨[k - 4], 6⟩] r k 1 [] 6 with fin := 5 } = [12, 6, 6, 6, 6] := fun r => rfl
  have eo : ∀ r : Int, ({ Rt.rcM [Rt.noFm, ⟨[k], 12⟩, ⟨[k - 1], 6⟩, ⟨[k - 2], 6⟩, ⟨[k - 3], 6⟩, ⟨[k - 4], 6⟩] r k 1 [] 6 with fin := 5 } : Rt.Mc).output = [] := fun r => rfl
  rw [ec] at HCl
  rw [eo] at HO
  clear ec eo
  rw [Rt.rc_valR] at HVr
  rw [Rt.rc_valN] at HVn
  have HF := hide (fun W => factors_any W k 5 (by omega))
  rw [Rt.facI5 k h6 hm] at HF
  have e4 : IntKind.i64.wrap (k - 4) = k - 4 := by rw [IntWalk.i64_left, IntWalk.wrap64_in _ (by omega)]
  have HR2 := hide (And.intro a2 (And.intro h hc))
  generalize wrap64 (wrap64 (wrap64 (wrap64 (wrap64 (1 * k) * (k - 1)) * (k - 2)) * (k - 3)) * (k - 4)) = rr at *
  clear a0 a1 a2 a3 a4 a5 a6 a7 a8 a9 a10 a11 a12 a13 a14 a15 a16 a17 a18 hkg em h hc
  go_enter Tryz.func6, Tryz.ntmps6
  go_wp2_with fail
  refine (unhide HVr _ (Below.refl _ _)).mono ?_
  rintro e w1 ⟨rfl, hb1⟩
  have HB1 := hide hb1
  clear hb1
  go_wp2_with fail
  refine (unhide HVn _ (unhide HB1)).mono ?_
  rintro e w2 ⟨rfl, hb2⟩
  have HB2 := hide ((unhide HB1).trans (hb2.mono (unhide HB1).size))
  clear hb2 HB1
  go_wp2_with fail
  refine (unhide HO _ (unhide HB2)).mono ?_
  rintro e w3 ⟨hb3, v3, rfl, hv3⟩
  obtain ⟨oad, ocap, rfl⟩ := ownsRow_form hv3
  have HB3 := hide ((unhide HB2).trans (hb3.mono (unhide HB2).size))
  clear hb3 hv3 HB2
  go_wp2_with fail
  refine (unhide HCl _ (unhide HB3)).mono ?_
  rintro e w4 ⟨hb4, v4, rfl, hv4⟩
  obtain ⟨cad, ccap, rfl⟩ := ownsRow_form hv4
  have HB4 := hide (And.intro ((unhide HB3).trans (hb4.mono (unhide HB3).size)) hv4)
  clear hb4 hv4 HB3
  go_wp2_with fail
  refine (unhide HF _).mono ?_
  rintro e w5 ⟨rfl, rfl⟩
  go_wp2_with fail
  have hbA := (Below.refl w5.heap.size w5).alloc (Nat.le_refl _) (.cells #[.int .i64 12, .int .i64 6, .int .i64 6, .int .i64 6, .int .i64 6] 3)
  refine (sameInts_keep _ _ w5.heap.size _ _ [12, 6, 6, 6, 6] [12, 6, 6, 6, 6] (own_later (unhide HB4).2 hbA) (ints_fresh w5 _ [12, 6, 6, 6, 6] (Nat.le_refl _) (by simp)) (by simp) (by simp)).mono ?_
  rintro e w6 ⟨rfl, hb6⟩
  have HB6 := hide ((unhide HB4).1.trans ((hbA.trans (hb6.mono (B' := w5.heap.size) (by simp))).mono (unhide HB4).1.size))
  clear hbA hb6 HB4
  rw [show decide (([12, 6, 6, 6, 6] : List Int) = [12, 6, 6, 6, 6]) = true by simp]
  go_wp2_with fail
  have HOut := hide (fun d h1 h5 => Rt.rc_out k h6 hm d h1 h5)
  go_loopw [13, 14, 15, 16] (fun dv _ _ _ wr => ∃ (d : Nat) (X' : McX) (jv' : Value), d ≤ 5 ∧ dv = .int .i64 d ∧ SAft P B (Rt.rcSrc k) 500 X X' jv jv' (Rt.seAt (Rt.rcSrc k) (Rt.outPl (d + 1)) 0 mk0) w wr ∧ Rt.SeOk (Rt.rcSrc k) 500 (Rt.outPl (d + 1)) 0) (fun dv _ _ _ _ => (intOf dv).toNat + 1)
  case atStart => exact ⟨5, X, jv, by omega, rfl, SAft.start (unhide HR2).2.1.ses (unhide HB6), (unhide HR2).2.1.ok⟩
  case round =>
    obtain ⟨d, X', jv', hd5, rfl, hA, hok⟩ := hrel
    have HX := hide (And.intro hA hok)
    clear hA hok
    by_cases hd : 0 < d
    · have hd' : (0 : Int) < (d : Int) := by omega
      obtain ⟨o1, o2, o3⟩ := unhide HOut d (by omega) hd5
      have hpl : Rt.outPl (d + 1) ≤ 18 := by unfold Rt.outPl; split <;> omega
      have HFd := hide ((show Sess wr P B (Rt.rcSrc k) 500 (Rt.outPl (d + 1)) 0 mk0 X' jv' from ⟨(unhide HX).1.ses, (unhide HX).2⟩).bwd (unhide HR2).2.2 2 1000 (by omega) (by omega) (by omega))
      rw [o1] at HFd
      have HO3 := hide (And.intro o2 o3)
      clear o1 o2 o3 hpl
      obtain ⟨e, he⟩ : ∃ e, e + 1 = d := ⟨d - 1, by omega⟩
      have HE := hide he
      clear he
      generalize Rt.outPl (d + 1) - Rt.outPl d = jj at *
      have e5 : IntKind.i64.wrap ((d : Int) - 1) = (e : Int) := by rw [IntWalk.i64_left, IntWalk.wrap64_in _ (by have := unhide HE; omega)]; have := unhide HE; omega
      go_wp2_with fail
      refine (unhide HFd).mono ?_
      rintro e' w7 ⟨rfl, X2, j2, hA, hok⟩
      unfold replyN
      simp only
      rw [(unhide HO3).1, (unhide HO3).2]
      have hA2 := (unhide HX).1.trans hA
      generalize (Rt.atM (Rt.rcSrc k) (Rt.outPl d)).fin = f8 at *
      generalize ((Rt.outPl d : Nat) : Int) = ix at *
      have HX7 := hide (And.intro (fun ln : Int => hA2.below ((Below.refl w7.heap.size w7).alloc (Nat.le_refl _) (.cells #[.int .i64 1, .int .i64 (jj : Int), .int .i64 f8, .int .i64 ln, .int .i64 (d : Int), .int .i64 ix] 26))) hok)
      clear hA hok hA2 HFd HX
      by_cases hd1 : d = 1
      · have q1 : ((d : Int) == 1) = true := by rw [beq_iff_eq]; omega
        rw [if_pos hd1]
        have HX8 := hide (And.intro ((unhide HX7).1 12) (unhide HX7).2)
        clear HX7 hd1
        go_wp2_with fail
        go_roundw
        case rel => exact ⟨e, X2, j2, by have := unhide HE; omega, by go_num, by rw [unhide HE]; exact (unhide HX8).1, by rw [unhide HE]; exact (unhide HX8).2⟩
        case measure => simp [intOf]; have := unhide HE; omega
      · have q1 : ((d : Int) == 1) = false := by rw [beq_eq_false_iff_ne]; omega
        rw [if_neg hd1]
        have HX8 := hide (And.intro ((unhide HX7).1 6) (unhide HX7).2)
        clear HX7 hd1
        go_wp2_with fail
        go_roundw
        case rel => exact ⟨e, X2, j2, by have := unhide HE; omega, by go_num, by rw [unhide HE]; exact (unhide HX8).1, by rw [unhide HE]; exact (unhide HX8).2⟩
        case measure => simp [intOf]; have := unhide HE; omega
    · obtain rfl : d = 0 := by omega
      have hd' : ¬ (0 : Int) < ((0 : Nat) : Int) := by omega
      have hkg := (unhide HR2).2.2.plc.keep 2
      have em : (Rt.seAt (Rt.rcSrc k) 2 0 mk0).m = Rt.atM (Rt.rcSrc k) 2 := rfl
      have hS2 : SesS wr P B (Rt.rcSrc k) 500 (Rt.seAt (Rt.rcSrc k) 2 0 mk0) X' jv' := (unhide HX).1.ses
      have G1 := hide (fun (W : World) (hW : Below wr.heap.size wr W) => sValue_any W P B (Rt.rcSrc k) 500 _ X' jv' ⟨#[114]⟩ (hS2.later hW) hkg.mok)
      have G2 := hide (fun (W : World) (hW : Below wr.heap.size wr W) => sValue_any W P B (Rt.rcSrc k) 500 _ X' jv' ⟨#[110]⟩ (hS2.later hW) hkg.mok)
      rw [em, (unhide HR2).1] at G1 G2
      rw [Rt.rc_valR1] at G1
      rw [Rt.rc_valN1] at G2
      clear hkg em hS2
      go_wp2_with fail
      refine (unhide G1 _ (Below.refl _ _)).mono ?_
      rintro e w8 ⟨rfl, hb8⟩
      have HB8 := hide hb8
      clear hb8
      go_wp2_with fail
      refine (unhide G2 _ (unhide HB8)).mono ?_
      rintro e w9 ⟨rfl, hb9⟩
      have HB9 := hide ((unhide HB8).trans (hb9.mono (unhide HB8).size))
      clear hb9 HB8
      go_wp2_with fail
      go_ret
      exact ⟨rfl, X', jv', _, (unhide HX).1.below (unhide HB9)⟩
end Go.Proofs.YtbpajiljfppjcaaGreat

namespace Go.Proofs.YtbpajiljfppjcaaGreat
open Go.RowKit
attribute [local go_sem ↓] Go.wp_at_zero Go.wp_at_succ

theorem read_known {s : ByteArray} (h1 : (Rt.readSB s).1 = 0) (h2 : (Rt.readSB s).2.1 = 0) : Rt.readS s = (0, 0, (Rt.readSB s).2.2) := by
  rw [Rt.readS_eq]
  exact Prod.ext h1 (Prod.ext h2 rfl)
theorem src_known {s : ByteArray} {P : List Rt.PL} {L : Rt.Lks} (h3 : (Rt.readSB s).2.2.map Rt.noTok = P) (h4 : Rt.linksS s = L) (inp : List Int) : srcOf s (Rt.readSB s).2.2 inp = ⟨P, L, inp⟩ := by
  unfold srcOf
  rw [h3, h4]
theorem rc_read : Rt.readS Rt.rcS = (0, 0, (Rt.readSB Rt.rcS).2.2) := read_known Rt.rc_err Rt.rc_ln
theorem rc_src (k : Int) : srcOf Rt.rcS (Rt.readSB Rt.rcS).2.2 [k] = Rt.rcSrc k := src_known Rt.rc_pls Rt.rc_lk [k]
theorem rc_cst (k : Int) : Cst (Rt.rcSrc k) 500 mk0 := by
  refine ⟨?_, by omega, by omega, by simp [mk0]⟩
  rw [← rc_src]
  exact plc_of rc_read (by simp)
namespace Rt
/-- How the run of recurses ends, k at most 5. -/
theorem rc_few (k : Int) (h5 : k ≤ 5) : ∃ (K : Nat) (v : Int), K ≤ 30 ∧ (∀ i, i < K → (atM (rcSrc k) i).fin = 0) ∧ atM (rcSrc k) K = { rcM [noFm] v k 1 [v] 14 with fin := 1 } ∧ v = if 1 < k then facI k k.toNat else 1 := by
  by_cases h1 : k ≤ 1
  · obtain ⟨a0, a1, a2, a3, a4, a5, a6, a7⟩ := rc_lowAt k h1
    refine ⟨7, 1, by omega, fun i hi => ?_, a7, by rw [if_neg (by omega)]⟩
    match i, hi with
    | 0, _ => rw [a0]; rfl
    | 1, _ => rw [a1]; rfl
    | 2, _ => rw [a2]; rfl
    | 3, _ => rw [a3]; rfl
    | 4, _ => rw [a4]; rfl
    | 5, _ => rw [a5]; rfl
    | 6, _ => rw [a6]; rfl
  · have h : k = 2 ∨ k = 3 ∨ k = 4 ∨ k = 5 := by omega
    rcases h with rfl | rfl | rfl | rfl
    · exact ⟨_, _, by omega, rc_at2.1, rc_at2.2, by kernel_rfl⟩
    · exact ⟨_, _, by omega, rc_at3.1, rc_at3.2, by kernel_rfl⟩
    · exact ⟨_, _, by omega, rc_at4.1, rc_at4.2, by kernel_rfl⟩
    · exact ⟨_, _, by omega, rc_at5.1, rc_at5.2, by kernel_rfl⟩
end Rt
end Go.Proofs.YtbpajiljfppjcaaGreat

namespace Go.Proofs.YtbpajiljfppjcaaGreat
open Go.RowKit
attribute [local go_sem ↓] Go.wp_at_zero Go.wp_at_succ

set_option maxHeartbeats 4000000 in
set_option maxRecDepth 100000 in
theorem Recurses_any (w : World) (k : Int) (hk : -9223372036854775808 ≤ k ∧ k ≤ 9223372036854775807) :
    Calls Tryz.prog 3 #[.int .i64 k] w fun e w' => e = .returned (.bool true) ∧ Below w.heap.size w w' := by
  have HN := hide (begun_at Rt.rcS (.slice (some ⟨w.heap.size, 0, none⟩) 1 1) [k] 500 (w.alloc (.cells #[.int .i64 k] 3)) (Rt.readSB Rt.rcS).2.2 (of_decide_eq_true (by kernel_rfl)) (row_ints (ints_fresh w w.heap.size [k] (Nat.le_refl _) (by simp)) rfl) rc_read (by simp) (by omega))
  rw [rc_src] at HN
  have HC := hide (rc_cst k)
  have HB0 := hide ((Below.refl w.heap.size w).alloc (Nat.le_refl _) (.cells #[.int .i64 k] 3))
  go_enter Tryz.func3, Tryz.ntmps3
  go_wp2_with fail
  refine (unhide HN).mono ?_
  rintro e w1 ⟨hb1, P, B, X, jv, rfl, hown, hses⟩
  have hsz : w.heap.size ≤ (w.alloc (.cells #[.int .i64 k] 3)).heap.size := by simp
  have HS := hide (And.intro ((unhide HB0).trans (hb1.mono hsz)) (And.intro (show ∀ q ∈ ownL P X jv, w.heap.size ≤ q from fun q hq => Nat.le_trans hsz (hown q hq)) hses))
  clear hb1 hown hses HN HB0 hsz
  go_wp2_with fail
  have hfw := (unhide HS).2.2.fwd (unhide HC) 3 1000 (by omega) (by omega) (by omega)
  by_cases h5 : 5 < k
  · have hd := Rt.rc_deepAt k (by omega) hk.2
    have hr : ∀ i, i < 18 → (Rt.atM (Rt.rcSrc k) i).fin = 0 := fun i hi => by
      obtain ⟨a0, a1, a2, a3, a4, a5, a6, a7, a8, a9, a10, a11, a12, a13, a14, a15, a16, a17, a18⟩ := hd
      match i, hi with
      | 0, _ => rw [a0]; rfl
      | 1, _ => rw [a1]; rfl
      | 2, _ => rw [a2]; rfl
      | 3, _ => rw [a3]; rfl
      | 4, _ => rw [a4]; rfl
      | 5, _ => rw [a5]; rfl
      | 6, _ => rw [a6]; rfl
      | 7, _ => rw [a7]; rfl
      | 8, _ => rw [a8]; rfl
      | 9, _ => rw [a9]; rfl
      | 10, _ => rw [a10]; rfl
      | 11, _ => rw [a11]; rfl
      | 12, _ => rw [a12]; rfl
      | 13, _ => rw [a13]; rfl
      | 14, _ => rw [a14]; rfl
      | 15, _ => rw [a15]; rfl
      | 16, _ => rw [a16]; rfl
      | 17, _ => rw [a17]; rfl
      | j + 18, hj => exact absurd hj (by omega)
    have h18 := hd.2.2.2.2.2.2.2.2.2.2.2.2.2.2.2.2.2.2
    rw [Rt.fwdN_goes hr (by rw [h18]; show ¬ (5 : Int) = 0; omega) 1000 (by omega)] at hfw
    have hlw : Rt.lowJ (Rt.rcSrc k) 500 (18 - 0) 0 0 = 0 := Rt.lowJ_few (unhide HC).plc.call hr (by omega)
    simp only at hfw
    rw [hlw] at hfw
    refine hfw.mono ?_
    rintro e w2 ⟨rfl, X2, j2, hA, hok⟩
    unfold replyN
    rw [h18]
    have hbA := (Below.refl w2.heap.size w2).alloc (Nat.le_refl _) (.cells #[.int .i64 3, .int .i64 18, .int .i64 5, .int .i64 6, .int .i64 6, .int .i64 18] 26)
    have HA := hide (And.intro (hA.below hbA) (And.intro hok (heap_alloc_new w2 (.cells #[.int .i64 3, .int .i64 18, .int .i64 5, .int .i64 6, .int .i64 6, .int .i64 18] 26))))
    clear hfw hd hr h18 hlw hA hok hbA
    simp only [Rt.rcM]
    go_wp2_with fail
    revert HA
    generalize w2.alloc (.cells #[.int .i64 3, .int .i64 18, .int .i64 5, .int .i64 6, .int .i64 6, .int .i64 18] 26) = wA
    generalize hR : w2.heap.size = R
    intro HA
    clear hR
    refine (deep_any wA P B k X2 j2 (by omega) hk.2 ⟨(unhide HA).1.ses, (unhide HA).2.1⟩ (unhide HC)).mono ?_
    rintro e w3 ⟨rfl, X3, j3, s3, hA3⟩
    have hbR := SAft.keeps (unhide HA).1.ses hA3 (unhide HA).2.2 (fun e => by
      have h1 := (unhide HA).2.2
      rw [e, (unhide HA).1.ses.mc.block] at h1
      injection h1 with h1
      injection h1 with _ h1
      exact absurd h1 (by decide)) (by unfold OutTy PTy; decide)
    obtain ⟨y0, y1, y2, y3, y4, y5, yz⟩ := six_any hbR
    have HB := hide ((unhide HS).1.trans (((unhide HA).1.trans hA3).low (unhide HS).1.size (unhide HS).2.1))
    clear hA3 hbR HA
    go_wp2_with fail
    go_ret
    exact ⟨rfl, unhide HB⟩
  · obtain ⟨K, v, hK, hr, hE, hv⟩ := Rt.rc_few k (by omega)
    rw [Rt.fwdN_goes hr (by rw [hE]; show ¬ (1 : Int) = 0; omega) 1000 (by omega)] at hfw
    have hlw : Rt.lowJ (Rt.rcSrc k) 500 (K - 0) 0 0 = 0 := Rt.lowJ_few (unhide HC).plc.call hr (by omega)
    simp only at hfw
    rw [hlw] at hfw
    refine hfw.mono ?_
    rintro e w2 ⟨rfl, X2, j2, hA, hok⟩
    unfold replyN
    rw [hE]
    have hbA := (Below.refl w2.heap.size w2).alloc (Nat.le_refl _) (.cells #[.int .i64 3, .int .i64 (K : Int), .int .i64 1, .int .i64 14, .int .i64 1, .int .i64 (K : Int)] 26)
    have hkg := (unhide HC).plc.keep K
    have HO := hide (fun (W : World) (hW : Below w2.heap.size w2 W) => sOutput_any W P B (Rt.rcSrc k) 500 _ X2 j2 (hA.ses.later hW) hkg.mok.output)
    have em : (Rt.seAt (Rt.rcSrc k) K 0 mk0).m = Rt.atM (Rt.rcSrc k) K := rfl
    rw [em, hE] at HO
    have HA := hide (And.intro (hA.below hbA) (And.intro hbA (heap_alloc_new w2 (.cells #[.int .i64 3, .int .i64 (K : Int), .int .i64 1, .int .i64 14, .int .i64 1, .int .i64 (K : Int)] 26))))
    have HV := hide hv
    clear hfw hr hE hlw hA hok hbA hkg em hv
    simp only [Rt.rcM] at HO ⊢
    by_cases h1 : 1 < k
    · obtain ⟨n, rfl⟩ := Int.eq_ofNat_of_zero_le (show 0 ≤ k by omega)
      have HF := hide (fun W => factors_any W (n : Int) n (by omega))
      have hv2 : v = Rt.facI (n : Int) n := by have := unhide HV; rw [if_pos h1] at this; exact this
      rw [← hv2] at HF
      clear HV hv2
      go_wp2_with fail
      refine (unhide HF _).mono ?_
      rintro e w3 ⟨rfl, rfl⟩
      go_wp2_with fail
      refine (unhide HO _ (unhide HA).2.1).mono ?_
      rintro e w4 ⟨hb4, u, rfl, hu⟩
      obtain ⟨g, ucap, rfl, _, _, hc⟩ := own_cell hu (j := 0) (u := .int .i64 v) rfl
      obtain ⟨y0, y1, y2, y3, y4, y5, yz⟩ := six_any (block_later (unhide HA).2.2 hb4)
      have HB := hide ((unhide HS).1.trans (((unhide HA).1.below hb4).low (unhide HS).1.size (unhide HS).2.1))
      clear hb4 hu HA
      go_wp2_with fail
      go_ret
      exact ⟨rfl, unhide HB⟩
    · have hv2 : v = 1 := by have := unhide HV; rw [if_neg h1] at this; exact this
      subst hv2
      clear HV
      go_wp2_with fail
      refine (unhide HO _ (unhide HA).2.1).mono ?_
      rintro e w4 ⟨hb4, u, rfl, hu⟩
      obtain ⟨g, ucap, rfl, _, _, hc⟩ := own_cell hu (j := 0) (u := .int .i64 1) rfl
      obtain ⟨y0, y1, y2, y3, y4, y5, yz⟩ := six_any (block_later (unhide HA).2.2 hb4)
      have HB := hide ((unhide HS).1.trans (((unhide HA).1.below hb4).low (unhide HS).1.size (unhide HS).2.1))
      clear hb4 hu HA
      go_wp2_with fail
      go_ret
      exact ⟨rfl, unhide HB⟩
end Go.Proofs.YtbpajiljfppjcaaGreat

