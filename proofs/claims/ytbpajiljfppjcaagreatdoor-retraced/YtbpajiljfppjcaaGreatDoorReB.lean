/- Retraced, walked. -/
import Derived.Test.YtbpajiljfppjcaaGreatDoorReA
namespace Go.Proofs.YtbpajiljfppjcaaGreatDoor
open Go.RowKit
attribute [local go_sem ↓] Go.wp_at_zero Go.wp_at_succ

/-- The cells of a view in a row of views. -/
theorem view_cells {w : World} {N k : Nat} {sv : Value} {S : Rt.Src} {vs : List VwT} (h : w.ownsRow N 56 9 sv k (vwsC S vs)) {i : Nat} (hi : i < vs.length) : ∃ g cap, sv = .slice (some ⟨g, 0, none⟩) k cap ∧ N ≤ g ∧ g < w.heap.size ∧ ∀ j, j < 9 → w.cell? ⟨g, i * 9 + j, none⟩ = (vw1 S vs[i])[j]? := by
  have h0 : ∀ j, j < 9 → ∃ u, (vw1 S vs[i])[j]? = some u := fun j hj => ⟨(vw1 S vs[i])[j]'(by rw [vw1_len]; exact hj), List.getElem?_eq_getElem _⟩
  obtain ⟨u, hu⟩ := h0 0 (by omega)
  obtain ⟨g, cap, hg, h1, h2, _⟩ := own_cell h (j := i * 9 + 0) (u := u) (by rw [vwsC_get S vs i hi 0 (by omega)]; exact hu)
  refine ⟨g, cap, hg, h1, h2, fun j hj => ?_⟩
  obtain ⟨u, hu⟩ := h0 j hj
  obtain ⟨g', cap', hg', _, _, hc⟩ := own_cell h (j := i * 9 + j) (u := u) (by rw [vwsC_get S vs i hi j hj]; exact hu)
  rw [hg] at hg'
  simp at hg'
  obtain ⟨rfl, _⟩ := hg'
  rw [hc, hu]
/-- A view out of a row of views. -/
theorem row_view {w : World} {N k : Nat} {sv : Value} {S : Rt.Src} {vs : List VwT} {P : Nat} {X : McX} {jv : Value} (h : w.ownsRow N 56 9 sv k (vwsC S vs)) (hv : ∀ v ∈ vs, Vw w P X jv S v.1 v.2.1 v.2.2.1 v.2.2.2) {i : Nat} (hi : i < vs.length) {p : Nat} (hp : vs[i].1 = p) : ∃ g cap a1 y1 c1 a2 y2 c2 a3 y3 c3, sv = .slice (some ⟨g, 0, none⟩) k cap ∧ g < w.heap.size ∧ Vw w P X jv S p (.slice a1 y1 c1) (.slice a2 y2 c2) (.slice a3 y3 c3) ∧ w.cell? ⟨g, i * 9, none⟩ = some (.int .i64 0) ∧ w.cell? ⟨g, i * 9 + 1, none⟩ = some (.int .i64 0) ∧ w.cell? ⟨g, i * 9 + 2, none⟩ = some (.int .i64 (Rt.atM S p).fin) ∧ w.cell? ⟨g, i * 9 + 3, none⟩ = some (.int .i64 (Rt.atM S p).line) ∧ w.cell? ⟨g, i * 9 + 4, none⟩ = some (.int .i64 ((Rt.atM S p).frames.length : Int)) ∧ w.cell? ⟨g, i * 9 + 5, none⟩ = some (.int .i64 (p : Int)) ∧ w.cell? ⟨g, i * 9 + 6, none⟩ = some (.slice a1 y1 c1) ∧ w.cell? ⟨g, i * 9 + 7, none⟩ = some (.slice a2 y2 c2) ∧ w.cell? ⟨g, i * 9 + 8, none⟩ = some (.slice a3 y3 c3) := by
  obtain ⟨g, cap, hg, _, hl, hc⟩ := view_cells h hi
  have hV := hv _ (List.getElem_mem hi)
  rw [hp] at hV
  obtain ⟨a1, c1, a2, c2, a3, c3, e1, e2, e3⟩ := hV.forms
  have hw : ∀ j : Nat, (vw1 S vs[i])[j]? = (vwA S p vs[i].2.1 vs[i].2.2.1 vs[i].2.2.2).toList[j]? := fun j => by unfold vw1; rw [hp]
  rw [e1, e2, e3] at hV hw
  refine ⟨g, cap, a1, _, c1, a2, _, c2, a3, _, c3, hg, hl, hV, ?_, ?_, ?_, ?_, ?_, ?_, ?_, ?_, ?_⟩
  · exact (hc 0 (by omega)).trans (hw 0)
  · exact (hc 1 (by omega)).trans (hw 1)
  · exact (hc 2 (by omega)).trans (hw 2)
  · exact (hc 3 (by omega)).trans (hw 3)
  · exact (hc 4 (by omega)).trans (hw 4)
  · exact (hc 5 (by omega)).trans (hw 5)
  · exact (hc 6 (by omega)).trans (hw 6)
  · exact (hc 7 (by omega)).trans (hw 7)
  · exact (hc 8 (by omega)).trans (hw 8)
set_option maxHeartbeats 4000000 in
set_option maxRecDepth 100000 in
theorem Retraced_any (w : World) (cv iv : Value) (code input : List Int) (cp fr : Int) (hc : IntsR w w.heap.size cv code) (hi : IntsR w w.heap.size iv input) (hcp : -9223372036854775808 ≤ cp ∧ cp ≤ 9223372036854775807) (hfr : -9223372036854775808 ≤ fr ∧ fr ≤ 9223372036854775807) :
    Calls Tryz.prog 5 #[cv, iv, .int .i64 cp, .int .i64 fr] w fun e w' => e = .returned (.bool true) ∧ Below w.heap.size w w' := by
  obtain ⟨pls, r1, r5⟩ := Rt.made_src code
  have hl100 : (input.take 100).length ≤ 100 := by simp; omega
  have cform : ∃ ad cap, cv = .slice ad code.length cap := by obtain ⟨ad, cap, h, _⟩ := hc; exact ⟨ad, cap, h⟩
  have iform : ∃ ad cap, iv = .slice ad input.length cap := by obtain ⟨ad, cap, h, _⟩ := hi; exact ⟨ad, cap, h⟩
  obtain ⟨cad, ccap, rfl⟩ := cform
  obtain ⟨iad, icap, rfl⟩ := iform
  have hcap := pick_range2 cp 496 (by omega)
  have hfa := pick_range2 fr 300 (by omega)
  have HRM := hide (fun W => room_any W cp hcp.1 hcp.2)
  have HPK := hide (fun W => pick_any W fr 300 hfr.1 hfr.2 (by omega) (by omega))
  obtain ⟨cap, hcapE⟩ : ∃ c, c = 5 + Rt.pickP cp 496 := ⟨_, rfl⟩
  rw [← hcapE] at HRM
  obtain ⟨fq, hfq⟩ := Int.eq_ofNat_of_zero_le hfa.1
  rw [hfq] at HPK hfa
  have hcap5 : 5 ≤ cap ∧ cap ≤ 500 := by omega
  clear hcapE hcap hfq
  obtain ⟨N, hNE⟩ : ∃ N, N = 1 + fq := ⟨_, rfl⟩
  have e1 : IntKind.i64.wrap (1 + (fq : Int)) = (N : Int) := by rw [IntWalk.i64_left, IntWalk.wrap64_in _ (by omega)]; omega
  have hN301 : N ≤ 301 := by omega
  clear hNE
  have HH := hide (And.intro hc (And.intro hi (And.intro r1 (plc_of (inp := input.take 100) r1 hl100))))
  clear hc hi r1 hcp hfr
  go_enter Tryz.func5, Tryz.ntmps5
  go_wp2_with fail
  refine (unhide HRM _).mono ?_
  rintro e w0 ⟨rfl, rfl⟩
  go_wp2_with fail
  refine (source_any _ _ code (unhide HH).1).mono ?_
  rintro e w1 ⟨rfl, hb1⟩
  generalize Rt.srcB code = text at *
  have HB1 := hide hb1
  clear hb1
  go_wp2_with fail
  refine (fed_any w1 w1.heap.size _ input (IntsR.keeps (unhide HH).2.1 (unhide HB1))).mono ?_
  rintro e w2 ⟨hb2, u2, rfl, hu2⟩
  have hui2 := row_ints hu2 rfl
  obtain ⟨uad2, ucap2, rfl⟩ := ownsRow_form hu2
  have HB2 := hide ((unhide HB1).trans (hb2.mono (unhide HB1).size))
  have HN := hide (begun_at text _ (input.take 100) cap w2 pls (by unfold maxLen; omega) hui2 (unhide HH).2.2.1 hl100 hcap5)
  obtain ⟨S, hSE⟩ : ∃ S, S = srcOf text pls (input.take 100) := ⟨_, rfl⟩
  rw [← hSE] at HN
  have HCs := hide (show Cst S cap mk0 from ⟨by rw [hSE]; exact (unhide HH).2.2.2, hcap5.1, hcap5.2, by simp [mk0]⟩)
  clear hb2 hu2 hui2 HB1 hSE
  generalize (input.take 100).length = il at *
  go_wp2_with fail
  refine (unhide HN).mono ?_
  rintro e w3 ⟨hb3, P, B, X, jv, rfl, hown, hses⟩
  have HS := hide (And.intro ((unhide HB2).trans (hb3.mono (unhide HB2).size)) (And.intro (fun k hk => Nat.le_trans (unhide HB2).size (hown k hk)) hses))
  clear hb3 hown hses HN HB2 HRM
  go_wp2_with fail
  refine (unhide HPK _).mono ?_
  rintro e w3' ⟨rfl, rfl⟩
  go_wp2_with fail
  refine (onward_any _ P B S cap 0 0 mk0 X jv (unhide HS).2.2 (unhide HCs) N hN301 (by omega)).mono ?_
  rintro e w4 ⟨K, sv, vs, X1, jv1, rfl, hK, hKN, hKr, hvl, hvi, hI, hrow⟩
  rw [Nat.zero_add] at hI
  obtain ⟨L, hL⟩ : ∃ L, L = Rt.lowJ S cap K 0 0 := ⟨_, rfl⟩
  rw [← hL] at hI
  have hroom : L ≠ 0 → cap / 5 ≤ ((K - L : Nat) : Int) := fun h0 => by
    rw [hL] at h0 ⊢
    refine Rt.lowJ_room (unhide HCs).plc.call (fun i hi => ?_) h0 ?_
    · have := hKr i hi
      rwa [Nat.zero_add] at this
    · rw [← hL]; exact hI.ok.le
  obtain ⟨sg, scap, rfl, hsg, hsl, hcell⟩ := view_cells hrow (i := 0) (by omega)
  have hv0 : (vs[0]'(by omega)).1 = 0 := by have := hvi 0 (by omega); omega
  have c5 : w4.cell? ⟨sg, 5, none⟩ = some (.int .i64 0) := by
    rw [hcell 5 (by omega)]
    unfold vw1 vwA vwC
    rw [hv0]
    rfl
  have c2 : w4.cell? ⟨sg, 2, none⟩ = some (.int .i64 0) := by
    rw [hcell 2 (by omega)]
    unfold vw1 vwA vwC
    rw [hv0]
    rfl
  have e2 : IntKind.i64.wrap ((K : Int) + 1 - 1) = (K : Int) := by rw [IntWalk.i64_left, IntWalk.wrap64_in _ (by omega)]; omega
  have HV := hide (And.intro hvl (And.intro hvi (And.intro hKr (And.intro hroom (And.intro hI hrow)))))
  clear hvl hvi hKr hroom hI hrow hcell hv0 hKN hL
  go_wp2_with fail
  go_loopw [14, 15, 16, 17, 18] (fun at' _ _ _ _ wr => ∃ (a : Nat) (X' : McX) (jv' : Value), at' = .int .i64 a ∧ L ≤ a ∧ a ≤ K ∧ UnI w3' wr P B S cap mk0 X jv a L X' jv' [] vs ∧ wr.ownsRow w3'.heap.size 56 9 (.slice (some ⟨sg, 0, none⟩) (K + 1) scap) (K + 1) (vwsC S vs))
    (fun at' _ _ _ _ _ => (intOf at').toNat + 1)
  case atStart => exact ⟨K, X1, jv1, rfl, (unhide HV).2.2.2.2.1.ok.le, Nat.le_refl _, (unhide HV).2.2.2.2.1, (unhide HV).2.2.2.2.2⟩
  case round =>
    obtain ⟨a, X', jv', rfl, hLa, haK, hI, hrow⟩ := hrel
    have HX := hide (And.intro hI hrow)
    clear hI hrow c5 c2
    obtain ⟨ka, hka⟩ : ∃ ka, ka = K - a := ⟨_, rfl⟩
    have e3 : (K : Int) - (a : Int) = (ka : Int) := by omega
    have HKA := hide (show a + ka = K by omega)
    clear hka
    by_cases ha0 : a = 0
    · have hz1 : ((a : Int) == 0) = true := by rw [beq_iff_eq]; omega
      have hz2 : ¬ (0 : Int) < (a : Int) := by omega
      have HFd := hide (show Calls Tryz.prog 24 #[.pointer (some ⟨P, 0, none⟩), .int .i64 0, .int .i64 1] wr (MvP P B S cap mk0 X' jv' a L 0 5 wr) by
        have h1 := (unhide HX).1.sess
        subst ha0
        exact h1.bwd1_start (unhide HCs))
      clear ha0
      obtain ⟨f1, hf1⟩ : ∃ f, f = (Rt.atM S a).fin := ⟨_, rfl⟩
      obtain ⟨l1, hl1⟩ : ∃ f, f = (Rt.atM S a).line := ⟨_, rfl⟩
      obtain ⟨d1, hd1⟩ : ∃ f : Int, f = ((Rt.atM S a).frames.length : Int) := ⟨_, rfl⟩
      go_wp2_with fail
      refine (unhide HFd).mono ?_
      rintro e w5 ⟨rfl, X2, j2, hA, hok⟩
      have hbA := (Below.refl w5.heap.size w5).alloc (Nat.le_refl _) (.cells #[.int .i64 5, .int .i64 0, .int .i64 f1, .int .i64 l1, .int .i64 d1, .int .i64 (a : Int)] 36)
      have HXb := hide (And.intro (((unhide HX).1.move hA hok).later hbA) (own_later (SAft.rowV (unhide HX).1.aft.ses hA (unhide HX).2) hbA))
      unfold replyN
      rw [← hf1, ← hl1, ← hd1]
      clear hA hok hbA HFd HX hf1 hl1 hd1
      go_wp2_with fail
      revert HXb
      generalize w5.alloc (.cells #[.int .i64 5, .int .i64 0, .int .i64 f1, .int .i64 l1, .int .i64 d1, .int .i64 (a : Int)] 36) = wB
      intro HXb
      have hab : a ≤ 301 := by omega
      refine (onward_any wB P B S cap a L mk0 X2 j2 (unhide HXb).1.sess (unhide HCs) ka (by have := unhide HKA; omega) (by omega)).mono ?_
      rintro e w6 ⟨k2, sv2, vs2, X3, jv3, rfl, hk2, hk2N, hk2r, hvl2, hvi2, hI6, hrow6⟩
      obtain rfl : k2 = ka := by
        by_cases hlt : k2 < ka
        · have h1 := hk2N hlt
          have h2 := (unhide HV).2.2.1 (a + k2) (by have := unhide HKA; omega)
          rw [Nat.zero_add] at h2
          exact absurd h2 h1
        · omega
      have hIc := (unhide HXb).1.move hI6.aft hI6.ok
      have hrs := SAft.rowV (unhide HXb).1.aft.ses hI6.aft (unhide HXb).2
      have hBl : Below w0.heap.size w0 w6 := (unhide HS).1.trans (hIc.aft.low (unhide HS).1.size (unhide HS).2.1)
      obtain ⟨ag, acap, hsv2, hx1, hx2, hx3⟩ := view_cells hrow6 (i := 0) (by omega)
      clear hx1 hx2 hx3
      rw [hsv2] at hrow6 ⊢
      have HXc := hide (And.intro hIc (And.intro hrs (And.intro hI6 (And.intro hrow6 (And.intro hvl2 (And.intro hvi2 hBl))))))
      have e4 : IntKind.i64.wrap ((k2 : Int) + 1) = (k2 : Int) + 1 := by rw [IntWalk.i64_left, IntWalk.wrap64_in _ (by have := unhide HKA; omega)]
      have hk301 : k2 ≤ 301 := by have := unhide HKA; omega
      clear hk2 hk2N hk2r hvl2 hvi2 hI6 hrow6 hIc hrs hBl hsv2 HXb
      go_wp2_with fail
      go_loopw [20, 21] (fun i _ wr => ∃ k : Nat, k ≤ k2 + 1 ∧ i = .int .i64 k ∧ Below w6.heap.size w6 wr) (fun i _ _ => k2 + 2 - (intOf i).toNat)
      case atStart => exact ⟨0, Nat.zero_le _, rfl, Below.refl _ _⟩
      case round =>
        obtain ⟨k, hk, rfl, hbe⟩ := hrel
        by_cases hlt : k < k2 + 1
        · have hlt' : (k : Int) < (k2 : Int) + 1 := by omega
          have hk0 : (0 : Int) ≤ (k : Int) := by omega
          obtain ⟨h1, h2, h3, h4, h5, h6, h7⟩ := unhide HXc
          have hKA := unhide HKA
          have hvl := (unhide HV).1
          obtain ⟨g1, cc1, xa1, xy1, xc1, xa2, xy2, xc2, xa3, xy3, xc3, ee1, hg1, hVA, A0, A1, A2, A3, A4, A5, A6, A7, A8⟩ := row_view (own_later h4 hbe) (fun v hv => (h3.vws v hv).later hbe) (i := k) (by omega) (h6 k (by omega))
          obtain ⟨g2, cc2, ya1, yy1, yc1, ya2, yy2, yc2, ya3, yy3, yc3, ee2, hg2, hVS, S0, S1, S2, S3, S4, S5, S6, S7, S8⟩ := row_view (own_later h2 hbe) (fun v hv => (h1.vws v hv).later hbe) (i := a + k) (by omega) (p := a + k) (by have := (unhide HV).2.1 (a + k) (by omega); omega)
          simp at ee1 ee2
          obtain ⟨rfl, rfl⟩ := ee1
          obtain ⟨rfl, rfl⟩ := ee2
          have hsv := fun (W : World) (hW : Below wr.heap.size wr W) => views_same (hVA.later hW) (hVS.later hW) (unhide HCs).plc
          unfold vwA vwC at hsv
          obtain ⟨pp, hpp⟩ : ∃ pp : Int, pp = ((a + k : Nat) : Int) := ⟨_, rfl⟩
          rw [← hpp] at A5 S5 hsv
          generalize (Rt.atM S (a + k)).fin = f8 at *
          generalize (Rt.atM S (a + k)).line = l8 at *
          generalize ((Rt.atM S (a + k)).frames.length : Int) = d8 at *
          have HSV := hide hsv
          clear hpp hsv
          have e5 : IntKind.i64.wrap ((a : Int) + (k : Int)) = (a : Int) + (k : Int) := by rw [IntWalk.i64_left, IntWalk.wrap64_in _ (by omega)]
          have e6 : (0 : Int) ≤ (a : Int) + (k : Int) := by omega
          have e7 : (a : Int) + (k : Int) < (K : Int) + 1 := by omega
          have e8 : ((a : Int) + (k : Int)).toNat = a + k := by omega
          clear h1 h2 h3 h4 h5 h6 h7 hVA hVS hKA hvl
          go_wp2_with fail
          go_region_held3 (fun w' => w'.cell? ⟨ag, k * 9, none⟩ = some (.int .i64 0) ∧ w'.cell? ⟨ag, k * 9 + 1, none⟩ = some (.int .i64 0) ∧ w'.cell? ⟨ag, k * 9 + 2, none⟩ = some (.int .i64 f8) ∧ w'.cell? ⟨ag, k * 9 + 3, none⟩ = some (.int .i64 l8) ∧ w'.cell? ⟨ag, k * 9 + 4, none⟩ = some (.int .i64 d8) ∧ w'.cell? ⟨ag, k * 9 + 5, none⟩ = some (.int .i64 pp) ∧ w'.cell? ⟨ag, k * 9 + 6, none⟩ = some (.slice xa1 xy1 xc1) ∧ w'.cell? ⟨ag, k * 9 + 7, none⟩ = some (.slice xa2 xy2 xc2) ∧ w'.cell? ⟨ag, k * 9 + 8, none⟩ = some (.slice xa3 xy3 xc3) ∧ w'.cell? ⟨sg, (a + k) * 9, none⟩ = some (.int .i64 0) ∧ w'.cell? ⟨sg, (a + k) * 9 + 1, none⟩ = some (.int .i64 0) ∧ w'.cell? ⟨sg, (a + k) * 9 + 2, none⟩ = some (.int .i64 f8) ∧ w'.cell? ⟨sg, (a + k) * 9 + 3, none⟩ = some (.int .i64 l8) ∧ w'.cell? ⟨sg, (a + k) * 9 + 4, none⟩ = some (.int .i64 d8) ∧ w'.cell? ⟨sg, (a + k) * 9 + 5, none⟩ = some (.int .i64 pp) ∧ w'.cell? ⟨sg, (a + k) * 9 + 6, none⟩ = some (.slice ya1 yy1 yc1) ∧ w'.cell? ⟨sg, (a + k) * 9 + 7, none⟩ = some (.slice ya2 yy2 yc2) ∧ w'.cell? ⟨sg, (a + k) * 9 + 8, none⟩ = some (.slice ya3 yy3 yc3)) (go_keep) (first | (go_at_call 26; refine (unhide HSV _ (below_to_drew _)).mono ?_; rintro e w7 ⟨rfl, hb7⟩; have hb8 := (below_to_drew wr).trans (hb7.mono (below_to_drew wr).size); have C0 := cell_later hb8 A0; have C1 := cell_later hb8 A1; have C2 := cell_later hb8 A2; have C3 := cell_later hb8 A3; have C4 := cell_later hb8 A4; have C5 := cell_later hb8 A5; have C6 := cell_later hb8 A6; have C7 := cell_later hb8 A7; have C8 := cell_later hb8 A8; have D0 := cell_later hb8 S0; have D1 := cell_later hb8 S1; have D2 := cell_later hb8 S2; have D3 := cell_later hb8 S3; have D4 := cell_later hb8 S4; have D5 := cell_later hb8 S5; have D6 := cell_later hb8 S6; have D7 := cell_later hb8 S7; have D8 := cell_later hb8 S8; have HB8 := hide hb8; clear hb7 hb8))
          go_wp2_with fail
          go_roundw
          case rel => exact ⟨k + 1, by omega, by go_num, hbe.trans ((unhide HB8).mono hbe.size)⟩
          case measure => simp [intOf]; omega
        · have hlt' : ¬ (k : Int) < (k2 : Int) + 1 := by omega
          have HB := hide ((unhide HXc).2.2.2.2.2.2.trans (hbe.mono (unhide HXc).2.2.2.2.2.2.size))
          clear hbe
          go_wp2_with fail
          go_ret
          exact ⟨rfl, unhide HB⟩
    · have hz1 : ((a : Int) == 0) = false := by rw [beq_eq_false_iff_ne]; omega
      have hz2 : (0 : Int) < (a : Int) := by omega
      by_cases haL : a = L
      · have HFd := hide ((unhide HX).1.sess.bwd1_horizon (unhide HCs) ha0 haL (by omega))
        obtain ⟨cq, hcq⟩ : ∃ cq, cq = cap / 5 := ⟨_, rfl⟩
        have hcr : ¬ (ka : Int) < cq := by
          have h1 := (unhide HV).2.2.2.1 (by omega)
          have h2 := unhide HKA
          omega
        have d1 : IntKind.i64.wrap (cap.tdiv 5) = cq := by rw [Int.tdiv_eq_ediv_of_nonneg (by omega), IntWalk.i64_left, IntWalk.wrap64_in _ (by omega), hcq]
        have d2 : wrap64 (cap.tdiv 5) = cq := by rw [Int.tdiv_eq_ediv_of_nonneg (by omega), IntWalk.wrap64_in _ (by omega), hcq]
        clear hcq ha0
        have HaL := hide haL
        clear haL
        obtain ⟨f1, hf1⟩ : ∃ f, f = (Rt.atM S a).fin := ⟨_, rfl⟩
        obtain ⟨l1, hl1⟩ : ∃ f, f = (Rt.atM S a).line := ⟨_, rfl⟩
        obtain ⟨d1, hd1⟩ : ∃ f : Int, f = ((Rt.atM S a).frames.length : Int) := ⟨_, rfl⟩
        go_wp2_with fail
        refine (unhide HFd).mono ?_
        rintro e w5 ⟨rfl, X2, j2, hA, hok⟩
        have hbA := (Below.refl w5.heap.size w5).alloc (Nat.le_refl _) (.cells #[.int .i64 6, .int .i64 0, .int .i64 f1, .int .i64 l1, .int .i64 d1, .int .i64 (a : Int)] 36)
        have HXb := hide (And.intro (((unhide HX).1.move hA hok).later hbA) (own_later (SAft.rowV (unhide HX).1.aft.ses hA (unhide HX).2) hbA))
        unfold replyN
        rw [← hf1, ← hl1, ← hd1]
        clear hA hok hbA HFd HX hf1 hl1 hd1
        go_wp2_with fail
        revert HXb
        generalize w5.alloc (.cells #[.int .i64 6, .int .i64 0, .int .i64 f1, .int .i64 l1, .int .i64 d1, .int .i64 (a : Int)] 36) = wB
        intro HXb
        have hab : a ≤ 301 := by omega
        refine (onward_any wB P B S cap a L mk0 X2 j2 (unhide HXb).1.sess (unhide HCs) ka (by have := unhide HKA; omega) (by omega)).mono ?_
        rintro e w6 ⟨k2, sv2, vs2, X3, jv3, rfl, hk2, hk2N, hk2r, hvl2, hvi2, hI6, hrow6⟩
        obtain rfl : k2 = ka := by
          by_cases hlt : k2 < ka
          · have h1 := hk2N hlt
            have h2 := (unhide HV).2.2.1 (a + k2) (by have := unhide HKA; omega)
            rw [Nat.zero_add] at h2
            exact absurd h2 h1
          · omega
        have hIc := (unhide HXb).1.move hI6.aft hI6.ok
        have hrs := SAft.rowV (unhide HXb).1.aft.ses hI6.aft (unhide HXb).2
        have hBl : Below w0.heap.size w0 w6 := (unhide HS).1.trans (hIc.aft.low (unhide HS).1.size (unhide HS).2.1)
        obtain ⟨ag, acap, hsv2, hx1, hx2, hx3⟩ := view_cells hrow6 (i := 0) (by omega)
        clear hx1 hx2 hx3
        rw [hsv2] at hrow6 ⊢
        have HXc := hide (And.intro hIc (And.intro hrs (And.intro hI6 (And.intro hrow6 (And.intro hvl2 (And.intro hvi2 hBl))))))
        have e4 : IntKind.i64.wrap ((k2 : Int) + 1) = (k2 : Int) + 1 := by rw [IntWalk.i64_left, IntWalk.wrap64_in _ (by have := unhide HKA; omega)]
        have hk301 : k2 ≤ 301 := by have := unhide HKA; omega
        clear hk2 hk2N hk2r hvl2 hvi2 hI6 hrow6 hIc hrs hBl hsv2 HXb
        go_wp2_with fail
        go_loopw [20, 21] (fun i _ wr => ∃ k : Nat, k ≤ k2 + 1 ∧ i = .int .i64 k ∧ Below w6.heap.size w6 wr) (fun i _ _ => k2 + 2 - (intOf i).toNat)
        case atStart => exact ⟨0, Nat.zero_le _, rfl, Below.refl _ _⟩
        case round =>
          obtain ⟨k, hk, rfl, hbe⟩ := hrel
          by_cases hlt : k < k2 + 1
          · have hlt' : (k : Int) < (k2 : Int) + 1 := by omega
            have hk0 : (0 : Int) ≤ (k : Int) := by omega
            obtain ⟨h1, h2, h3, h4, h5, h6, h7⟩ := unhide HXc
            have hKA := unhide HKA
            have hvl := (unhide HV).1
            obtain ⟨g1, cc1, xa1, xy1, xc1, xa2, xy2, xc2, xa3, xy3, xc3, ee1, hg1, hVA, A0, A1, A2, A3, A4, A5, A6, A7, A8⟩ := row_view (own_later h4 hbe) (fun v hv => (h3.vws v hv).later hbe) (i := k) (by omega) (h6 k (by omega))
            obtain ⟨g2, cc2, ya1, yy1, yc1, ya2, yy2, yc2, ya3, yy3, yc3, ee2, hg2, hVS, S0, S1, S2, S3, S4, S5, S6, S7, S8⟩ := row_view (own_later h2 hbe) (fun v hv => (h1.vws v hv).later hbe) (i := a + k) (by omega) (p := a + k) (by have := (unhide HV).2.1 (a + k) (by omega); omega)
            simp at ee1 ee2
            obtain ⟨rfl, rfl⟩ := ee1
            obtain ⟨rfl, rfl⟩ := ee2
            have hsv := fun (W : World) (hW : Below wr.heap.size wr W) => views_same (hVA.later hW) (hVS.later hW) (unhide HCs).plc
            unfold vwA vwC at hsv
            obtain ⟨pp, hpp⟩ : ∃ pp : Int, pp = ((a + k : Nat) : Int) := ⟨_, rfl⟩
            rw [← hpp] at A5 S5 hsv
            generalize (Rt.atM S (a + k)).fin = f8 at *
            generalize (Rt.atM S (a + k)).line = l8 at *
            generalize ((Rt.atM S (a + k)).frames.length : Int) = d8 at *
            have HSV := hide hsv
            clear hpp hsv
            have e5 : IntKind.i64.wrap ((a : Int) + (k : Int)) = (a : Int) + (k : Int) := by rw [IntWalk.i64_left, IntWalk.wrap64_in _ (by omega)]
            have e6 : (0 : Int) ≤ (a : Int) + (k : Int) := by omega
            have e7 : (a : Int) + (k : Int) < (K : Int) + 1 := by omega
            have e8 : ((a : Int) + (k : Int)).toNat = a + k := by omega
            clear h1 h2 h3 h4 h5 h6 h7 hVA hVS hKA hvl
            go_wp2_with fail
            go_region_held3 (fun w' => w'.cell? ⟨ag, k * 9, none⟩ = some (.int .i64 0) ∧ w'.cell? ⟨ag, k * 9 + 1, none⟩ = some (.int .i64 0) ∧ w'.cell? ⟨ag, k * 9 + 2, none⟩ = some (.int .i64 f8) ∧ w'.cell? ⟨ag, k * 9 + 3, none⟩ = some (.int .i64 l8) ∧ w'.cell? ⟨ag, k * 9 + 4, none⟩ = some (.int .i64 d8) ∧ w'.cell? ⟨ag, k * 9 + 5, none⟩ = some (.int .i64 pp) ∧ w'.cell? ⟨ag, k * 9 + 6, none⟩ = some (.slice xa1 xy1 xc1) ∧ w'.cell? ⟨ag, k * 9 + 7, none⟩ = some (.slice xa2 xy2 xc2) ∧ w'.cell? ⟨ag, k * 9 + 8, none⟩ = some (.slice xa3 xy3 xc3) ∧ w'.cell? ⟨sg, (a + k) * 9, none⟩ = some (.int .i64 0) ∧ w'.cell? ⟨sg, (a + k) * 9 + 1, none⟩ = some (.int .i64 0) ∧ w'.cell? ⟨sg, (a + k) * 9 + 2, none⟩ = some (.int .i64 f8) ∧ w'.cell? ⟨sg, (a + k) * 9 + 3, none⟩ = some (.int .i64 l8) ∧ w'.cell? ⟨sg, (a + k) * 9 + 4, none⟩ = some (.int .i64 d8) ∧ w'.cell? ⟨sg, (a + k) * 9 + 5, none⟩ = some (.int .i64 pp) ∧ w'.cell? ⟨sg, (a + k) * 9 + 6, none⟩ = some (.slice ya1 yy1 yc1) ∧ w'.cell? ⟨sg, (a + k) * 9 + 7, none⟩ = some (.slice ya2 yy2 yc2) ∧ w'.cell? ⟨sg, (a + k) * 9 + 8, none⟩ = some (.slice ya3 yy3 yc3)) (go_keep) (first | (go_at_call 26; refine (unhide HSV _ (below_to_drew _)).mono ?_; rintro e w7 ⟨rfl, hb7⟩; have hb8 := (below_to_drew wr).trans (hb7.mono (below_to_drew wr).size); have C0 := cell_later hb8 A0; have C1 := cell_later hb8 A1; have C2 := cell_later hb8 A2; have C3 := cell_later hb8 A3; have C4 := cell_later hb8 A4; have C5 := cell_later hb8 A5; have C6 := cell_later hb8 A6; have C7 := cell_later hb8 A7; have C8 := cell_later hb8 A8; have D0 := cell_later hb8 S0; have D1 := cell_later hb8 S1; have D2 := cell_later hb8 S2; have D3 := cell_later hb8 S3; have D4 := cell_later hb8 S4; have D5 := cell_later hb8 S5; have D6 := cell_later hb8 S6; have D7 := cell_later hb8 S7; have D8 := cell_later hb8 S8; have HB8 := hide hb8; clear hb7 hb8))
            go_wp2_with fail
            go_roundw
            case rel => exact ⟨k + 1, by omega, by go_num, hbe.trans ((unhide HB8).mono hbe.size)⟩
            case measure => simp [intOf]; omega
          · have hlt' : ¬ (k : Int) < (k2 : Int) + 1 := by omega
            have HB := hide ((unhide HXc).2.2.2.2.2.2.trans (hbe.mono (unhide HXc).2.2.2.2.2.2.size))
            clear hbe
            go_wp2_with fail
            go_ret
            exact ⟨rfl, unhide HB⟩
      · skip
        have HFd := hide ((unhide HX).1.sess.bwd1 (unhide HCs) ha0 haL (by omega))
        obtain ⟨p, hp⟩ : ∃ p, a - 1 = p := ⟨_, rfl⟩
        rw [hp] at HFd
        have e9 : IntKind.i64.wrap ((a : Int) - 1) = (p : Int) := by rw [IntWalk.i64_left, IntWalk.wrap64_in _ (by omega)]; omega
        have HPA := hide (show p + 1 = a by omega)
        have HLp := hide (show L ≤ p by omega)
        clear hp ha0 haL e3 HKA
        go_wp2_with fail
        refine (unhide HFd).mono ?_
        rintro e w5 ⟨rfl, X2, j2, hA, hok⟩
        unfold replyN
        obtain ⟨f8, hf8⟩ : ∃ f, f = (Rt.atM S p).fin := ⟨_, rfl⟩
        obtain ⟨l8, hl8⟩ : ∃ f, f = (Rt.atM S p).line := ⟨_, rfl⟩
        obtain ⟨d8, hd8⟩ : ∃ f : Int, f = ((Rt.atM S p).frames.length : Int) := ⟨_, rfl⟩
        rw [← hf8, ← hl8, ← hd8]
        have hbA := (Below.refl w5.heap.size w5).alloc (Nat.le_refl _) (.cells #[.int .i64 1, .int .i64 1, .int .i64 f8, .int .i64 l8, .int .i64 d8, .int .i64 (p : Int)] 36)
        have HX5 := hide (And.intro (((unhide HX).1.move hA hok).later hbA) (own_later (SAft.rowV (unhide HX).1.aft.ses hA (unhide HX).2) hbA))
        have HQ := hide (And.intro hf8 (And.intro hl8 hd8))
        clear hA hok hbA HFd HX hf8 hl8 hd8
        have hp0 : ¬ (p : Int) < 0 := by omega
        go_wp2_with fail
        refine ((unhide HX5).1.sess.look (unhide HCs)).mono ?_
        rintro e w6 ⟨hb, va, vc, vo, rfl, hv⟩
        obtain ⟨xa1, xc1, xa2, xc2, xa3, xc3, rfl, rfl, rfl⟩ := hv.forms
        generalize (Rt.valuesL S (Rt.atM S p)).length = xy1 at *
        generalize (Rt.callsL (Rt.atM S p)).length = xy2 at *
        generalize (Rt.atM S p).output.length = xy3 at *
        have hVX : vwA S p (.slice xa1 xy1 xc1) (.slice xa2 xy2 xc2) (.slice xa3 xy3 xc3) = #[.int .i64 0, .int .i64 0, .int .i64 f8, .int .i64 l8, .int .i64 d8, .int .i64 (p : Int), .slice xa1 xy1 xc1, .slice xa2 xy2 xc2, .slice xa3 xy3 xc3] := by rw [(unhide HQ).1, (unhide HQ).2.1, (unhide HQ).2.2]; rfl
        rw [hVX]
        have hbB := (Below.refl w6.heap.size w6).alloc (Nat.le_refl _) (.cells #[.int .i64 0, .int .i64 0, .int .i64 f8, .int .i64 l8, .int .i64 d8, .int .i64 (p : Int), .slice xa1 xy1 xc1, .slice xa2 xy2 xc2, .slice xa3 xy3 xc3] 56)
        have hI6 := ((unhide HX5).1.later hb).later hbB
        have hr6 := own_later (own_later (unhide HX5).2 hb) hbB
        have hv6 := hv.later hbB
        have bX := heap_alloc_new w6 (.cells #[.int .i64 0, .int .i64 0, .int .i64 f8, .int .i64 l8, .int .i64 d8, .int .i64 (p : Int), .slice xa1 xy1 xc1, .slice xa2 xy2 xc2, .slice xa3 xy3 xc3] 56)
        have hAlt : w6.heap.size < (w6.alloc (.cells #[.int .i64 0, .int .i64 0, .int .i64 f8, .int .i64 l8, .int .i64 d8, .int .i64 (p : Int), .slice xa1 xy1 xc1, .slice xa2 xy2 xc2, .slice xa3 xy3 xc3] 56)).heap.size := by simp
        have HX6 := hide (And.intro hI6 (And.intro hr6 (And.intro hv6 (And.intro bX hAlt))))
        have HVX := hide hVX
        clear hb hv hbB hI6 hr6 hv6 bX hAlt hVX HX5
        go_upto_region 19 with fail
        revert HX6
        generalize w6.alloc (.cells #[.int .i64 0, .int .i64 0, .int .i64 f8, .int .i64 l8, .int .i64 d8, .int .i64 (p : Int), .slice xa1 xy1 xc1, .slice xa2 xy2 xc2, .slice xa3 xy3 xc3] 56) = wC
        generalize w6.heap.size = A
        intro HX6
        obtain ⟨h1, h2, h3, h4, h5⟩ := unhide HX6
        obtain ⟨x0, x1, x2, x3, x4, x5, x6, x7, x8, xz⟩ := nine_any h4
        obtain ⟨g2, cc2, ya1, yy1, yc1, ya2, yy2, yc2, ya3, yy3, yc3, ee2, hg2, hVS, S0, S1, S2, S3, S4, S5, S6, S7, S8⟩ := row_view h2 h1.vws (i := p) (by have := (unhide HV).1; have := unhide HPA; omega) (p := p) (by have := (unhide HV).2.1 p (by have := (unhide HV).1; have := unhide HPA; omega); omega)
        simp at ee2
        obtain ⟨rfl, rfl⟩ := ee2
        rw [← (unhide HQ).1] at S2
        rw [← (unhide HQ).2.1] at S3
        rw [← (unhide HQ).2.2] at S4
        have hVY : vwA S p (.slice ya1 yy1 yc1) (.slice ya2 yy2 yc2) (.slice ya3 yy3 yc3) = #[.int .i64 0, .int .i64 0, .int .i64 f8, .int .i64 l8, .int .i64 d8, .int .i64 (p : Int), .slice ya1 yy1 yc1, .slice ya2 yy2 yc2, .slice ya3 yy3 yc3] := by rw [(unhide HQ).1, (unhide HQ).2.1, (unhide HQ).2.2]; rfl
        have hsv := fun (W : World) (hW : Below wC.heap.size wC W) => views_same (h3.later hW) (hVS.later hW) (unhide HCs).plc
        rw [unhide HVX, hVY] at hsv
        have HSV := hide hsv
        have q0 : (0 : Int) ≤ (p : Int) := by omega
        have q1 : (p : Int) < (K : Int) + 1 := by have := unhide HPA; omega
        clear h1 h2 h3 h4 hVS hVY hsv
        go_region_held3 (fun w' => w'.cell? ⟨A, 0, none⟩ = some (.int .i64 0) ∧ w'.cell? ⟨A, 1, none⟩ = some (.int .i64 0) ∧ w'.cell? ⟨A, 2, none⟩ = some (.int .i64 f8) ∧ w'.cell? ⟨A, 3, none⟩ = some (.int .i64 l8) ∧ w'.cell? ⟨A, 4, none⟩ = some (.int .i64 d8) ∧ w'.cell? ⟨A, 5, none⟩ = some (.int .i64 (p : Int)) ∧ w'.cell? ⟨A, 6, none⟩ = some (.slice xa1 xy1 xc1) ∧ w'.cell? ⟨A, 7, none⟩ = some (.slice xa2 xy2 xc2) ∧ w'.cell? ⟨A, 8, none⟩ = some (.slice xa3 xy3 xc3) ∧ w'.cell? ⟨sg, p * 9, none⟩ = some (.int .i64 0) ∧ w'.cell? ⟨sg, p * 9 + 1, none⟩ = some (.int .i64 0) ∧ w'.cell? ⟨sg, p * 9 + 2, none⟩ = some (.int .i64 f8) ∧ w'.cell? ⟨sg, p * 9 + 3, none⟩ = some (.int .i64 l8) ∧ w'.cell? ⟨sg, p * 9 + 4, none⟩ = some (.int .i64 d8) ∧ w'.cell? ⟨sg, p * 9 + 5, none⟩ = some (.int .i64 (p : Int)) ∧ w'.cell? ⟨sg, p * 9 + 6, none⟩ = some (.slice ya1 yy1 yc1) ∧ w'.cell? ⟨sg, p * 9 + 7, none⟩ = some (.slice ya2 yy2 yc2) ∧ w'.cell? ⟨sg, p * 9 + 8, none⟩ = some (.slice ya3 yy3 yc3)) (go_keep) (first | (go_at_call 26; refine (unhide HSV _ (below_to_drew _)).mono ?_; rintro e w7 ⟨rfl, hb7⟩; have hb9 := (below_to_drew wC).trans (hb7.mono (below_to_drew wC).size); have C0 := cell_later hb9 x0; have C1 := cell_later hb9 x1; have C2 := cell_later hb9 x2; have C3 := cell_later hb9 x3; have C4 := cell_later hb9 x4; have C5 := cell_later hb9 x5; have C6 := cell_later hb9 x6; have C7 := cell_later hb9 x7; have C8 := cell_later hb9 x8; have D0 := cell_later hb9 S0; have D1 := cell_later hb9 S1; have D2 := cell_later hb9 S2; have D3 := cell_later hb9 S3; have D4 := cell_later hb9 S4; have D5 := cell_later hb9 S5; have D6 := cell_later hb9 S6; have D7 := cell_later hb9 S7; have D8 := cell_later hb9 S8; have HB9 := hide hb9; clear hb7 hb9))
        go_wp2_with fail
        go_roundw
        case rel => exact ⟨p, X2, j2, rfl, unhide HLp, by have := unhide HPA; omega, (unhide HX6).1.later (unhide HB9), own_later (unhide HX6).2.1 (unhide HB9)⟩
        case measure => simp [intOf]; have := unhide HPA; omega
end Go.Proofs.YtbpajiljfppjcaaGreatDoor

