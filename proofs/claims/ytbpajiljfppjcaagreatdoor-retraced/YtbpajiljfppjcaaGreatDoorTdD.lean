/- The lines that numbers can make are right ones: by reckoning. -/
import Derived.Test.YtbpajiljfppjcaaGreatDoorMkF
import Derived.Test.YtbpajiljfppjcaaGreatDoorPlainb
import Derived.Deep.RegionHeld3
import Derived.Deep.AppendLies
import Derived.Deep.DrawnRows
import Derived.Deep.QuietTactic
import Derived.BigQuiet
import Derived.Deep.RegionLaw
import Derived.Test.YtbpajiljfppjcaaGreatDoorMkD
namespace Go.Proofs.YtbpajiljfppjcaaGreatDoor
open Go.RowKit
attribute [local go_sem ↓] Go.wp_at_zero Go.wp_at_succ

theorem MakS.row {w : World} {M : Nat} {ls : List ByteArray} {o : List Int} {ov : Value} (h : MakS w M ls o ov) {B : Nat} {t : TypeId} {size n : Nat} {v : Value} {xs : List Value} (hv : w.ownsRow B t size v n xs) (ht : t ≠ 67) : ∀ g, v.ownBlock = some g → g ≠ M := by
  intro g hg e
  subst e
  rcases hv.2 with ⟨h', _⟩ | ⟨g', _, cur, h', _, hh, _⟩
  · rw [h'] at hg; cases hg
  · rw [h'] at hg
    simp [Value.ownBlock] at hg
    subst hg
    have := h.block
    rw [hh] at this
    simp at this
    exact ht this.2

/-- How many cells the maker's row shows. -/
def lenAt (w : World) (M : Nat) : Nat := match w.cell? ⟨M, 1, none⟩ with
  | some (.slice _ n _) => n
  | _ => 0
theorem unl_rep (ls : List ByteArray) : ∀ n, (Rt.unl (ls ++ List.replicate n Rt.enT)).size = (Rt.unl ls).size + n * 4
  | 0 => by simp
  | n + 1 => by
    rw [List.replicate_succ', ← List.append_assoc, unl_size, unl_rep ls n]
    have : Rt.enT.size = 3 := rfl
    omega
theorem MakS.len {w : World} {M : Nat} {ls : List ByteArray} {o : List Int} {ov : Value} (h : MakS w M ls o ov) : lenAt w M = o.length := by
  have c1 := cell_of_block h.block 1 (by simp)
  simp at c1
  obtain ⟨ad, cap, rfl⟩ := ownsRow_form h.own
  unfold lenAt
  rw [c1]

set_option maxHeartbeats 4000000 in
set_option maxRecDepth 100000 in
theorem body_any (w : World) (M B : Nat) (ls : List ByteArray) (ov : Value) (cv vv : Value) (code : List Int) (vars : List ByteArray) (h : MakS w M ls [] ov) (hsz : (Rt.unl ls).size ≤ 500000)
    (hc : IntsR w M cv code) (hv : w.ownsRow B 9 1 vv vars.length (vars.map Value.string)) (hvs : ∀ s ∈ vars, s.size ≤ 8) (hv0 : 0 < vars.length) (hv9 : vars.length ≤ 9) :
    Calls Tryz.prog 33 #[.pointer (some ⟨M, 0, none⟩), cv, vv] w (MakP M (ls ++ Rt.bodyL vars code) [] w) := by
  obtain ⟨ad, cap, rfl, hcap, hmax, hrng, hcells⟩ := hc
  obtain ⟨vad, vcap, rfl⟩ := ownsRow_form hv
  go_enter Tryz.func33, Tryz.ntmps33
  go_wp2_with fail
  go_loopw [6, 7, 8, 9, 10] (fun i _ _ _ _ wr => ∃ (k : Nat) (ls' : List ByteArray) (o : List Int) (ov' : Value), k ≤ code.length ∧ k ≤ 14 ∧ i = .int .i64 k ∧ ls' = ls ++ (Rt.bodyE vars (code.take k) []).1 ∧ o = (Rt.bodyE vars (code.take k) []).2 ∧ (Rt.unl ls').size ≤ 500000 + k * 300 ∧ o.length ≤ k ∧ MakS wr M ls' o ov' ∧ MFr M w wr ∧ wr.ownsRow B 9 1 (.slice vad vars.length vcap) vars.length (vars.map Value.string))
    (fun i _ _ _ _ _ => 20 - (intOf i).toNat)
  case atStart => exact ⟨0, ls, [], ov, by omega, by omega, rfl, by simp [Rt.bodyE], by simp [Rt.bodyE], by omega, by simp, h, MFr.refl _ _, hv⟩
  case round =>
    clear h hv
    obtain ⟨k, ls', o, ov', hk, hk14, rfl, hls, ho, hsz', hol, hm, hf, hv⟩ := hrel
    have hcells' := IntsR.kept (B := M) ⟨ad, cap, rfl, hcap, hmax, hrng, hcells⟩ hf.cell hf.size
    clear hcells
    by_cases hgo : k < code.length ∧ k < 14
    · obtain ⟨hk1, hk2⟩ := hgo
      have hk1' : (k : Int) < (code.length : Int) := by omega
      have hk2' : (k : Int) < 14 := by omega
      have hk0 : (0 : Int) ≤ (k : Int) := by omega
      have hx := hrng code[k] (List.getElem_mem hk1)
      have hcell : ∃ b off, ad = some ⟨b, off, none⟩ ∧ wr.cell? ⟨b, off + k, none⟩ = some (.int .i64 code[k]) := by
        obtain ⟨ad', cap', e, _, _, _, h5⟩ := hcells'
        injection e with e1 _ _
        subst e1
        rcases h5 with h5 | ⟨b, off, h6, _, _, h9⟩
        · rw [h5] at hk1; simp at hk1
        · exact ⟨b, off, h6, h9 k hk1⟩
      obtain ⟨b, off, rfl, hcell⟩ := hcell
      have HT := hide (show code.take (k + 1) = code.take k ++ [code[k]] by rw [List.take_add_one, List.getElem?_eq_getElem hk1]; rfl)
      have HC := hide hrng
      have HV0 := hide hv0
      have HS := hide (And.intro hls (And.intro ho (And.intro hsz' hol)))
      have HM := hide (And.intro hm (And.intro hf hv))
      clear hrng hls ho hsz' hol hm hf hv hcells'
      generalize HX : code[k] = c at *
      replace HX := hide HX
      go_wp2_with fail
      refine (pick_any _ c 1099511627776 hx.1 hx.2 (by omega) (by omega)).mono ?_
      rintro e w1 ⟨rfl, rfl⟩
      have hp0 : 0 ≤ Rt.pickP c 1099511627776 := Int.emod_nonneg _ (by decide)
      have hp1 : Rt.pickP c 1099511627776 < 1099511627776 := Int.emod_lt_of_pos _ (by decide)
      generalize HV : Rt.pickP c 1099511627776 = v at *
      replace HV := hide HV
      have hvl : (0 : Int) < (vars.length : Int) := by have := unhide HV0; omega
      have e0 : ((vars.length : Int) == 0) = false := by have := unhide HV0; rw [beq_eq_false_iff_ne]; omega
      obtain ⟨ia, qa⟩ := Int.eq_ofNat_of_zero_le (Int.emod_nonneg (v / 12) (show (vars.length : Int) ≠ 0 by omega))
      obtain ⟨ib, qb⟩ := Int.eq_ofNat_of_zero_le (Int.emod_nonneg (v / 60) (show (vars.length : Int) ≠ 0 by omega))
      have qa1 : (ia : Int) < (vars.length : Int) := by rw [← qa]; exact Int.emod_lt_of_pos _ hvl
      have qb1 : (ib : Int) < (vars.length : Int) := by rw [← qb]; exact Int.emod_lt_of_pos _ hvl
      have qa0 : (0 : Int) ≤ (ia : Int) := by omega
      have qb0 : (0 : Int) ≤ (ib : Int) := by omega
      have hla : ia < vars.length := by omega
      have hlb : ib < vars.length := by omega
      obtain ⟨g, gcap, hgv, _, _, ca⟩ := own_cell (unhide HM).2.2 (j := ia) (u := .string vars[ia]) (by simp [hla])
      obtain ⟨g', gcap', hgv', _, _, cb⟩ := own_cell (unhide HM).2.2 (j := ib) (u := .string vars[ib]) (by simp [hlb])
      injection hgv with hgv1 _ hgv2
      injection hgv' with hgv1' _ hgv2'
      subst hgv1 hgv2
      injection hgv1' with hgv1'
      injection hgv1' with hgv1'
      subst hgv1'
      clear hgv2'
      have sa := hvs vars[ia] (List.getElem_mem hla)
      have sb := hvs vars[ib] (List.getElem_mem hlb)
      have HA := hide (show Rt.varE vars (v / 12 % vars.length) = vars[ia] by unfold Rt.varE; rw [qa]; simp [hla])
      have HB := hide (show Rt.varE vars (v / 60 % vars.length) = vars[ib] by unfold Rt.varE; rw [qb]; simp [hlb])
      generalize vars[ia] = sA at *
      generalize vars[ib] = sB at *
      have hd0 : 0 ≤ v / 300 % 10 := Int.emod_nonneg _ (by decide)
      have hd1 : v / 300 % 10 < 10 := Int.emod_lt_of_pos _ (by decide)
      have hr0 : 0 ≤ v % 12 := Int.emod_nonneg _ (by decide)
      have hr1 : v % 12 < 12 := Int.emod_lt_of_pos _ (by decide)
      go_wp2_with fail
      refine (itoa_any _ (v / 300 % 10) hd0 hd1).mono ?_
      rintro e w2 ⟨rfl, hb2⟩
      obtain ⟨hls, ho, hsz', hol⟩ := unhide HS
      obtain ⟨hm, hf, hv⟩ := unhide HM
      have hm2 := hm.later hb2
      have hf2 := hf.trans (MFr.of_below hb2)
      have hv2 := own_later hv hb2
      have hdz : (Rt.digitT (v / 300 % 10)).size ≤ 8 := by show 1 ≤ 8; omega
      have HN := hide (show Rt.bodyE vars (code.take (k + 1)) [] = ((Rt.bodyE vars (code.take k) []).1 ++ (Rt.stepE vars c o).1, (Rt.stepE vars c o).2) by rw [unhide HT, Rt.bodyE_snoc, ← ho])
      generalize HDG : Rt.digitT (v / 300 % 10) = dg at *
      replace HDG := hide HDG
      by_cases h8 : v % 12 < 8
      · have HSt := hide (show Rt.stepE vars c o = ([Rt.plainE (v % 12) sA sB dg], o) by unfold Rt.stepE; simp only [unhide HV, unhide HA, unhide HB, unhide HDG]; rw [if_pos h8])
        have hgr := Rt.plain_grow ls' (v % 12) sA sB dg sa sb hdz
        clear hm hf hv hb2
        have HM2 := hide (And.intro hm2 (And.intro hf2 hv2))
        clear hm2 hf2 hv2
        go_wp2_with fail
        refine (plain_any _ M ls' o ov' (v % 12) sA sB dg (unhide HM2).1 sa sb hdz (by omega) hr0 h8).mono ?_
        rintro e w3 ⟨rfl, ⟨ov3, hm3⟩, hf3⟩
        have HM3 := hide (And.intro hm3 (And.intro ((unhide HM2).2.1.trans hf3) (hf3.row (by decide) ((unhide HM2).1.row (unhide HM2).2.2 (by decide)) (unhide HM2).2.2)))
        clear hm3 hf3
        go_wp2_with fail
        go_roundw
        case rel =>
          obtain ⟨q1, q2, q3⟩ := unhide HM3
          refine ⟨k + 1, ls' ++ [Rt.plainE (v % 12) sA sB dg], o, ov3, by omega, by omega, by go_num, ?_, ?_, by omega, by omega, q1, q2, q3⟩
          · rw [unhide HN, unhide HSt, hls, List.append_assoc]
          · rw [unhide HN, unhide HSt]
        case measure => simp [intOf]; omega
      · have hr8 : 0 ≤ v % 12 - 8 := by omega
        have hr9 : v % 12 - 8 < 4 := by omega
        have HSt := hide (show Rt.stepE vars c o = Rt.blockE o (v % 12 - 8) sA dg by unfold Rt.stepE; simp only [unhide HV, unhide HA, unhide HB, unhide HDG]; rw [if_neg h8])
        have hgr := Rt.block_grow ls' o (v % 12 - 8) sA dg sa hdz
        clear hm hf hv hb2
        have HM2 := hide (And.intro hm2 (And.intro hf2 hv2))
        clear hm2 hf2 hv2
        go_wp2_with fail
        refine (block_any _ M ls' o ov' (v % 12 - 8) sA dg (unhide HM2).1 sa hdz (by omega) (by omega) hr8 hr9).mono ?_
        rintro e w3 ⟨rfl, ⟨ov3, hm3⟩, hf3⟩
        have HM3 := hide (And.intro hm3 (And.intro ((unhide HM2).2.1.trans hf3) (hf3.row (by decide) ((unhide HM2).1.row (unhide HM2).2.2 (by decide)) (unhide HM2).2.2)))
        clear hm3 hf3
        go_wp2_with fail
        go_roundw
        case rel =>
          obtain ⟨q1, q2, q3⟩ := unhide HM3
          refine ⟨k + 1, ls' ++ (Rt.blockE o (v % 12 - 8) sA dg).1, (Rt.blockE o (v % 12 - 8) sA dg).2, ov3, by omega, by omega, by go_num, ?_, ?_, by omega, by omega, q1, q2, q3⟩
          · rw [unhide HN, unhide HSt, hls, List.append_assoc]
          · rw [unhide HN, unhide HSt]
        case measure => simp [intOf]; omega
    · have HB : Hid (Rt.bodyE vars (code.take 14) [] = Rt.bodyE vars (code.take k) []) := by
        refine hide ?_
        by_cases hkl : k < code.length
        · rw [show k = 14 by omega]
        · rw [List.take_of_length_le (by omega), List.take_of_length_le (by omega)]
      have HL := hide hls
      have HO := hide ho
      have HM := hide (And.intro hm hf)
      have hgo1 : (k : Int) < (code.length : Int) → ¬ (k : Int) < 14 := by omega
      clear hm hf hv hls ho hcells' hrng hgo
      have hol14 : o.length ≤ 14 := by omega
      have hszz : (Rt.unl ls').size ≤ 600000 := by omega
      rcases Int.lt_or_le (k : Int) (code.length : Int) with hkl | hkl
      all_goals
        have hk2 := hgo1
        clear hgo1 hsz' hol
        first | (have hk3 := hk2 hkl; clear hk2) | clear hk2
        go_wp2_with fail
        go_loopw [] (fun wr => ∃ (n : Nat) (o2 : List Int) (ov2 : Value), o2.length + n = o.length ∧ MakS wr M (ls' ++ List.replicate n Rt.enT) o2 ov2 ∧ MFr M w wr) (fun wr => lenAt wr M)
        case atStart => exact ⟨0, o, ov', by omega, by simpa using (unhide HM).1, (unhide HM).2⟩
        case round =>
          obtain ⟨n, o2, ov2, hn, hm2, hf2⟩ := hrel
          have hlm := hm2.len
          have c1 := cell_of_block hm2.block 1 (by simp)
          have f1 := free_of_block hm2.block 1
          simp at c1
          have hus := unl_rep ls' n
          rcases ints_dec o2 with rfl | ⟨pre, x, rfl⟩
          · have HM2 := hide hm2
            have HF2 := hide hf2
            obtain ⟨ad2, cap2, rfl⟩ := ownsRow_form hm2.own
            simp only [List.length_nil] at c1
            clear hm2 hf2 hlm
            go_wp2_with fail
            refine (mline_any _ M _ [] _ ⟨#[101, 110, 100]⟩ (unhide HM2) (by show _ + 3 ≤ _; simp at hn; omega)).mono ?_
            rintro e w5 ⟨rfl, hm5, hf5⟩
            have HM5 := hide (And.intro hm5 ((unhide HF2).trans hf5))
            clear hm5 hf5
            go_wp2_with fail
            go_end0
            have hq := (unhide HM5).1
            have e1 : ls ++ Rt.bodyL vars code = ls' ++ List.replicate n Rt.enT ++ [⟨#[101, 110, 100]⟩] := by
              unfold Rt.bodyL
              rw [unhide HB, ← unhide HO, unhide HL]
              simp only [List.length_nil, Nat.zero_add] at hn
              rw [hn, List.replicate_succ']
              simp [Rt.enT]
            rw [← e1] at hq
            exact ⟨rfl, ⟨_, hq⟩, (unhide HM5).2⟩
          · have hlen' : pre.length + 1 ≤ 1000 := by simp at hn; omega
            have HM2 := hide hm2
            have HF2 := hide hf2
            obtain ⟨g2, cap2, rfl, hg2, d2⟩ := hm2.last
            have hz : (0 : Int) < (pre.length : Int) + 1 := by omega
            have hnn : n ≤ 14 := by omega
            clear hm2 hf2 d2
            go_wp2_with fail
            refine (mline_any _ M _ (pre ++ [x]) _ ⟨#[101, 110, 100]⟩ (unhide HM2) (by show _ + 3 ≤ _; omega)).mono ?_
            rintro e w5 ⟨rfl, hm5, hf5⟩
            have HR := hide ((unhide HF2).trans hf5)
            have c5 := cell_of_block hm5.block 1 (by simp)
            have f5 := free_of_block hm5.block 1
            simp at c5
            have hown := hm5.own
            simp only [List.length_append, List.length_cons, List.length_nil, Nat.zero_add] at hown
            have hcap : pre.length + 1 ≤ cap2 := by
              rcases hown.2 with ⟨h', _⟩ | ⟨g', cap', cur, h', _, _, hn, _⟩
              · cases h'
              · simp at h'; omega
            have hpop : w5.ownsRow (M + 1) 3 1 (.slice (some ⟨g2, 0, none⟩) pre.length cap2) pre.length (pre.map (Value.int .i64)) := by
              rw [List.map_append] at hown
              exact ownsRow_pop (by simp) hown
            have HF := hide (hm5.put (o' := pre) (mdrewN w5 1) (mgrown_refl _ _) hpop)
            have HE := hide (show (ls' ++ List.replicate n Rt.enT) ++ [⟨#[101, 110, 100]⟩] = ls' ++ List.replicate (n + 1) Rt.enT by rw [List.replicate_succ', List.append_assoc]; rfl)
            have hnl : pre.length + (n + 1) = o.length := by simp at hn; omega
            have HNL := hide hnl
            have hlm' : lenAt wr M = pre.length + 1 := by simpa using hlm
            have HLM := hide hlm'
            clear hm5 hown hpop hf5 hn hnl hlm hlm'
            generalize HPL : pre.length = m at *
            replace HPL := hide HPL
            have hm0 : (0 : Int) ≤ (m : Int) := by omega
            have hm1 : (m : Int) < (m : Int) + 1 := by omega
            have hm2 : (m : Int) ≤ 1000 := by omega
            have hm3 := kwrapm1 m hlen'
            have hm4 := kwrapm0 m hlen'
            have hm6 : (m : Int) ≤ (cap2 : Int) := by omega
            go_wp2_with fail
            go_region_law (fail)
            all_goals
              go_wp2_with fail
              go_roundw
              case rel =>
                obtain ⟨q1, q2⟩ := unhide HF
                rw [unhide HE] at q1
                exact ⟨n + 1, pre, _, by rw [unhide HPL]; exact unhide HNL, q1, (unhide HR).trans q2⟩
              case measure =>
                have hq := (unhide HF).1.len
                rw [unhide HPL] at hq
                rw [unhide HLM]
                exact Nat.lt_of_le_of_lt (Nat.le_of_eq hq) (by omega)
end Go.Proofs.YtbpajiljfppjcaaGreatDoor

namespace Go.Proofs.YtbpajiljfppjcaaGreatDoor
open Go.RowKit
attribute [local go_sem ↓] Go.wp_at_zero Go.wp_at_succ

namespace Rt
theorem var_small {vars : List ByteArray} (h : ∀ s ∈ vars, s.size ≤ 8) (i : Int) : (varE vars i).size ≤ 8 := by
  unfold varE
  cases e : vars[i.toNat]? with
  | none => show 0 ≤ 8; omega
  | some s => exact h s (List.mem_of_getElem? e)
theorem step_grow {vars : List ByteArray} (h : ∀ s ∈ vars, s.size ≤ 8) (ls : List ByteArray) (c : Int) (o : List Int) : (unl (ls ++ (stepE vars c o).1)).size ≤ (unl ls).size + 300 ∧ (stepE vars c o).2.length ≤ o.length + 1 := by
  have hd : (digitT (pickP c 1099511627776 / 300 % 10)).size ≤ 8 := by show 1 ≤ 8; omega
  unfold stepE
  simp only
  split
  · exact ⟨plain_grow ls _ _ _ _ (var_small h _) (var_small h _) hd, by simp⟩
  · exact block_grow ls o _ _ _ (var_small h _) hd
theorem bodyE_grow {vars : List ByteArray} (h : ∀ s ∈ vars, s.size ≤ 8) : ∀ (code o : List Int) (ls : List ByteArray), (unl (ls ++ (bodyE vars code o).1)).size ≤ (unl ls).size + 300 * code.length ∧ (bodyE vars code o).2.length ≤ o.length + code.length
  | [], o, ls => by simp [bodyE]
  | c :: r, o, ls => by
    obtain ⟨h1, h2⟩ := step_grow h ls c o
    obtain ⟨h3, h4⟩ := bodyE_grow h r (stepE vars c o).2 (ls ++ (stepE vars c o).1)
    simp only [bodyE, List.length_cons]
    rw [← List.append_assoc]
    exact ⟨by omega, by omega⟩
theorem bodyL_grow {vars : List ByteArray} (h : ∀ s ∈ vars, s.size ≤ 8) (code : List Int) (ls : List ByteArray) : (unl (ls ++ bodyL vars code)).size ≤ (unl ls).size + 5000 := by
  obtain ⟨h1, h2⟩ := bodyE_grow h (code.take 14) [] ls
  have h3 : (code.take 14).length ≤ 14 := by simp; omega
  unfold bodyL
  rw [← List.append_assoc, unl_rep]
  simp only [List.length_nil] at h2
  omega
end Rt
theorem MFr.below {M : Nat} {w w' : World} (h : MFr M w w') (hM : M ≤ w.heap.size) : Below M w w' := by
  refine ⟨h.os, h.tape, h.output, h.size, fun k hk => ?_⟩
  cases hx : w.heap[k]? with
  | none =>
    rw [Array.getElem?_eq_none_iff] at hx
    omega
  | some x => exact h.block k x hx (by omega) (Or.inl hk)
set_option maxHeartbeats 4000000 in
set_option maxRecDepth 100000 in
theorem source_any (w : World) (cv : Value) (code : List Int) (hc : IntsR w w.heap.size cv code) :
    Calls Tryz.prog 10 #[cv] w fun e w' => e = .returned (.string (Rt.srcB code)) ∧ Below w.heap.size w w' := by
  obtain ⟨ad, cap, rfl, hcap, hmax, hrng, hcells⟩ := hc
  have hb0 := (Below.refl w.heap.size w).alloc (Nat.le_refl _) (.cells #[.string ⟨#[]⟩, .slice none 0 0] 67)
  have hm0 : MakS (w.alloc (.cells #[.string ⟨#[]⟩, .slice none 0 0] 67)) w.heap.size [] [] (.slice none 0 0) := ⟨heap_alloc_new w _, World.ownsRow_nil _ _ _ _⟩
  have HC := hide hcells
  have HR := hide hrng
  clear hcells hrng
  go_enter Tryz.func10, Tryz.ntmps10
  go_wp2_with fail
  refine (mline_any _ w.heap.size _ _ _ _ hm0 (by decide)).mono ?_
  rintro e w1 ⟨rfl, hm1, hf1⟩
  have hb1 := hb0.trans (hf1.below hb0.size)
  clear hm0 hb0 hf1
  go_wp2_with fail
  refine (mline_any _ w.heap.size _ _ _ _ hm1 (by decide)).mono ?_
  rintro e w2 ⟨rfl, hm2, hf2⟩
  have hb2 := hb1.trans (hf2.below hb1.size)
  clear hm1 hb1 hf2
  go_wp2_with fail
  refine (mline_any _ w.heap.size _ _ _ _ hm2 (by decide)).mono ?_
  rintro e w3 ⟨rfl, hm3, hf3⟩
  have hb3 := hb2.trans (hf3.below hb2.size)
  clear hm2 hb2 hf3
  go_wp2_with fail
  refine (mline_any _ w.heap.size _ _ _ _ hm3 (by decide)).mono ?_
  rintro e w4 ⟨rfl, hm4, hf4⟩
  have hb4 := hb3.trans (hf4.below hb3.size)
  clear hm3 hb3 hf4
  go_wp2_with fail
  refine (mline_any _ w.heap.size _ _ _ _ hm4 (by decide)).mono ?_
  rintro e w5 ⟨rfl, hm5, hf5⟩
  have hb5 := hb4.trans (hf5.below hb4.size)
  clear hm4 hb4 hf5
  have HM := hide hm5
  have HB := hide hb5
  clear hm5 hb5
  obtain ⟨half, hh⟩ := Int.eq_ofNat_of_zero_le (show 0 ≤ (code.length : Int) / 2 by omega)
  have hh1 : (half : Int) ≤ (code.length : Int) := by omega
  have hh2 : (half : Int) ≤ (cap : Int) := by omega
  have hh0 : (0 : Int) ≤ (half : Int) := by omega
  have hhm : (code.length : Int) ≤ (cap : Int) := by omega
  have hw1 : wrap64 (half : Int) = (half : Int) := IntWalk.wrap64_in _ (by unfold maxLen at hmax; omega)
  have hw2 : IntKind.i64.wrap (half : Int) = (half : Int) := by rw [IntWalk.i64_left]; exact hw1
  have HTk := hide (show code.take half = code.take (code.length / 2) by rw [show half = code.length / 2 by omega])
  have HDr := hide (show code.drop half = code.drop (code.length / 2) by rw [show half = code.length / 2 by omega])
  have hlt : (code.take half).length = half := by simp; omega
  have hld : (code.drop half).length = code.length - half := by simp
  go_wp2_with fail
  have hb6 := (Below.refl w5.heap.size w5).alloc (Nat.le_refl _) (.cells #[.string ⟨#[112]⟩, .string ⟨#[113]⟩, .string ⟨#[120]⟩, .string ⟨#[112]⟩, .string ⟨#[122]⟩] 9)
  have hm6 := (unhide HM).later hb6
  have hB6 := (unhide HB).trans (hb6.mono (B' := w.heap.size) (unhide HB).size)
  have hv6 : (w5.alloc (.cells #[.string ⟨#[112]⟩, .string ⟨#[113]⟩, .string ⟨#[120]⟩, .string ⟨#[112]⟩, .string ⟨#[122]⟩] 9)).ownsRow w5.heap.size 9 1 (.slice (some ⟨w5.heap.size, 0, none⟩) 5 5) Rt.varsF.length (Rt.varsF.map Value.string) :=
    ⟨rfl, Or.inr ⟨_, _, _, rfl, Nat.le_refl _, heap_alloc_new _ _, by decide, by decide, by decide, rfl⟩⟩
  have hc6 : IntsR (w5.alloc (.cells #[.string ⟨#[112]⟩, .string ⟨#[113]⟩, .string ⟨#[120]⟩, .string ⟨#[112]⟩, .string ⟨#[122]⟩] 9)) w.heap.size (.slice ad half cap) (code.take half) := by
    refine ⟨ad, cap, by rw [hlt], by omega, hmax, fun x hx => unhide HR x (List.mem_of_mem_take hx), ?_⟩
    rcases unhide HC with h | ⟨b, off, h1, h2, h3, h4⟩
    · exact Or.inl (by rw [h]; simp)
    · refine Or.inr ⟨b, off, h1, h2, Nat.lt_of_lt_of_le h2 hB6.size, fun j hj => ?_⟩
      rw [hB6.cell (p := ⟨b, off + j, none⟩) h2, List.getElem_take]
      exact h4 j (by omega)
  refine (body_any _ w.heap.size w5.heap.size _ _ (.slice ad half cap) _ (code.take half) Rt.varsF hm6 (by decide) hc6 hv6 (by decide) (by decide) (by decide)).mono ?_
  rintro e w7 ⟨rfl, ⟨ov7, hm7⟩, hf7⟩
  have hsz7 : (Rt.unl (Rt.headT ++ Rt.bodyL Rt.varsF (code.take half))).size ≤ 6000 := by
    have h1 := Rt.bodyL_grow (vars := Rt.varsF) (by decide) (code.take half) Rt.headT
    have h2 : (Rt.unl Rt.headT).size ≤ 100 := by decide
    omega
  replace hm7 : MakS w7 w.heap.size (Rt.headT ++ Rt.bodyL Rt.varsF (code.take half)) [] ov7 := hm7
  have hB7 := hB6.trans (hf7.below hB6.size)
  clear hm6 hB6 hb6 hv6 hc6 hf7 HM HB
  generalize HLS : Rt.headT ++ Rt.bodyL Rt.varsF (code.take half) = ls7 at *
  replace HLS := hide HLS
  go_wp2_with fail
  refine (mline_any _ w.heap.size _ _ _ _ hm7 (by show _ + 9 ≤ _; omega)).mono ?_
  rintro e w8 ⟨rfl, hm8, hf8⟩
  have hB8 := hB7.trans (hf8.below hB7.size)
  have hsz8 : (Rt.unl (ls7 ++ [Rt.mainT])).size ≤ 7000 := by rw [unl_size]; have : Rt.mainT.size = 9 := rfl; omega
  replace hm8 : MakS w8 w.heap.size (ls7 ++ [Rt.mainT]) [] ov7 := hm8
  clear hm7 hB7 hf8 hsz7
  have HM8 := hide hm8
  have HB8 := hide hB8
  clear hm8 hB8
  go_wp2_with fail
  all_goals
    have hb9 := (Below.refl w8.heap.size w8).alloc (Nat.le_refl _) (.cells #[.string ⟨#[120]⟩, .string ⟨#[121]⟩, .string ⟨#[122]⟩] 9)
    have hm9 := (unhide HM8).later hb9
    have hB9 := (unhide HB8).trans (hb9.mono (B' := w.heap.size) (unhide HB8).size)
    have hv9 : (w8.alloc (.cells #[.string ⟨#[120]⟩, .string ⟨#[121]⟩, .string ⟨#[122]⟩] 9)).ownsRow w8.heap.size 9 1 (.slice (some ⟨w8.heap.size, 0, none⟩) 3 3) Rt.varsM.length (Rt.varsM.map Value.string) :=
      ⟨rfl, Or.inr ⟨_, _, _, rfl, Nat.le_refl _, heap_alloc_new _ _, by decide, by decide, by decide, rfl⟩⟩
    have hcx : ∀ v : Value, (v = .slice (ad.map (fun x => x.add half)) (code.length - half) (cap - half) ∨ (cap = half ∧ v = .slice ad (code.length - half) 0)) → IntsR (w8.alloc (.cells #[.string ⟨#[120]⟩, .string ⟨#[121]⟩, .string ⟨#[122]⟩] 9)) w.heap.size v (code.drop half) := by
      rintro v (rfl | ⟨hch, rfl⟩)
      · refine ⟨_, _, by rw [hld], by rw [hld]; omega, by omega, fun x hx => unhide HR x (List.mem_of_mem_drop hx), ?_⟩
        rcases unhide HC with h | ⟨b, off, h1, h2, h3, h4⟩
        · exact Or.inl (by rw [h]; simp)
        · refine Or.inr ⟨b, off + half, by rw [h1]; simp [Addr.add], h2, Nat.lt_of_lt_of_le h2 hB9.size, fun j hj => ?_⟩
          rw [hB9.cell (p := ⟨b, off + half + j, none⟩) h2, List.getElem_drop, Nat.add_assoc]
          exact h4 (half + j) (by omega)
      · have h0 : code.drop half = [] := List.drop_eq_nil_of_le (by omega)
        rw [h0]
        exact ⟨ad, 0, by rw [show code.length - half = 0 by omega]; rfl, by simp, by omega, by simp, Or.inl rfl⟩
    refine (body_any _ w.heap.size w8.heap.size _ _ _ _ (code.drop half) Rt.varsM hm9 (by omega) (hcx _ (by first | exact Or.inl rfl | exact Or.inr ⟨by assumption, rfl⟩)) hv9 (by decide) (by decide) (by decide)).mono ?_
    rintro e w10 ⟨rfl, ⟨ov10, hm10⟩, hf10⟩
    have hB10 := hB9.trans (hf10.below hB9.size)
    have HE := hide (show ls7 ++ [Rt.mainT] ++ Rt.bodyL Rt.varsM (code.drop half) = Rt.srcL code by rw [← unhide HLS, unhide HTk, unhide HDr]; rfl)
    rw [unhide HE] at hm10
    have c10 := cell_of_block hm10.block 0 (by simp)
    simp at c10
    have HF := hide hB10
    clear hm9 hB9 hb9 hv9 hcx hf10 HM8 HB8 hB10 hm10 hsz8
    go_wp2_with fail
    go_ret
    exact ⟨rfl, unhide HF⟩
end Go.Proofs.YtbpajiljfppjcaaGreatDoor

namespace Go.Proofs.YtbpajiljfppjcaaGreatDoor
open Go.RowKit

def ints (l : List Int) : List Value := l.map (Value.int .i64)

/-- The numbers of a row can be read. -/
theorem int_cell {w : World} {B n : Nat} {v : Value} {l : List Int} (h : w.ownsRow B 3 1 v n (ints l)) {j : Nat} (hj : j < l.length) : ∃ g cap, v = .slice (some ⟨g, 0, none⟩) n cap ∧ w.cell? ⟨g, j, none⟩ = some (.int .i64 l[j]) := by
  obtain ⟨g, cap, he, _, _, hc⟩ := own_cell h (j := j) (u := .int .i64 l[j]) (by simp [ints, hj])
  exact ⟨g, cap, he, hc⟩

theorem ints_eq_from {a b : List Int} (hn : a.length = b.length) (h : ∀ j (h : j < a.length) (h' : j < b.length), a[j] = b[j]) : a = b := List.ext_getElem hn h

set_option maxHeartbeats 2000000 in
set_option maxRecDepth 100000 in
theorem sameInts_keep (w : World) (B B' : Nat) (va vb : Value) (a b : List Int) (ha : w.ownsRow B 3 1 va a.length (ints a)) (hb : w.ownsRow B' 3 1 vb b.length (ints b)) (hl : a.length ≤ 1000) (hl2 : b.length ≤ 1000) :
    Calls Tryz.prog 46 #[va, vb] w fun e w' => e = .returned (.bool (decide (a = b))) ∧ Below w.heap.size w w' := by
  obtain ⟨ad, ca, rfl⟩ := ownsRow_form ha
  obtain ⟨bd, cb, rfl⟩ := ownsRow_form hb
  by_cases hn : a.length = b.length
  · have hn' : ((a.length : Int) == (b.length : Int)) = true := by rw [beq_iff_eq]; omega
    have HN := hide hn
    clear hn
    go_enter Tryz.func46, Tryz.ntmps46
    go_wp2
    go_loopw [5] (fun i wr => ∃ k : Nat, k ≤ a.length ∧ i = .int .i64 k ∧ (∀ j (h : j < a.length) (h' : j < b.length), j < k → a[j] = b[j]) ∧ wr.ownsRow B 3 1 (.slice ad a.length ca) a.length (ints a) ∧ wr.ownsRow B' 3 1 (.slice bd b.length cb) b.length (ints b) ∧ Below w.heap.size w wr) (fun i _ => a.length - (intOf i).toNat)
    case atStart => exact ⟨0, Nat.zero_le _, rfl, fun j _ _ h => by omega, ha, hb, Below.refl _ _⟩
    case round =>
      obtain ⟨k, hk, rfl, hall, ha2, hb2, hbe⟩ := hrel
      have HX := hide (And.intro hall (And.intro ha2 (And.intro hb2 hbe)))
      by_cases hlt : k < a.length
      · have hlt' : (k : Int) < (a.length : Int) := by omega
        have hlb : k < b.length := by have := unhide HN; omega
        have hlb' : (k : Int) < (b.length : Int) := by omega
        have hk0 : (0 : Int) ≤ (k : Int) := by omega
        obtain ⟨g, cap, he, cx⟩ := int_cell ha2 hlt
        obtain ⟨g', cap', he', cy⟩ := int_cell hb2 hlb
        simp at he he'
        obtain ⟨rfl, rfl⟩ := he
        obtain ⟨rfl, rfl⟩ := he'
        have HE := hide (show a[k] = b[k] → ∀ j (h : j < a.length) (h' : j < b.length), j < k + 1 → a[j] = b[j] from fun e j h h' hj => by
          by_cases hjk : j = k
          · subst hjk; exact e
          · exact hall j h h' (by omega))
        have HF := hide (show ¬ a[k] = b[k] → decide (a = b) = false from fun e => by
          rw [decide_eq_false_iff_not]
          intro hab
          subst hab
          exact e rfl)
        clear hall ha2 hb2 hbe
        generalize a[k] = x at *
        generalize b[k] = y at *
        cases hxy : (x == y) with
        | true =>
          have hx := unhide HE (by simpa using hxy)
          have HE2 := hide hx
          clear hx
          go_wp2_with fail
          go_region_held3 (fun w' => w'.cell? ⟨g, k, none⟩ = some (.int .i64 x) ∧ w'.cell? ⟨g', k, none⟩ = some (.int .i64 y)) (go_keep) (fail)
          go_wp2_with fail
          go_roundw
          case rel =>
            obtain ⟨_, q2, q3, q4⟩ := unhide HX
            exact ⟨k + 1, by omega, by go_num, unhide HE2, own_later q2 (below_to_drew _), own_later q3 (below_to_drew _), q4.trans ((below_to_drew _).mono q4.size)⟩
          case measure => simp [intOf]; omega
        | false =>
          have hx := unhide HF (by simpa using hxy)
          have HF2 := hide hx
          clear hx
          go_wp2_with fail
          go_region_held3 (fun w' => w'.cell? ⟨g, k, none⟩ = some (.int .i64 x) ∧ w'.cell? ⟨g', k, none⟩ = some (.int .i64 y)) (go_keep) (fail)
          go_wp2_with fail
          go_ret
          obtain ⟨_, q2, q3, q4⟩ := unhide HX
          exact ⟨by rw [unhide HF2]; rfl, q4.trans ((below_to_drew _).mono q4.size)⟩
      · have hlt' : ¬ (k : Int) < (a.length : Int) := by omega
        have HE := hide (show decide (a = b) = true from by
          rw [decide_eq_true_eq]
          exact ints_eq_from (unhide HN) (fun j h h' => hall j h h' (by omega)))
        clear hall ha2 hb2 hbe
        go_wp2_with fail
        go_ret
        exact ⟨by rw [unhide HE]; rfl, (unhide HX).2.2.2⟩
  · have hn' : ((a.length : Int) == (b.length : Int)) = false := by rw [beq_eq_false_iff_ne]; omega
    go_enter Tryz.func46, Tryz.ntmps46
    go_wp2
    go_ret
    exact ⟨ret_bool (by rw [eq_comm, decide_eq_false_iff_not]; intro e; exact hn (by rw [e])), Below.refl _ _⟩


end Go.Proofs.YtbpajiljfppjcaaGreatDoor

namespace Go.Proofs.YtbpajiljfppjcaaGreatDoor
namespace Rt

def namesF : List ByteArray := [⟨#[112]⟩, ⟨#[113]⟩, ⟨#[120]⟩, ⟨#[122]⟩]
theorem good_if_f : (namesF.all fun a => digs.all fun n => lnGood parsF 5 (ifT a n)) = true := by kernel_rfl
theorem good_wh_f : (namesF.all fun a => digs.all fun n => lnGood parsF 7 (whT a n)) = true := by kernel_rfl
theorem good_inc_f : (namesF.all fun a => lnGood parsF 8 (incT a)) = true := by kernel_rfl
theorem good_pr_f : (namesF.all fun a => digs.all fun n => lnGood parsF 10 (prT a n)) = true := by kernel_rfl
theorem good_dv_f : (namesF.all fun a => digs.all fun n => lnGood parsF 8 (dvT a n)) = true := by kernel_rfl
theorem good_p0_f : (namesF.all fun a => digs.all fun n => lnGood parsF 8 (plainE 0 a ⟨#[]⟩ n)) = true := by kernel_rfl
theorem good_p1_f : (namesF.all fun a => namesF.all fun b => lnGood parsF 8 (plainE 1 a b ⟨#[]⟩)) = true := by kernel_rfl
theorem good_p2_f : (namesF.all fun a => namesF.all fun b => lnGood parsF 9 (plainE 2 a b ⟨#[]⟩)) = true := by kernel_rfl
theorem good_p3_f : (namesF.all fun a => digs.all fun n => lnGood parsF 8 (plainE 3 a ⟨#[]⟩ n)) = true := by kernel_rfl
theorem good_p4_f : (namesF.all fun a => lnGood parsF 10 (plainE 4 a ⟨#[]⟩ ⟨#[]⟩)) = true := by kernel_rfl
theorem good_p5_f : (namesF.all fun a => lnGood parsF 11 (plainE 5 a ⟨#[]⟩ ⟨#[]⟩)) = true := by kernel_rfl
theorem good_p6_f : (namesF.all fun a => digs.all fun n => lnGood parsF 12 (plainE 6 a ⟨#[]⟩ n)) = true := by kernel_rfl
theorem good_p7_f : (namesF.all fun a => namesF.all fun b => digs.all fun n => lnGood parsF 8 (plainE 7 a b n)) = true := by kernel_rfl
theorem good_el_f : lnGood parsF 6 elT = true := by kernel_rfl
theorem good_en_f : lnGood parsF 4 enT = true := by kernel_rfl
theorem good_if_m : (varsM.all fun a => digs.all fun n => lnGood [] 5 (ifT a n)) = true := by kernel_rfl
theorem good_wh_m : (varsM.all fun a => digs.all fun n => lnGood [] 7 (whT a n)) = true := by kernel_rfl
theorem good_inc_m : (varsM.all fun a => lnGood [] 8 (incT a)) = true := by kernel_rfl
theorem good_pr_m : (varsM.all fun a => digs.all fun n => lnGood [] 10 (prT a n)) = true := by kernel_rfl
theorem good_dv_m : (varsM.all fun a => digs.all fun n => lnGood [] 8 (dvT a n)) = true := by kernel_rfl
theorem good_p0_m : (varsM.all fun a => digs.all fun n => lnGood [] 8 (plainE 0 a ⟨#[]⟩ n)) = true := by kernel_rfl
theorem good_p1_m : (varsM.all fun a => varsM.all fun b => lnGood [] 8 (plainE 1 a b ⟨#[]⟩)) = true := by kernel_rfl
theorem good_p2_m : (varsM.all fun a => varsM.all fun b => lnGood [] 9 (plainE 2 a b ⟨#[]⟩)) = true := by kernel_rfl
theorem good_p3_m : (varsM.all fun a => digs.all fun n => lnGood [] 8 (plainE 3 a ⟨#[]⟩ n)) = true := by kernel_rfl
theorem good_p4_m : (varsM.all fun a => lnGood [] 10 (plainE 4 a ⟨#[]⟩ ⟨#[]⟩)) = true := by kernel_rfl
theorem good_p5_m : (varsM.all fun a => lnGood [] 11 (plainE 5 a ⟨#[]⟩ ⟨#[]⟩)) = true := by kernel_rfl
theorem good_p6_m : (varsM.all fun a => digs.all fun n => lnGood [] 12 (plainE 6 a ⟨#[]⟩ n)) = true := by kernel_rfl
theorem good_p7_m : (varsM.all fun a => varsM.all fun b => digs.all fun n => lnGood [] 8 (plainE 7 a b n)) = true := by kernel_rfl
theorem good_el_m : lnGood [] 6 elT = true := by kernel_rfl
theorem good_en_m : lnGood [] 4 enT = true := by kernel_rfl
end Rt
end Go.Proofs.YtbpajiljfppjcaaGreatDoor

