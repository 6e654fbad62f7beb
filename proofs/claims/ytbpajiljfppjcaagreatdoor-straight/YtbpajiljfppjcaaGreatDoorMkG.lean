/- Made sources: the walk of a procedure's body. -/
import Derived.Test.YtbpajiljfppjcaaGreatDoorMkE
namespace Go.Proofs.YtbpajiljfppjcaaGreatDoor
open Go.RowKit
attribute [local go_sem ↓] Go.wp_at_zero Go.wp_at_succ

theorem plain_any (w : World) (M : Nat) (ls : List ByteArray) (o : List Int) (ov : Value) (k : Int) (a b n : ByteArray) (h : MakS w M ls o ov) (ha : a.size ≤ 8) (hb : b.size ≤ 8) (hn : n.size ≤ 8) (hsz : (Rt.unl ls).size ≤ 900000) (h0 : 0 ≤ k) (h8 : k < 8) :
    Calls Tryz.prog 58 #[.pointer (some ⟨M, 0, none⟩), .int .i64 k, .string a, .string b, .string n] w (MakP M (ls ++ [Rt.plainE k a b n]) o w) := by
  have hk : k = 0 ∨ k = 1 ∨ k = 2 ∨ k = 3 ∨ k = 4 ∨ k = 5 ∨ k = 6 ∨ k = 7 := by omega
  rcases hk with rfl | rfl | rfl | rfl | rfl | rfl | rfl | rfl
  · exact plain_0 w M ls o ov a b n h ha hb hn hsz
  · exact plain_1 w M ls o ov a b n h ha hb hn hsz
  · exact plain_2 w M ls o ov a b n h ha hb hn hsz
  · exact plain_3 w M ls o ov a b n h ha hb hn hsz
  · exact plain_4 w M ls o ov a b n h ha hb hn hsz
  · exact plain_5 w M ls o ov a b n h ha hb hn hsz
  · exact plain_6 w M ls o ov a b n h ha hb hn hsz
  · exact plain_7 w M ls o ov a b n h ha hb hn hsz
theorem block_any (w : World) (M : Nat) (ls : List ByteArray) (o : List Int) (ov : Value) (k : Int) (a n : ByteArray) (h : MakS w M ls o ov) (ha : a.size ≤ 8) (hn : n.size ≤ 8) (hsz : (Rt.unl ls).size ≤ 900000) (hlen : o.length ≤ 900) (h0 : 0 ≤ k) (h4 : k < 4) :
    Calls Tryz.prog 59 #[.pointer (some ⟨M, 0, none⟩), .int .i64 k, .string a, .string n] w (MakP M (ls ++ (Rt.blockE o k a n).1) (Rt.blockE o k a n).2 w) := by
  have hk : k = 0 ∨ k = 1 ∨ k = 2 ∨ k = 3 := by omega
  rcases hk with rfl | rfl | rfl | rfl
  · exact block_0 w M ls o ov a n h ha hn hsz hlen
  · exact block_1 w M ls o ov a n h ha hn hsz hlen
  · by_cases ht : Rt.topE o = 1
    · have e : Rt.blockE o 2 a n = ([Rt.elT], o.dropLast ++ [2]) := by unfold Rt.blockE; simp [ht]
      rw [e]
      exact block_2t w M ls o ov a n h ha hn hsz hlen ht
    · have e : Rt.blockE o 2 a n = ([Rt.prT a n], o) := by unfold Rt.blockE; simp [ht]
      rw [e]
      exact block_2f w M ls o ov a n h ha hn hsz hlen ht
  · by_cases ht : 0 < Rt.topE o
    · have e : Rt.blockE o 3 a n = ([Rt.enT], o.dropLast) := by unfold Rt.blockE; simp [ht]
      rw [e]
      exact block_3t w M ls o ov a n h ha hn hsz hlen ht
    · have e : Rt.blockE o 3 a n = ([Rt.dvT a n], o) := by unfold Rt.blockE; simp [ht]
      rw [e]
      exact block_3f w M ls o ov a n h ha hn hsz hlen ht
namespace Rt
theorem bodyE_snoc (vars : List ByteArray) (x : Int) : ∀ (c o : List Int), bodyE vars (c ++ [x]) o = ((bodyE vars c o).1 ++ (stepE vars x (bodyE vars c o).2).1, (stepE vars x (bodyE vars c o).2).2)
  | [], o => by simp [bodyE]
  | y :: c, o => by
    rw [List.cons_append, bodyE, bodyE_snoc vars x c (stepE vars y o).2]
    simp [bodyE]
theorem unl_two (ls : List ByteArray) (s t : ByteArray) : (unl (ls ++ [s, t])).size = (unl ls).size + s.size + t.size + 2 := by
  rw [show ls ++ [s, t] = (ls ++ [s]) ++ [t] by simp, unl_size, unl_size]; omega
theorem block_grow (ls : List ByteArray) (o : List Int) (k : Int) (a n : ByteArray) (ha : a.size ≤ 8) (hn : n.size ≤ 8) : (unl (ls ++ (blockE o k a n).1)).size ≤ (unl ls).size + 300 ∧ (blockE o k a n).2.length ≤ o.length + 1 := by
  have hs := if_size a n ha hn
  unfold blockE
  repeat' split
  · exact ⟨by rw [unl_size]; omega, by simp⟩
  · exact ⟨by rw [unl_two]; omega, by simp⟩
  · exact ⟨by rw [unl_size]; omega, by simp <;> omega⟩
  · exact ⟨by rw [unl_size]; omega, by simp <;> omega⟩
  · exact ⟨by rw [unl_size]; omega, by simp⟩
  · exact ⟨by rw [unl_size]; omega, by simp⟩
theorem plain_grow (ls : List ByteArray) (k : Int) (a b n : ByteArray) (ha : a.size ≤ 8) (hb : b.size ≤ 8) (hn : n.size ≤ 8) : (unl (ls ++ [plainE k a b n])).size ≤ (unl ls).size + 300 := by
  have := plain_size k a b n ha hb hn
  rw [unl_size]; omega
end Rt

/-- Whole numbers in memory, in blocks below B. -/
def IntsR (w : World) (B : Nat) (v : Value) (xs : List Int) : Prop := ∃ ad cap, v = .slice ad xs.length cap ∧ xs.length ≤ cap ∧ cap ≤ maxLen ∧ (∀ x ∈ xs, -9223372036854775808 ≤ x ∧ x ≤ 9223372036854775807) ∧ (xs = [] ∨ ∃ b off, ad = some ⟨b, off, none⟩ ∧ b < B ∧ b < w.heap.size ∧ ∀ j (h : j < xs.length), w.cell? ⟨b, off + j, none⟩ = some (.int .i64 xs[j]))
theorem IntsR.kept {w w' : World} {B : Nat} {v : Value} {xs : List Int} (h : IntsR w B v xs) (hk : ∀ b o, b < B → b < w.heap.size → w'.cell? ⟨b, o, none⟩ = w.cell? ⟨b, o, none⟩) (hs : w.heap.size ≤ w'.heap.size) : IntsR w' B v xs := by
  obtain ⟨ad, cap, h1, h2, h3, h4, h5⟩ := h
  refine ⟨ad, cap, h1, h2, h3, h4, ?_⟩
  rcases h5 with h5 | ⟨b, off, h6, h7, h8, h9⟩
  · exact Or.inl h5
  · exact Or.inr ⟨b, off, h6, h7, by omega, fun j hj => by rw [hk b _ h7 h8]; exact h9 j hj⟩
theorem MFr.cell {M : Nat} {w w' : World} (h : MFr M w w') : ∀ b o, b < M → b < w.heap.size → w'.cell? ⟨b, o, none⟩ = w.cell? ⟨b, o, none⟩ := by
  intro b o hb hlt
  cases hx : w.heap[b]? with
  | none => rw [Array.getElem?_eq_none_iff] at hx; omega
  | some x =>
    have := h.block b x hx (by omega) (Or.inl hb)
    rw [World.cell?_of_block (a := ⟨b, o, none⟩) (this.trans hx.symm)]
theorem MFr.row {M : Nat} {w w' : World} (h : MFr M w w') {B : Nat} {t : TypeId} {size n : Nat} {v : Value} {xs : List Value} (ht : t ≠ 3) (hM : ∀ g, v.ownBlock = some g → g ≠ M) (hv : w.ownsRow B t size v n xs) : w'.ownsRow B t size v n xs := by
  obtain ⟨h1, h2⟩ := hv
  refine ⟨h1, ?_⟩
  rcases h2 with h2 | ⟨g, cap, cur, hv', hg, hh, rr⟩
  · exact Or.inl h2
  · exact Or.inr ⟨g, cap, cur, hv', hg, h.block g _ hh (hM g (by rw [hv']; rfl)) (Or.inr fun c e => by injection e with _ e; exact ht e), rr⟩
end Go.Proofs.YtbpajiljfppjcaaGreatDoor

namespace Go.Proofs.YtbpajiljfppjcaaGreatDoor
open Go.RowKit
attribute [local go_sem ↓] Go.wp_at_zero Go.wp_at_succ

theorem MakS.row {w : World} {M : Nat} {ls : List ByteArray} {o : List Int} {ov : Value} (h : MakS w M ls o ov) {B : Nat} {t : TypeId} {size n : Nat} {v : Value} {xs : List Value} (hv : w.ownsRow B t size v n xs) (ht : t ≠ 67) : ∀ g, v.ownBlock = some g → g ≠ M := by
  intro g hg e
  subst e
  rcases hv.2 with ⟨h', _⟩ | ⟨g', _, cur, h', _, hh, _⟩
  · rw [h'] at hg; cases hg
  · rw [h'] at hg
    simp [Value.ownBlock] at hg
    subst hg
    have := h.block
    rw [hh] at this
    simp at this
    exact ht this.2

/-- How many cells the maker's row shows. -/
def lenAt (w : World) (M : Nat) : Nat := match w.cell? ⟨M, 1, none⟩ with
  | some (.slice _ n _) => n
  | _ => 0
theorem unl_rep (ls : List ByteArray) : ∀ n, (Rt.unl (ls ++ List.replicate n Rt.enT)).size = (Rt.unl ls).size + n * 4
  | 0 => by simp
  | n + 1 => by
    rw [List.replicate_succ', ← List.append_assoc, unl_size, unl_rep ls n]
    have : Rt.enT.size = 3 := rfl
    omega
theorem MakS.len {w : World} {M : Nat} {ls : List ByteArray} {o : List Int} {ov : Value} (h : MakS w M ls o ov) : lenAt w M = o.length := by
  have c1 := cell_of_block h.block 1 (by simp)
  simp at c1
  obtain ⟨ad, cap, rfl⟩ := ownsRow_form h.own
  unfold lenAt
  rw [c1]

set_option maxHeartbeats 4000000 in
set_option maxRecDepth 100000 in
theorem body_any (w : World) (M B : Nat) (ls : List ByteArray) (ov : Value) (cv vv : Value) (code : List Int) (vars : List ByteArray) (h : MakS w M ls [] ov) (hsz : (Rt.unl ls).size ≤ 500000)
    (hc : IntsR w M cv code) (hv : w.ownsRow B 9 1 vv vars.length (vars.map Value.string)) (hvs : ∀ s ∈ vars, s.size ≤ 8) (hv0 : 0 < vars.length) (hv9 : vars.length ≤ 9) :
    Calls Tryz.prog 33 #[.pointer (some ⟨M, 0, none⟩), cv, vv] w (MakP M (ls ++ Rt.bodyL vars code) [] w) := by
  obtain ⟨ad, cap, rfl, hcap, hmax, hrng, hcells⟩ := hc
  obtain ⟨vad, vcap, rfl⟩ := ownsRow_form hv
  go_enter Tryz.func33, Tryz.ntmps33
  go_wp2_with fail
  go_loopw [6, 7, 8, 9, 10] (fun i _ _ _ _ wr => ∃ (k : Nat) (ls' : List ByteArray) (o : List Int) (ov' : Value), k ≤ code.length ∧ k ≤ 14 ∧ i = .int .i64 k ∧ ls' = ls ++ (Rt.bodyE vars (code.take k) []).1 ∧ o = (Rt.bodyE vars (code.take k) []).2 ∧ (Rt.unl ls').size ≤ 500000 + k * 300 ∧ o.length ≤ k ∧ MakS wr M ls' o ov' ∧ MFr M w wr ∧ wr.ownsRow B 9 1 (.slice vad vars.length vcap) vars.length (vars.map Value.string))
    (fun i _ _ _ _ _ => 20 - (intOf i).toNat)
  case atStart => exact ⟨0, ls, [], ov, by omega, by omega, rfl, by simp [Rt.bodyE], by simp [Rt.bodyE], by omega, by simp, h, MFr.refl _ _, hv⟩
  case round =>
    clear h hv
    obtain ⟨k, ls', o, ov', hk, hk14, rfl, hls, ho, hsz', hol, hm, hf, hv⟩ := hrel
    have hcells' := IntsR.kept (B := M) ⟨ad, cap, rfl, hcap, hmax, hrng, hcells⟩ hf.cell hf.size
    clear hcells
    by_cases hgo : k < code.length ∧ k < 14
    · obtain ⟨hk1, hk2⟩ := hgo
      have hk1' : (k : Int) < (code.length : Int) := by omega
      have hk2' : (k : Int) < 14 := by omega
      have hk0 : (0 : Int) ≤ (k : Int) := by omega
      have hx := hrng code[k] (List.getElem_mem hk1)
      have hcell : ∃ b off, ad = some ⟨b, off, none⟩ ∧ wr.cell? ⟨b, off + k, none⟩ = some (.int .i64 code[k]) := by
        obtain ⟨ad', cap', e, _, _, _, h5⟩ := hcells'
        injection e with e1 _ _
        subst e1
        rcases h5 with h5 | ⟨b, off, h6, _, _, h9⟩
        · rw [h5] at hk1; simp at hk1
        · exact ⟨b, off, h6, h9 k hk1⟩
      obtain ⟨b, off, rfl, hcell⟩ := hcell
      have HT := hide (show code.take (k + 1) = code.take k ++ [code[k]] by rw [List.take_add_one, List.getElem?_eq_getElem hk1]; rfl)
      have HC := hide hrng
      have HV0 := hide hv0
      have HS := hide (And.intro hls (And.intro ho (And.intro hsz' hol)))
      have HM := hide (And.intro hm (And.intro hf hv))
      clear hrng hls ho hsz' hol hm hf hv hcells'
      generalize HX : code[k] = c at *
      replace HX := hide HX
      go_wp2_with fail
      refine (pick_any _ c 1099511627776 hx.1 hx.2 (by omega) (by omega)).mono ?_
      rintro e w1 ⟨rfl, rfl⟩
      have hp0 : 0 ≤ Rt.pickP c 1099511627776 := Int.emod_nonneg _ (by decide)
      have hp1 : Rt.pickP c 1099511627776 < 1099511627776 := Int.emod_lt_of_pos _ (by decide)
      generalize HV : Rt.pickP c 1099511627776 = v at *
      replace HV := hide HV
      have hvl : (0 : Int) < (vars.length : Int) := by have := unhide HV0; omega
      have e0 : ((vars.length : Int) == 0) = false := by have := unhide HV0; rw [beq_eq_false_iff_ne]; omega
      obtain ⟨ia, qa⟩ := Int.eq_ofNat_of_zero_le (Int.emod_nonneg (v / 12) (show (vars.length : Int) ≠ 0 by omega))
      obtain ⟨ib, qb⟩ := Int.eq_ofNat_of_zero_le (Int.emod_nonneg (v / 60) (show (vars.length : Int) ≠ 0 by omega))
      have qa1 : (ia : Int) < (vars.length : Int) := by rw [← qa]; exact Int.emod_lt_of_pos _ hvl
      have qb1 : (ib : Int) < (vars.length : Int) := by rw [← qb]; exact Int.emod_lt_of_pos _ hvl
      have qa0 : (0 : Int) ≤ (ia : Int) := by omega
      have qb0 : (0 : Int) ≤ (ib : Int) := by omega
      have hla : ia < vars.length := by omega
      have hlb : ib < vars.length := by omega
      obtain ⟨g, gcap, hgv, _, _, ca⟩ := own_cell (unhide HM).2.2 (j := ia) (u := .string vars[ia]) (by simp [hla])
      obtain ⟨g', gcap', hgv', _, _, cb⟩ := own_cell (unhide HM).2.2 (j := ib) (u := .string vars[ib]) (by simp [hlb])
      injection hgv with hgv1 _ hgv2
      injection hgv' with hgv1' _ hgv2'
      subst hgv1 hgv2
      injection hgv1' with hgv1'
      injection hgv1' with hgv1'
      subst hgv1'
      clear hgv2'
      have sa := hvs vars[ia] (List.getElem_mem hla)
      have sb := hvs vars[ib] (List.getElem_mem hlb)
      have HA := hide (show Rt.varE vars (v / 12 % vars.length) = vars[ia] by unfold Rt.varE; rw [qa]; simp [hla])
      have HB := hide (show Rt.varE vars (v / 60 % vars.length) = vars[ib] by unfold Rt.varE; rw [qb]; simp [hlb])
      generalize vars[ia] = sA at *
      generalize vars[ib] = sB at *
      have hd0 : 0 ≤ v / 300 % 10 := Int.emod_nonneg _ (by decide)
      have hd1 : v / 300 % 10 < 10 := Int.emod_lt_of_pos _ (by decide)
      have hr0 : 0 ≤ v % 12 := Int.emod_nonneg _ (by decide)
      have hr1 : v % 12 < 12 := Int.emod_lt_of_pos _ (by decide)
      go_wp2_with fail
      refine (itoa_any _ (v / 300 % 10) hd0 hd1).mono ?_
      rintro e w2 ⟨rfl, hb2⟩
      obtain ⟨hls, ho, hsz', hol⟩ := unhide HS
      obtain ⟨hm, hf, hv⟩ := unhide HM
      have hm2 := hm.later hb2
      have hf2 := hf.trans (MFr.of_below hb2)
      have hv2 := own_later hv hb2
      have hdz : (Rt.digitT (v / 300 % 10)).size ≤ 8 := by show 1 ≤ 8; omega
      have HN := hide (show Rt.bodyE vars (code.take (k + 1)) [] = ((Rt.bodyE vars (code.take k) []).1 ++ (Rt.stepE vars c o).1, (Rt.stepE vars c o).2) by rw [unhide HT, Rt.bodyE_snoc, ← ho])
      generalize HDG : Rt.digitT (v / 300 % 10) = dg at *
      replace HDG := hide HDG
      by_cases h8 : v % 12 < 8
      · have HSt := hide (show Rt.stepE vars c o = ([Rt.plainE (v % 12) sA sB dg], o) by unfold Rt.stepE; simp only [unhide HV, unhide HA, unhide HB, unhide HDG]; rw [if_pos h8])
        have hgr := Rt.plain_grow ls' (v % 12) sA sB dg sa sb hdz
        clear hm hf hv hb2
        have HM2 := hide (And.intro hm2 (And.intro hf2 hv2))
        clear hm2 hf2 hv2
        go_wp2_with fail
        refine (plain_any _ M ls' o ov' (v % 12) sA sB dg (unhide HM2).1 sa sb hdz (by omega) hr0 h8).mono ?_
        rintro e w3 ⟨rfl, ⟨ov3, hm3⟩, hf3⟩
        have HM3 := hide (And.intro hm3 (And.intro ((unhide HM2).2.1.trans hf3) (hf3.row (by decide) ((unhide HM2).1.row (unhide HM2).2.2 (by decide)) (unhide HM2).2.2)))
        clear hm3 hf3
        go_wp2_with fail
        go_roundw
        case rel =>
          obtain ⟨q1, q2, q3⟩ := unhide HM3
          refine ⟨k + 1, ls' ++ [Rt.plainE (v % 12) sA sB dg], o, ov3, by omega, by omega, by go_num, ?_, ?_, by omega, by omega, q1, q2, q3⟩
          · rw [unhide HN, unhide HSt, hls, List.append_assoc]
          · rw [unhide HN, unhide HSt]
        case measure => simp [intOf]; omega
      · have hr8 : 0 ≤ v % 12 - 8 := by omega
        have hr9 : v % 12 - 8 < 4 := by omega
        have HSt := hide (show Rt.stepE vars c o = Rt.blockE o (v % 12 - 8) sA dg by unfold Rt.stepE; simp only [unhide HV, unhide HA, unhide HB, unhide HDG]; rw [if_neg h8])
        have hgr := Rt.block_grow ls' o (v % 12 - 8) sA dg sa hdz
        clear hm hf hv hb2
        have HM2 := hide (And.intro hm2 (And.intro hf2 hv2))
        clear hm2 hf2 hv2
        go_wp2_with fail
        refine (block_any _ M ls' o ov' (v % 12 - 8) sA dg (unhide HM2).1 sa hdz (by omega) (by omega) hr8 hr9).mono ?_
        rintro e w3 ⟨rfl, ⟨ov3, hm3⟩, hf3⟩
        have HM3 := hide (And.intro hm3 (And.intro ((unhide HM2).2.1.trans hf3) (hf3.row (by decide) ((unhide HM2).1.row (unhide HM2).2.2 (by decide)) (unhide HM2).2.2)))
        clear hm3 hf3
        go_wp2_with fail
        go_roundw
        case rel =>
          obtain ⟨q1, q2, q3⟩ := unhide HM3
          refine ⟨k + 1, ls' ++ (Rt.blockE o (v % 12 - 8) sA dg).1, (Rt.blockE o (v % 12 - 8) sA dg).2, ov3, by omega, by omega, by go_num, ?_, ?_, by omega, by omega, q1, q2, q3⟩
          · rw [unhide HN, unhide HSt, hls, List.append_assoc]
          · rw [unhide HN, unhide HSt]
        case measure => simp [intOf]; omega
    · have HB : Hid (Rt.bodyE vars (code.take 14) [] = Rt.bodyE vars (code.take k) []) := by
        refine hide ?_
        by_cases hkl : k < code.length
        · rw [show k = 14 by omega]
        · rw [List.take_of_length_le (by omega), List.take_of_length_le (by omega)]
      have HL := hide hls
      have HO := hide ho
      have HM := hide (And.intro hm hf)
      have hgo1 : (k : Int) < (code.length : Int) → ¬ (k : Int) < 14 := by omega
      clear hm hf hv hls ho hcells' hrng hgo
      have hol14 : o.length ≤ 14 := by omega
      have hszz : (Rt.unl ls').size ≤ 600000 := by omega
      rcases Int.lt_or_le (k : Int) (code.length : Int) with hkl | hkl
      all_goals
        have hk2 := hgo1
        clear hgo1 hsz' hol
        first | (have hk3 := hk2 hkl; clear hk2) | clear hk2
        go_wp2_with fail
        go_loopw [] (fun wr => ∃ (n : Nat) (o2 : List Int) (ov2 : Value), o2.length + n = o.length ∧ MakS wr M (ls' ++ List.replicate n Rt.enT) o2 ov2 ∧ MFr M w wr) (fun wr => lenAt wr M)
        case atStart => exact ⟨0, o, ov', by omega, by simpa using (unhide HM).1, (unhide HM).2⟩
        case round =>
          obtain ⟨n, o2, ov2, hn, hm2, hf2⟩ := hrel
          have hlm := hm2.len
          have c1 := cell_of_block hm2.block 1 (by simp)
          have f1 := free_of_block hm2.block 1
          simp at c1
          have hus := unl_rep ls' n
          rcases ints_dec o2 with rfl | ⟨pre, x, rfl⟩
          · have HM2 := hide hm2
            have HF2 := hide hf2
            obtain ⟨ad2, cap2, rfl⟩ := ownsRow_form hm2.own
            simp only [List.length_nil] at c1
            clear hm2 hf2 hlm
            go_wp2_with fail
            refine (mline_any _ M _ [] _ ⟨#[101, 110, 100]⟩ (unhide HM2) (by show _ + 3 ≤ _; simp at hn; omega)).mono ?_
            rintro e w5 ⟨rfl, hm5, hf5⟩
            have HM5 := hide (And.intro hm5 ((unhide HF2).trans hf5))
            clear hm5 hf5
            go_wp2_with fail
            go_end0
            have hq := (unhide HM5).1
            have e1 : ls ++ Rt.bodyL vars code = ls' ++ List.replicate n Rt.enT ++ [⟨#[101, 110, 100]⟩] := by
              unfold Rt.bodyL
              rw [unhide HB, ← unhide HO, unhide HL]
              simp only [List.length_nil, Nat.zero_add] at hn
              rw [hn, List.replicate_succ']
              simp [Rt.enT]
            rw [← e1] at hq
            exact ⟨rfl, ⟨_, hq⟩, (unhide HM5).2⟩
          · have hlen' : pre.length + 1 ≤ 1000 := by simp at hn; omega
            have HM2 := hide hm2
            have HF2 := hide hf2
            obtain ⟨g2, cap2, rfl, hg2, d2⟩ := hm2.last
            have hz : (0 : Int) < (pre.length : Int) + 1 := by omega
            have hnn : n ≤ 14 := by omega
            clear hm2 hf2 d2
            go_wp2_with fail
            refine (mline_any _ M _ (pre ++ [x]) _ ⟨#[101, 110, 100]⟩ (unhide HM2) (by show _ + 3 ≤ _; omega)).mono ?_
            rintro e w5 ⟨rfl, hm5, hf5⟩
            have HR := hide ((unhide HF2).trans hf5)
            have c5 := cell_of_block hm5.block 1 (by simp)
            have f5 := free_of_block hm5.block 1
            simp at c5
            have hown := hm5.own
            simp only [List.length_append, List.length_cons, List.length_nil, Nat.zero_add] at hown
            have hcap : pre.length + 1 ≤ cap2 := by
              rcases hown.2 with ⟨h', _⟩ | ⟨g', cap', cur, h', _, _, hn, _⟩
              · cases h'
              · simp at h'; omega
            have hpop : w5.ownsRow (M + 1) 3 1 (.slice (some ⟨g2, 0, none⟩) pre.length cap2) pre.length (pre.map (Value.int .i64)) := by
              rw [List.map_append] at hown
              exact ownsRow_pop (by simp) hown
            have HF := hide (hm5.put (o' := pre) (mdrewN w5 1) (mgrown_refl _ _) hpop)
            have HE := hide (show (ls' ++ List.replicate n Rt.enT) ++ [⟨#[101, 110, 100]⟩] = ls' ++ List.replicate (n + 1) Rt.enT by rw [List.replicate_succ', List.append_assoc]; rfl)
            have hnl : pre.length + (n + 1) = o.length := by simp at hn; omega
            have HNL := hide hnl
            have hlm' : lenAt wr M = pre.length + 1 := by simpa using hlm
            have HLM := hide hlm'
            clear hm5 hown hpop hf5 hn hnl hlm hlm'
            generalize HPL : pre.length = m at *
            replace HPL := hide HPL
            have hm0 : (0 : Int) ≤ (m : Int) := by omega
            have hm1 : (m : Int) < (m : Int) + 1 := by omega
            have hm2 : (m : Int) ≤ 1000 := by omega
            have hm3 := kwrapm1 m hlen'
            have hm4 := kwrapm0 m hlen'
            have hm6 : (m : Int) ≤ (cap2 : Int) := by omega
            go_wp2_with fail
            go_region_law (fail)
            all_goals
              go_wp2_with fail
              go_roundw
              case rel =>
                obtain ⟨q1, q2⟩ := unhide HF
                rw [unhide HE] at q1
                exact ⟨n + 1, pre, _, by rw [unhide HPL]; exact unhide HNL, q1, (unhide HR).trans q2⟩
              case measure =>
                have hq := (unhide HF).1.len
                rw [unhide HPL] at hq
                rw [unhide HLM]
                exact Nat.lt_of_le_of_lt (Nat.le_of_eq hq) (by omega)
end Go.Proofs.YtbpajiljfppjcaaGreatDoor

