/- The program within a machine: Otherwise, GoOn, First. -/
import Derived.Test.YtnjhgcanglkfiaaMcF
namespace Go.Proofs.Ytnjhgcanglkfiaa
open Go.RowKit
attribute [local go_sem ↓] Go.wp_at_zero Go.wp_at_succ

set_option maxHeartbeats 1000000 in
theorem otherwise_any (w : World) (P B : Nat) (pls : List Rt.PL) (lk : Rt.Lks) (lv : Value) (cs : List (List Value)) (n : Int) (h : ProgM w P B pls lk lv cs) :
    Calls Try.prog 48 #[.pointer (some ⟨P, 0, none⟩), .int .i64 n] w fun e w' => e = .returned (.int .i64 (Rt.otherwise lk n)) ∧ Below w.heap.size w w' := by
  go_enter Try.func48, Try.ntmps48
  go_wp2_with fail
  refine (Line_m _ _ _ _ _ _ _ n h).mono ?_
  rintro e w1 ⟨a0, a1, a2, a3, k0, k1, k2, k3, rfl, _, _, hb⟩
  have HO := hide (show Rt.otherwise lk n = if 0 < (Rt.lkAt lk n).1 then wrap64 ((Rt.lkAt lk n).1 + 1) else wrap64 ((Rt.lkAt lk n).2 + 1) from rfl)
  generalize (Rt.lkAt lk n).1 = xe at *
  generalize (Rt.lkAt lk n).2 = xf at *
  generalize Rt.lineAtP pls n = pl at *
  have hbF := hb.alloc hb.size (.cells #[.slice a0 pl.toks.length k0, .int .i64 pl.form.kind, .string pl.form.name, .int .i64 pl.form.cells, .slice a1 pl.form.params.length k1, .slice a2 pl.form.index.length k2, .slice a3 pl.form.values.length k3, .int .i64 pl.depth, .int .i64 pl.opener, .int .i64 xe, .int .i64 xf, .int .i64 pl.proc] 60)
  have HB := hide hbF
  clear h hb hbF
  by_cases hx : 0 < xe
  · have HE := hide ((unhide HO).trans (if_pos hx))
    clear HO
    go_wp2_with fail
    go_ret
    exact ⟨by rw [unhide HE]; rfl, unhide HB⟩
  · have HE := hide ((unhide HO).trans (if_neg hx))
    clear HO
    go_wp2_with fail
    go_ret
    exact ⟨by rw [unhide HE]; rfl, unhide HB⟩

/-- The end of an else's block lies behind the else. -/
def LkFwd (pls : List Rt.PL) (lk : Rt.Lks) : Prop := ∀ (n : Nat) (p : Rt.PL), pls[n]? = some p → p.form.kind = 6 → (n : Int) ≤ (Rt.lkAt lk p.opener).2 ∧ (Rt.lkAt lk p.opener).2 ≤ 200
namespace Rt
/-- More fuel than lines changes nothing. -/
theorem goOn_step (pls : List PL) (lk : Lks) (f : Nat) (n : Int) : goOn pls lk (f + 1) n = if 0 < n ∧ n < pls.length then (if isStopP pls (lnAt pls n) = true then n else if (lnAt pls n).form.kind = 4 ∧ (formAt pls (lnAt pls n).opener).kind = 7 then (lnAt pls n).opener else if (lnAt pls n).form.kind = 6 then goOn pls lk f (wrap64 ((lkAt lk (lnAt pls n).opener).2 + 1)) else goOn pls lk f (wrap64 (n + 1))) else 0 := rfl
end Rt
set_option maxHeartbeats 2000000 in
set_option maxRecDepth 100000 in
theorem goOn_any (w : World) (P B : Nat) (pls : List Rt.PL) (lk : Rt.Lks) (lv : Value) (cs : List (List Value)) (n : Int) (h : ProgM w P B pls lk lv cs) (hlen : pls.length ≤ 101) (hfw : LkFwd pls lk) (hn : -9223372036854775808 ≤ n ∧ n ≤ 9223372036854775807) :
    Calls Try.prog 19 #[.pointer (some ⟨P, 0, none⟩), .int .i64 n] w fun e w' => e = .returned (.int .i64 (Rt.goOn pls lk 102 n)) ∧ Below w.heap.size w w' := by
  obtain ⟨ad, cap, hlv, cP⟩ := h.lvForm
  have HH := hide h
  have HFW := hide hfw
  clear h hfw
  go_enter Try.func19, Try.ntmps19
  go_wp2_with fail
  go_loopw [1, 5, 6] (fun i _ _ wr => ∃ (j : Int) (f : Nat), i = .int .i64 j ∧ -9223372036854775808 ≤ j ∧ j ≤ 9223372036854775807 ∧ (pls.length : Int) < f + max j 0 + 1 ∧ Rt.goOn pls lk f j = Rt.goOn pls lk 102 n ∧ Below w.heap.size w wr)
    (fun i _ _ _ => (pls.length + 1 - max (intOf i) 0).toNat)
  case atStart => exact ⟨n, 102, rfl, hn.1, hn.2, by omega, rfl, Below.refl _ _⟩
  case round =>
    obtain ⟨j, f, rfl, hj1, hj2, hf, hT, hbe⟩ := hrel
    have hpr := (unhide HH).later hbe
    have cP' := cell_later hbe cP
    have HT := hide hT
    have HF := hide hf
    clear hT hf cP
    by_cases hin : 0 < j ∧ j < pls.length
    · obtain ⟨k, rfl⟩ := Int.eq_ofNat_of_zero_le (show 0 ≤ j by omega)
      have hlt : k < pls.length := by omega
      have hlt' : (k : Int) < (pls.length : Int) := by omega
      have hk0 : (0 : Int) < (k : Int) := hin.1
      have hk0' : (0 : Int) ≤ (k : Int) := by omega
      obtain ⟨f', rfl⟩ : ∃ f', f = f' + 1 := ⟨f - 1, by have := unhide HF; omega⟩
      obtain ⟨g, cap', a0, a1, a2, a3, e0, e1, e2, e3, xe, xf, hlv', hglt, ⟨d0, d1, d2, d3, d4, d5, d6, d7, d8, d9, d10, d11⟩, _, _⟩ := hpr.at hlt
      have hlv2 := hlv.symm.trans hlv'
      injection hlv2 with e1 _ e2
      subst e1 e2
      have HST := hide ((unhide HT).symm.trans (Rt.goOn_step pls lk f' k))
      have hln : Rt.lnAt pls (k : Int) = pls[k] := Rt.lineAtP_in hlt
      rw [hln, if_pos hin] at HST
      have hfwk := unhide HFW k pls[k] (List.getElem?_eq_getElem hlt)

      clear hlv' hln hin HT
      have HPI : Hid (Rt.lineAtP pls (k : Int) = pls[k]) := hide (Rt.lineAtP_in hlt)
      generalize pls[k] = p at *
      have hbA := (Below.refl wr.heap.size wr).alloc (Nat.le_refl _) (.cells #[.slice a0 p.toks.length e0, .int .i64 p.form.kind, .string p.form.name, .int .i64 p.form.cells, .slice a1 p.form.params.length e1, .slice a2 p.form.index.length e2, .slice a3 p.form.values.length e3, .int .i64 p.depth, .int .i64 p.opener, .int .i64 xe, .int .i64 xf, .int .i64 p.proc] 60)
      have bA := heap_alloc_new wr (.cells #[.slice a0 p.toks.length e0, .int .i64 p.form.kind, .string p.form.name, .int .i64 p.form.cells, .slice a1 p.form.params.length e1, .slice a2 p.form.index.length e2, .slice a3 p.form.values.length e3, .int .i64 p.depth, .int .i64 p.opener, .int .i64 xe, .int .i64 xf, .int .i64 p.proc] 60)
      have hprA := hpr.later hbA
      have hbeA := hbe.trans (hbA.mono (B' := w.heap.size) hbe.size)
      clear hpr hbe hbA
      go_wp2_with fail
      refine (isStop_m _ _ _ _ _ _ _ (k : Int) hprA).mono ?_
      rintro e w2 ⟨rfl, hb2⟩
      rw [unhide HPI]
      have hpr2 := hprA.later hb2
      have hbe2 := hbeA.trans (hb2.mono (B' := w.heap.size) hbeA.size)
      have bA2 := block_later bA hb2
      clear hprA hbeA hb2 bA
      cases hst : Rt.isStopP pls p with
      | true =>
        have HE := hide ((unhide HST).trans (if_pos hst))
        have HB := hide hbe2
        clear HST hst hpr2 hbe2 bA2 hfwk
        go_wp2_with fail
        go_ret
        exact ⟨by rw [unhide HE]; rfl, unhide HB⟩
      | false =>
        have HS2 := hide ((unhide HST).trans (if_neg (by rw [hst]; simp)))
        clear HST hst
        have q1 := cell_of_block bA2 1 (by simp)
        have q8 := cell_of_block bA2 8 (by simp)
        simp only [List.getElem_toArray, List.getElem_cons_succ, List.getElem_cons_zero] at q1 q8
        go_wp2_with fail
        refine (Line_m _ _ _ _ _ _ _ p.opener hpr2).mono ?_
        rintro e w3 ⟨b0, b1, b2, b3, f0, f1, f2, f3, rfl, _, _, hb3⟩
        have HFo := hide (Rt.lineAtP_form pls p.opener)
        generalize Rt.lineAtP pls p.opener = po at *
        generalize HLK1 : (Rt.lkAt lk p.opener).1 = ye at *
        generalize HLK2 : (Rt.lkAt lk p.opener).2 = yf at *
        have hb4 := (Below.refl w3.heap.size w3).alloc (Nat.le_refl _) (.cells #[.slice b0 po.toks.length f0, .int .i64 po.form.kind, .string po.form.name, .int .i64 po.form.cells, .slice b1 po.form.params.length f1, .slice b2 po.form.index.length f2, .slice b3 po.form.values.length f3, .int .i64 po.depth, .int .i64 po.opener, .int .i64 ye, .int .i64 yf, .int .i64 po.proc] 60)
        have bB4 := heap_alloc_new w3 (.cells #[.slice b0 po.toks.length f0, .int .i64 po.form.kind, .string po.form.name, .int .i64 po.form.cells, .slice b1 po.form.params.length f1, .slice b2 po.form.index.length f2, .slice b3 po.form.values.length f3, .int .i64 po.depth, .int .i64 po.opener, .int .i64 ye, .int .i64 yf, .int .i64 po.proc] 60)
        have bA4 := block_later (block_later bA2 hb3) hb4
        have r1 := cell_of_block bA4 1 (by simp)
        have r8 := cell_of_block bA4 8 (by simp)
        simp only [List.getElem_toArray, List.getElem_cons_succ, List.getElem_cons_zero] at r1 r8
        have hbe4 := (hbe2.trans (hb3.mono (B' := w.heap.size) hbe2.size)).trans (hb4.mono (B' := w.heap.size) (by have := hbe2.size; have := hb3.size; omega))
        have HB := hide hbe4
        have hLne : ¬ wr.heap.size = w3.heap.size := by have := block_lt (block_later bA2 hb3); omega
        clear hpr2 hbe2 bA2 hb3 hb4 bB4 bA4 hbe4 q1 q8
        generalize p.opener = op at *
        generalize p.form.kind = kx at *
        have HKO := hide (show (Rt.formAt pls op).kind = po.form.kind by rw [unhide HFo])
        rw [unhide HKO] at HS2
        generalize po.form.kind = ko at *
        by_cases h4 : kx = 4
        · subst h4
          by_cases h7 : ko = 7
          · subst h7
            have HE := hide ((unhide HS2).trans (if_pos ⟨rfl, rfl⟩))
            clear HS2 hfwk
            go_wp2_with fail
            go_ret
            exact ⟨by rw [unhide HE]; rfl, unhide HB⟩
          · have b7 : (ko == 7) = false := by rw [beq_eq_false_iff_ne]; exact h7
            have HE := hide (((unhide HS2).trans (if_neg (fun e => h7 e.2))).trans (if_neg (by omega)))
            have hwk : IntKind.i64.wrap ((k : Int) + 1) = (k : Int) + 1 := by rw [IntWalk.i64_left, IntWalk.wrap64_in _ (by omega)]
            clear HS2 hfwk h7
            go_wp2_with fail
            go_roundw
            case rel =>
              have hf := unhide HF
              refine ⟨(k : Int) + 1, f', by go_num, by omega, by omega, by omega, ?_, unhide HB⟩
              have := unhide HE
              rw [IntWalk.wrap64_in _ (by omega)] at this
              exact this.symm
            case measure => simp [intOf]; omega
        · have b4 : (kx == 4) = false := by rw [beq_eq_false_iff_ne]; exact h4
          by_cases h6 : kx = 6
          · subst h6
            have hfw2 := hfwk rfl
            have HE := hide (((unhide HS2).trans (if_neg (fun e => h4 e.1))).trans (if_pos rfl))
            have hwk : IntKind.i64.wrap (yf + 1) = yf + 1 := by rw [IntWalk.i64_left, IntWalk.wrap64_in _ (by omega)]
            clear HS2 hfwk
            go_wp2_with fail
            go_roundw
            case rel =>
              have hf := unhide HF
              refine ⟨yf + 1, f', by go_num, by omega, by omega, by omega, ?_, unhide HB⟩
              have := unhide HE
              rw [IntWalk.wrap64_in _ (by omega)] at this
              exact this.symm
            case measure => simp [intOf]; omega
          · have b6 : (kx == 6) = false := by rw [beq_eq_false_iff_ne]; exact h6
            have HE := hide (((unhide HS2).trans (if_neg (fun e => h4 e.1))).trans (if_neg h6))
            have hwk : IntKind.i64.wrap ((k : Int) + 1) = (k : Int) + 1 := by rw [IntWalk.i64_left, IntWalk.wrap64_in _ (by omega)]
            clear HS2 hfwk h4 h6
            go_wp2_with fail
            go_roundw
            case rel =>
              have hf := unhide HF
              refine ⟨(k : Int) + 1, f', by go_num, by omega, by omega, by omega, ?_, unhide HB⟩
              have := unhide HE
              rw [IntWalk.wrap64_in _ (by omega)] at this
              exact this.symm
            case measure => simp [intOf]; omega
    · have HE : Hid (Rt.goOn pls lk 102 n = 0) := by
        refine hide ?_
        rw [← unhide HT]
        cases f with
        | zero => rfl
        | succ f => rw [Rt.goOn_step, if_neg hin]
      have HB := hide hbe
      clear hpr hbe HT HF
      by_cases hj : 0 < j
      · have hj' : ¬ j < (pls.length : Int) := fun e => hin ⟨hj, e⟩
        clear hin
        go_wp2_with fail
        go_ret
        exact ⟨by rw [unhide HE]; rfl, unhide HB⟩
      · clear hin
        go_wp2_with fail
        go_ret
        exact ⟨by rw [unhide HE]; rfl, unhide HB⟩
end Go.Proofs.Ytnjhgcanglkfiaa

