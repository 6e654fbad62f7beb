/- The program within a machine: Otherwise, GoOn, First. -/
import Derived.Test.YtbpajiljfppjcaaGreatMcE
namespace Go.Proofs.YtbpajiljfppjcaaGreat
open Go.RowKit
attribute [local go_sem ↓] Go.wp_at_zero Go.wp_at_succ

theorem work_any (w0 w : World) (M B : Nat) (ty : TypeId) (tail : List Value) (S : Rt.Src) (m : Rt.Mc) (X : McX) (K : Nat) (st : List Int) (sv : Value) (o : Pop) (h0 : McS w0 M B ty tail S m X) (hm : Mok S m) (hb : Below w0.heap.size w0 w) (hK : w0.heap.size ≤ K) (hs : StkS w K st sv) (hlen : st.length ≤ 1000) :
    Calls Tryz.prog 92 #[.pointer (some ⟨M, 0, none⟩), .pointer (some ⟨K, 0, none⟩), .agg #[.int .i64 o.code, .int .i64 o.number, .string o.name]] w (WorkP K (Rt.workI S m st o) w) := by
  obtain ⟨code, number, name⟩ := o
  by_cases h1 : code = 1
  · subst h1
    exact work_const w0 w M B ty tail S m X K st sv number name h0 hm hb hK hs hlen
  by_cases h2 : code = 2
  · subst h2
    exact work_load w0 w M B ty tail S m X K st sv number name h0 hm hb hK hs hlen
  by_cases h3 : code = 3
  · subst h3
    exact work_cell w0 w M B ty tail S m X K st sv number name h0 hm hb hK hs hlen _ rfl
  by_cases h4 : code = 4
  · subst h4
    exact work_neg w0 w M B ty tail S m X K st sv number name h0 hm hb hK hs hlen
  refine work_two w0 w M B ty tail S m X K st sv code number name h0 hm hb hK hs hlen h1 h2 h3 h4 _ ?_
  unfold Rt.workI
  simp only
  rw [if_neg h1, if_neg h2, if_neg h3, if_neg h4]
theorem workI_len (S : Rt.Src) (m : Rt.Mc) (st : List Int) (o : Pop) : (Rt.workI S m st o).1.length ≤ st.length + 1 := by
  unfold Rt.workI
  split
  · simp
  · split
    · simp
    · split
      · split <;> simp <;> omega
      · split
        · simp <;> omega
        · simp only
          split <;> simp <;> omega

set_option maxHeartbeats 2000000 in
set_option maxRecDepth 100000 in
theorem evaluate_any (w : World) (M B : Nat) (ty : TypeId) (tail : List Value) (S : Rt.Src) (m : Rt.Mc) (X : McX) (BB : Nat) (ad : Option Addr) (cap : Nat) (ops : List Pop) (h : McS w M B ty tail S m X) (hm : Mok S m) (hx : w.ownsRow BB 141 3 (.slice ad ops.length cap) ops.length (popsCells ops)) (hops : ops.length ≤ 900) :
    Calls Tryz.prog 78 #[.pointer (some ⟨M, 0, none⟩), .agg #[.slice ad ops.length cap]] w fun e w' => e = .returned (.tuple #[.int .i64 (Rt.evalE S m ops).1, .int .i64 (Rt.evalE S m ops).2]) ∧ Below w.heap.size w w' := by
  have hb0 := ((Below.refl w.heap.size w).alloc (Nat.le_refl _) (.cells #[.slice ad ops.length cap] 74)).alloc (by simp) (.cells #[.slice none 0 0] 137)
  have bE := block_alloc (heap_alloc_new w (.cells #[.slice ad ops.length cap] 74)) (.cells #[.slice none 0 0] 137)
  have bK := alloc2_plain w (.cells #[.slice ad ops.length cap] 74) (.cells #[.slice none 0 0] 137)
  have hs0 : StkS ((w.alloc (.cells #[.slice ad ops.length cap] 74)).alloc (.cells #[.slice none 0 0] 137)) (w.heap.size + 1) [] (.slice none 0 0) := ⟨bK, World.ownsRow_nil _ _ _ _⟩
  have HH := hide (And.intro h hx)
  clear h hx
  go_enter Tryz.func78, Tryz.ntmps78
  go_wp2_with fail
  go_loopw [7, 8] (fun i _ wr => ∃ (k : Nat) (st : List Int) (sv : Value), k ≤ ops.length ∧ i = .int .i64 k ∧ st.length ≤ k ∧ Rt.evalI S m (ops.drop k) st = Rt.evalE S m ops ∧ StkS wr (w.heap.size + 1) st sv ∧ wr.heap[w.heap.size]? = some (.cells #[.slice ad ops.length cap] 74 (0, 0)) ∧ Below w.heap.size w wr)
    (fun i _ _ => ops.length - (intOf i).toNat)
  case atStart => exact ⟨0, [], _, Nat.zero_le _, rfl, by simp, rfl, hs0, bE, hb0⟩
  case round =>
    clear hs0 bE hb0 bK
    obtain ⟨k, st, sv, hk, rfl, hst, hT, hs, hE, hbe⟩ := hrel
    have cE := cell_of_block hE 0 (by simp)
    simp at cE
    have hElt := block_lt hE
    have HT := hide hT
    clear hT
    by_cases hlt : k < ops.length
    · obtain ⟨g, hg, o0, o1, o2⟩ := own_three (own_later (unhide HH).2 hbe) hlt
      subst hg
      have hlt' : (k : Int) < (ops.length : Int) := by omega
      have hk0 : (0 : Int) ≤ (k : Int) := by omega
      have HN := hide (show Rt.evalE S m ops = if (Rt.workI S m st ops[k]).2 = 0 then Rt.evalI S m (ops.drop (k + 1)) (Rt.workI S m st ops[k]).1 else (0, (Rt.workI S m st ops[k]).2) by rw [← unhide HT, List.drop_eq_getElem_cons hlt, Rt.evalI])
      have hwl := workI_len S m st ops[k]
      have HW := hide (work_any w wr M B ty tail S m X (w.heap.size + 1) st sv ops[k] (unhide HH).1 hm hbe (by omega) hs (by omega))
      have HX := hide (And.intro hs (And.intro hE hbe))
      clear hs hE hbe HT
      generalize Rt.workI S m st ops[k] = y at *
      generalize ops[k] = o at *
      go_wp2_with fail
      refine (unhide HW).mono ?_
      rintro e w2 ⟨rfl, ⟨sv2, hs2⟩, hb2⟩
      obtain ⟨hs, hE, hbe⟩ := unhide HX
      have hE2 : w2.heap[w.heap.size]? = some (.cells #[.slice (some ⟨g, 0, none⟩) ops.length cap] 74 (0, 0)) := by rw [hb2.block w.heap.size (by omega)]; exact hE
      have hbe2 := hbe.trans (hb2.mono (B' := w.heap.size) (by omega))
      have HF := hide (And.intro hs2 (And.intro hE2 hbe2))
      clear hs2 hb2 hs hE hbe hE2 hbe2 HW HX
      obtain ⟨st2, tr⟩ := y
      simp only at HN hwl HF ⊢
      by_cases htr : tr = 0
      · subst htr
        have HN2 := hide ((unhide HN).trans (if_pos rfl))
        clear HN
        go_wp2_with fail
        go_roundw
        case rel =>
          obtain ⟨q1, q2, q3⟩ := unhide HF
          exact ⟨k + 1, st2, _, by omega, by go_num, by omega, (unhide HN2).symm, q1, q2, q3⟩
        case measure => simp [intOf]; omega
      · have HN2 := hide ((unhide HN).trans (if_neg htr))
        have btr : (tr != 0) = true := by simpa using htr
        clear HN htr
        go_wp2_with fail
        go_ret2
        exact ⟨by rw [unhide HN2]; rfl, (unhide HF).2.2⟩
    · have hlt' : ¬ (k : Int) < (ops.length : Int) := by omega
      have HN := hide (show Rt.evalE S m ops = (st.getLastD 0, 0) by rw [← unhide HT, List.drop_eq_nil_of_le (by omega), Rt.evalI])
      have HB := hide hbe
      clear HT hE hbe
      go_wp2_with fail
      refine (pop_any _ _ st sv hs (by omega)).mono ?_
      rintro e w2 ⟨rfl, _, hf2⟩
      have HF := hide ((unhide HB).trans ((hf2.below hs).mono (B' := w.heap.size) (by omega)))
      clear hf2 hs
      generalize st.getLastD 0 = gv at *
      go_wp2_with fail
      go_ret2
      exact ⟨by rw [unhide HN]; rfl, unhide HF⟩

set_option maxHeartbeats 1000000 in
theorem value_any (w : World) (M B : Nat) (ty : TypeId) (tail : List Value) (S : Rt.Src) (m : Rt.Mc) (X : McX) (BB : Nat) (fm : Rt.PForm) (a1 a2 a3 : Option Addr) (c1 c2 c3 : Nat) (h : McS w M B ty tail S m X) (hm : Mok S m) (hf : FormV w BB #[.int .i64 fm.kind, .string fm.name, .int .i64 fm.cells, .slice a1 fm.params.length c1, .slice a2 fm.index.length c2, .slice a3 fm.values.length c3] fm) (hsm : Rt.Small fm) (hops : ∀ o ∈ fm.values, o.length ≤ 900) :
    Calls Tryz.prog 76 #[.pointer (some ⟨M, 0, none⟩), .agg #[.int .i64 fm.kind, .string fm.name, .int .i64 fm.cells, .slice a1 fm.params.length c1, .slice a2 fm.index.length c2, .slice a3 fm.values.length c3]] w fun e w' => e = .returned (.tuple #[.int .i64 (Rt.valueF S m fm).1, .int .i64 (Rt.valueF S m fm).2]) ∧ Below w.heap.size w w' := by
  have _u := hsm
  clear _u
  have hb0 := (Below.refl w.heap.size w).alloc (Nat.le_refl _) (.cells #[.int .i64 fm.kind, .string fm.name, .int .i64 fm.cells, .slice a1 fm.params.length c1, .slice a2 fm.index.length c2, .slice a3 fm.values.length c3] 77)
  have hA := h.later hb0
  obtain ⟨pv, iv, vv, vs, hfe, _, _, b3, b4⟩ := hf
  have hvv : vv = .slice a3 fm.values.length c3 := by simp at hfe; exact hfe.2.2.symm
  subst hvv
  have b3' := own_later b3 hb0
  have bF := heap_alloc_new w (.cells #[.int .i64 fm.kind, .string fm.name, .int .i64 fm.cells, .slice a1 fm.params.length c1, .slice a2 fm.index.length c2, .slice a3 fm.values.length c3] 77)
  clear h hfe
  by_cases h0 : fm.values.length = 0
  · have HE := hide (show Rt.valueF S m fm = (0, 0) by unfold Rt.valueF; rw [List.eq_nil_of_length_eq_zero h0])
    have hz : ((fm.values.length : Int) == 0) = true := by simpa using h0
    have HB := hide hb0
    clear hA b3 b3' b4 bF hb0 hm hsm hops h0
    go_enter Tryz.func76, Tryz.ntmps76
    go_wp2_with fail
    go_ret2
    exact ⟨by rw [unhide HE]; rfl, unhide HB⟩
  · have hz : ((fm.values.length : Int) == 0) = false := by rw [beq_eq_false_iff_ne]; omega
    have hpos : (0 : Int) < (fm.values.length : Int) := by omega
    obtain ⟨o, os, hvs⟩ : ∃ o os, fm.values = o :: os := by
      cases hv : fm.values with
      | nil => rw [hv] at h0; simp at h0
      | cons o os => exact ⟨o, os, rfl⟩
    have HE := hide (show Rt.valueF S m fm = Rt.evalE S m o by unfold Rt.valueF; rw [hvs])
    have hol := hops o (by rw [hvs]; exact List.mem_cons_self ..)
    obtain ⟨x, xs, hx, hxo⟩ : ∃ x xs, vs = x :: xs ∧ w.ownsRow BB 141 3 x o.length (popsCells o) := by
      rw [hvs] at b4
      cases vs with
      | nil => exact b4.elim
      | cons x xs => exact ⟨x, xs, rfl, b4.1⟩
    obtain ⟨xad, xcap, rfl⟩ := ownsRow_form hxo
    subst hx
    obtain ⟨g, gcap, hgv, _, _, ca⟩ := own_cell b3' (j := 0) (u := .slice xad o.length xcap) rfl
    injection hgv with e1 _ e2
    subst e1 e2
    have hxo' := own_later hxo hb0
    have HV := hide (evaluate_any _ M B ty tail S m X BB xad xcap o hA hm hxo' hol)
    have HB := hide hb0
    clear hA b3 b3' b4 hb0 hm hsm hops h0 hxo hxo' hvs
    generalize fm.values.length = vl at *
    go_enter Tryz.func76, Tryz.ntmps76
    go_wp2_with fail
    refine (unhide HV).mono ?_
    rintro e w2 ⟨rfl, hb2⟩
    have HF := hide ((unhide HB).trans (hb2.mono (B' := w.heap.size) (by simp)))
    clear hb2 HV HB
    generalize Rt.evalE S m o = y at *
    obtain ⟨y1, y2⟩ := y
    go_wp2_with fail
    go_ret2
    exact ⟨by rw [unhide HE]; rfl, unhide HF⟩
end Go.Proofs.YtbpajiljfppjcaaGreat

namespace Go.Proofs.YtbpajiljfppjcaaGreat
open Go.RowKit
attribute [local go_sem ↓] Go.wp_at_zero Go.wp_at_succ

set_option maxHeartbeats 1000000 in
theorem otherwise_any (w : World) (P B : Nat) (pls : List Rt.PL) (lk : Rt.Lks) (lv : Value) (cs : List (List Value)) (n : Int) (h : ProgM w P B pls lk lv cs) :
    Calls Tryz.prog 80 #[.pointer (some ⟨P, 0, none⟩), .int .i64 n] w fun e w' => e = .returned (.int .i64 (Rt.otherwise lk n)) ∧ Below w.heap.size w w' := by
  go_enter Tryz.func80, Tryz.ntmps80
  go_wp2_with fail
  refine (Line_m _ _ _ _ _ _ _ n h).mono ?_
  rintro e w1 ⟨a0, a1, a2, a3, k0, k1, k2, k3, rfl, _, _, hb⟩
  have HO := hide (show Rt.otherwise lk n = if 0 < (Rt.lkAt lk n).1 then wrap64 ((Rt.lkAt lk n).1 + 1) else wrap64 ((Rt.lkAt lk n).2 + 1) from rfl)
  generalize (Rt.lkAt lk n).1 = xe at *
  generalize (Rt.lkAt lk n).2 = xf at *
  generalize Rt.lineAtP pls n = pl at *
  have hbF := hb.alloc hb.size (.cells #[.slice a0 pl.toks.length k0, .int .i64 pl.form.kind, .string pl.form.name, .int .i64 pl.form.cells, .slice a1 pl.form.params.length k1, .slice a2 pl.form.index.length k2, .slice a3 pl.form.values.length k3, .int .i64 pl.depth, .int .i64 pl.opener, .int .i64 xe, .int .i64 xf, .int .i64 pl.proc] 79)
  have HB := hide hbF
  clear h hb hbF
  by_cases hx : 0 < xe
  · have HE := hide ((unhide HO).trans (if_pos hx))
    clear HO
    go_wp2_with fail
    go_ret
    exact ⟨by rw [unhide HE]; rfl, unhide HB⟩
  · have HE := hide ((unhide HO).trans (if_neg hx))
    clear HO
    go_wp2_with fail
    go_ret
    exact ⟨by rw [unhide HE]; rfl, unhide HB⟩

/-- The end of an else's block lies behind the else. -/
def LkFwd (pls : List Rt.PL) (lk : Rt.Lks) : Prop := ∀ (n : Nat) (p : Rt.PL), pls[n]? = some p → p.form.kind = 6 → (n : Int) ≤ (Rt.lkAt lk p.opener).2 ∧ (Rt.lkAt lk p.opener).2 ≤ 200
namespace Rt
/-- More fuel than lines changes nothing. -/
theorem goOn_step (pls : List PL) (lk : Lks) (f : Nat) (n : Int) : goOn pls lk (f + 1) n = if 0 < n ∧ n < pls.length then (if isStopP pls (lnAt pls n) = true then n else if (lnAt pls n).form.kind = 4 ∧ (formAt pls (lnAt pls n).opener).kind = 7 then (lnAt pls n).opener else if (lnAt pls n).form.kind = 6 then goOn pls lk f (wrap64 ((lkAt lk (lnAt pls n).opener).2 + 1)) else goOn pls lk f (wrap64 (n + 1))) else 0 := rfl
end Rt
set_option maxHeartbeats 2000000 in
set_option maxRecDepth 100000 in
theorem goOn_any (w : World) (P B : Nat) (pls : List Rt.PL) (lk : Rt.Lks) (lv : Value) (cs : List (List Value)) (n : Int) (h : ProgM w P B pls lk lv cs) (hlen : pls.length ≤ 101) (hfw : LkFwd pls lk) (hn : -9223372036854775808 ≤ n ∧ n ≤ 9223372036854775807) :
    Calls Tryz.prog 39 #[.pointer (some ⟨P, 0, none⟩), .int .i64 n] w fun e w' => e = .returned (.int .i64 (Rt.goOn pls lk 102 n)) ∧ Below w.heap.size w w' := by
  obtain ⟨ad, cap, hlv, cP⟩ := h.lvForm
  have HH := hide h
  have HFW := hide hfw
  clear h hfw
  go_enter Tryz.func39, Tryz.ntmps39
  go_wp2_with fail
  go_loopw [1, 5, 6] (fun i _ _ wr => ∃ (j : Int) (f : Nat), i = .int .i64 j ∧ -9223372036854775808 ≤ j ∧ j ≤ 9223372036854775807 ∧ (pls.length : Int) < f + max j 0 + 1 ∧ Rt.goOn pls lk f j = Rt.goOn pls lk 102 n ∧ Below w.heap.size w wr)
    (fun i _ _ _ => (pls.length + 1 - max (intOf i) 0).toNat)
  case atStart => exact ⟨n, 102, rfl, hn.1, hn.2, by omega, rfl, Below.refl _ _⟩
  case round =>
    obtain ⟨j, f, rfl, hj1, hj2, hf, hT, hbe⟩ := hrel
    have hpr := (unhide HH).later hbe
    have cP' := cell_later hbe cP
    have HT := hide hT
    have HF := hide hf
    clear hT hf cP
    by_cases hin : 0 < j ∧ j < pls.length
    · obtain ⟨k, rfl⟩ := Int.eq_ofNat_of_zero_le (show 0 ≤ j by omega)
      have hlt : k < pls.length := by omega
      have hlt' : (k : Int) < (pls.length : Int) := by omega
      have hk0 : (0 : Int) < (k : Int) := hin.1
      have hk0' : (0 : Int) ≤ (k : Int) := by omega
      obtain ⟨f', rfl⟩ : ∃ f', f = f' + 1 := ⟨f - 1, by have := unhide HF; omega⟩
      obtain ⟨g, cap', a0, a1, a2, a3, e0, e1, e2, e3, xe, xf, hlv', hglt, ⟨d0, d1, d2, d3, d4, d5, d6, d7, d8, d9, d10, d11⟩, _, _⟩ := hpr.at hlt
      have hlv2 := hlv.symm.trans hlv'
      injection hlv2 with e1 _ e2
      subst e1 e2
      have HST := hide ((unhide HT).symm.trans (Rt.goOn_step pls lk f' k))
      have hln : Rt.lnAt pls (k : Int) = pls[k] := Rt.lineAtP_in hlt
      rw [hln, if_pos hin] at HST
      have hfwk := unhide HFW k pls[k] (List.getElem?_eq_getElem hlt)

      clear hlv' hln hin HT
      have HPI : Hid (Rt.lineAtP pls (k : Int) = pls[k]) := hide (Rt.lineAtP_in hlt)
      generalize pls[k] = p at *
      have hbA := (Below.refl wr.heap.size wr).alloc (Nat.le_refl _) (.cells #[.slice a0 p.toks.length e0, .int .i64 p.form.kind, .string p.form.name, .int .i64 p.form.cells, .slice a1 p.form.params.length e1, .slice a2 p.form.index.length e2, .slice a3 p.form.values.length e3, .int .i64 p.depth, .int .i64 p.opener, .int .i64 xe, .int .i64 xf, .int .i64 p.proc] 79)
      have bA := heap_alloc_new wr (.cells #[.slice a0 p.toks.length e0, .int .i64 p.form.kind, .string p.form.name, .int .i64 p.form.cells, .slice a1 p.form.params.length e1, .slice a2 p.form.index.length e2, .slice a3 p.form.values.length e3, .int .i64 p.depth, .int .i64 p.opener, .int .i64 xe, .int .i64 xf, .int .i64 p.proc] 79)
      have hprA := hpr.later hbA
      have hbeA := hbe.trans (hbA.mono (B' := w.heap.size) hbe.size)
      clear hpr hbe hbA
      go_wp2_with fail
      refine (isStop_m _ _ _ _ _ _ _ (k : Int) hprA).mono ?_
      rintro e w2 ⟨rfl, hb2⟩
      rw [unhide HPI]
      have hpr2 := hprA.later hb2
      have hbe2 := hbeA.trans (hb2.mono (B' := w.heap.size) hbeA.size)
      have bA2 := block_later bA hb2
      clear hprA hbeA hb2 bA
      cases hst : Rt.isStopP pls p with
      | true =>
        have HE := hide ((unhide HST).trans (if_pos hst))
        have HB := hide hbe2
        clear HST hst hpr2 hbe2 bA2 hfwk
        go_wp2_with fail
        go_ret
        exact ⟨by rw [unhide HE]; rfl, unhide HB⟩
      | false =>
        have HS2 := hide ((unhide HST).trans (if_neg (by rw [hst]; simp)))
        clear HST hst
        have q1 := cell_of_block bA2 1 (by simp)
        have q8 := cell_of_block bA2 8 (by simp)
        simp only [List.getElem_toArray, List.getElem_cons_succ, List.getElem_cons_zero] at q1 q8
        go_wp2_with fail
        refine (Line_m _ _ _ _ _ _ _ p.opener hpr2).mono ?_
        rintro e w3 ⟨b0, b1, b2, b3, f0, f1, f2, f3, rfl, _, _, hb3⟩
        have HFo := hide (Rt.lineAtP_form pls p.opener)
        generalize Rt.lineAtP pls p.opener = po at *
        generalize HLK1 : (Rt.lkAt lk p.opener).1 = ye at *
        generalize HLK2 : (Rt.lkAt lk p.opener).2 = yf at *
        have hb4 := (Below.refl w3.heap.size w3).alloc (Nat.le_refl _) (.cells #[.slice b0 po.toks.length f0, .int .i64 po.form.kind, .string po.form.name, .int .i64 po.form.cells, .slice b1 po.form.params.length f1, .slice b2 po.form.index.length f2, .slice b3 po.form.values.length f3, .int .i64 po.depth, .int .i64 po.opener, .int .i64 ye, .int .i64 yf, .int .i64 po.proc] 79)
        have bB4 := heap_alloc_new w3 (.cells #[.slice b0 po.toks.length f0, .int .i64 po.form.kind, .string po.form.name, .int .i64 po.form.cells, .slice b1 po.form.params.length f1, .slice b2 po.form.index.length f2, .slice b3 po.form.values.length f3, .int .i64 po.depth, .int .i64 po.opener, .int .i64 ye, .int .i64 yf, .int .i64 po.proc] 79)
        have bA4 := block_later (block_later bA2 hb3) hb4
        have r1 := cell_of_block bA4 1 (by simp)
        have r8 := cell_of_block bA4 8 (by simp)
        simp only [List.getElem_toArray, List.getElem_cons_succ, List.getElem_cons_zero] at r1 r8
        have hbe4 := (hbe2.trans (hb3.mono (B' := w.heap.size) hbe2.size)).trans (hb4.mono (B' := w.heap.size) (by have := hbe2.size; have := hb3.size; omega))
        have HB := hide hbe4
        have hLne : ¬ wr.heap.size = w3.heap.size := by have := block_lt (block_later bA2 hb3); omega
        clear hpr2 hbe2 bA2 hb3 hb4 bB4 bA4 hbe4 q1 q8
        generalize p.opener = op at *
        generalize p.form.kind = kx at *
        have HKO := hide (show (Rt.formAt pls op).kind = po.form.kind by rw [unhide HFo])
        rw [unhide HKO] at HS2
        generalize po.form.kind = ko at *
        by_cases h4 : kx = 4
        · subst h4
          by_cases h7 : ko = 7
          · subst h7
            have HE := hide ((unhide HS2).trans (if_pos ⟨rfl, rfl⟩))
            clear HS2 hfwk
            go_wp2_with fail
            go_ret
            exact ⟨by rw [unhide HE]; rfl, unhide HB⟩
          · have b7 : (ko == 7) = false := by rw [beq_eq_false_iff_ne]; exact h7
            have HE := hide (((unhide HS2).trans (if_neg (fun e => h7 e.2))).trans (if_neg (by omega)))
            have hwk : IntKind.i64.wrap ((k : Int) + 1) = (k : Int) + 1 := by rw [IntWalk.i64_left, IntWalk.wrap64_in _ (by omega)]
            clear HS2 hfwk h7
            go_wp2_with fail
            go_roundw
            case rel =>
              have hf := unhide HF
              refine ⟨(k : Int) + 1, f', by go_num, by omega, by omega, by omega, ?_, unhide HB⟩
              have := unhide HE
              rw [IntWalk.wrap64_in _ (by omega)] at this
              exact this.symm
            case measure => simp [intOf]; omega
        · have b4 : (kx == 4) = false := by rw [beq_eq_false_iff_ne]; exact h4
          by_cases h6 : kx = 6
          · subst h6
            have hfw2 := hfwk rfl
            have HE := hide (((unhide HS2).trans (if_neg (fun e => h4 e.1))).trans (if_pos rfl))
            have hwk : IntKind.i64.wrap (yf + 1) = yf + 1 := by rw [IntWalk.i64_left, IntWalk.wrap64_in _ (by omega)]
            clear HS2 hfwk
            go_wp2_with fail
            go_roundw
            case rel =>
              have hf := unhide HF
              refine ⟨yf + 1, f', by go_num, by omega, by omega, by omega, ?_, unhide HB⟩
              have := unhide HE
              rw [IntWalk.wrap64_in _ (by omega)] at this
              exact this.symm
            case measure => simp [intOf]; omega
          · have b6 : (kx == 6) = false := by rw [beq_eq_false_iff_ne]; exact h6
            have HE := hide (((unhide HS2).trans (if_neg (fun e => h4 e.1))).trans (if_neg h6))
            have hwk : IntKind.i64.wrap ((k : Int) + 1) = (k : Int) + 1 := by rw [IntWalk.i64_left, IntWalk.wrap64_in _ (by omega)]
            clear HS2 hfwk h4 h6
            go_wp2_with fail
            go_roundw
            case rel =>
              have hf := unhide HF
              refine ⟨(k : Int) + 1, f', by go_num, by omega, by omega, by omega, ?_, unhide HB⟩
              have := unhide HE
              rw [IntWalk.wrap64_in _ (by omega)] at this
              exact this.symm
            case measure => simp [intOf]; omega
    · have HE : Hid (Rt.goOn pls lk 102 n = 0) := by
        refine hide ?_
        rw [← unhide HT]
        cases f with
        | zero => rfl
        | succ f => rw [Rt.goOn_step, if_neg hin]
      have HB := hide hbe
      clear hpr hbe HT HF
      by_cases hj : 0 < j
      · have hj' : ¬ j < (pls.length : Int) := fun e => hin ⟨hj, e⟩
        clear hin
        go_wp2_with fail
        go_ret
        exact ⟨by rw [unhide HE]; rfl, unhide HB⟩
      · clear hin
        go_wp2_with fail
        go_ret
        exact ⟨by rw [unhide HE]; rfl, unhide HB⟩
end Go.Proofs.YtbpajiljfppjcaaGreat

