/- The machine: the work on an expression. -/
import Derived.Test.YtnjhgcanglkfiaaMcE
namespace Go.Proofs.Ytnjhgcanglkfiaa
open Go.RowKit
attribute [local go_sem ↓] Go.wp_at_zero Go.wp_at_succ

theorem work_any (w0 w : World) (M B : Nat) (ty : TypeId) (tail : List Value) (S : Rt.Src) (m : Rt.Mc) (X : McX) (K : Nat) (st : List Int) (sv : Value) (o : Pop) (h0 : McS w0 M B ty tail S m X) (hm : Mok S m) (hb : Below w0.heap.size w0 w) (hK : w0.heap.size ≤ K) (hs : StkS w K st sv) (hlen : st.length ≤ 1000) :
    Calls Try.prog 62 #[.pointer (some ⟨M, 0, none⟩), .pointer (some ⟨K, 0, none⟩), .agg #[.int .i64 o.code, .int .i64 o.number, .string o.name]] w (WorkP K (Rt.workI S m st o) w) := by
  obtain ⟨code, number, name⟩ := o
  by_cases h1 : code = 1
  · subst h1
    exact work_const w0 w M B ty tail S m X K st sv number name h0 hm hb hK hs hlen
  by_cases h2 : code = 2
  · subst h2
    exact work_load w0 w M B ty tail S m X K st sv number name h0 hm hb hK hs hlen
  by_cases h3 : code = 3
  · subst h3
    exact work_cell w0 w M B ty tail S m X K st sv number name h0 hm hb hK hs hlen _ rfl
  by_cases h4 : code = 4
  · subst h4
    exact work_neg w0 w M B ty tail S m X K st sv number name h0 hm hb hK hs hlen
  refine work_two w0 w M B ty tail S m X K st sv code number name h0 hm hb hK hs hlen h1 h2 h3 h4 _ ?_
  unfold Rt.workI
  simp only
  rw [if_neg h1, if_neg h2, if_neg h3, if_neg h4]
theorem workI_len (S : Rt.Src) (m : Rt.Mc) (st : List Int) (o : Pop) : (Rt.workI S m st o).1.length ≤ st.length + 1 := by
  unfold Rt.workI
  split
  · simp
  · split
    · simp
    · split
      · split <;> simp <;> omega
      · split
        · simp <;> omega
        · simp only
          split <;> simp <;> omega

set_option maxHeartbeats 2000000 in
set_option maxRecDepth 100000 in
theorem evaluate_any (w : World) (M B : Nat) (ty : TypeId) (tail : List Value) (S : Rt.Src) (m : Rt.Mc) (X : McX) (BB : Nat) (ad : Option Addr) (cap : Nat) (ops : List Pop) (h : McS w M B ty tail S m X) (hm : Mok S m) (hx : w.ownsRow BB 120 3 (.slice ad ops.length cap) ops.length (popsCells ops)) (hops : ops.length ≤ 900) :
    Calls Try.prog 46 #[.pointer (some ⟨M, 0, none⟩), .agg #[.slice ad ops.length cap]] w fun e w' => e = .returned (.tuple #[.int .i64 (Rt.evalE S m ops).1, .int .i64 (Rt.evalE S m ops).2]) ∧ Below w.heap.size w w' := by
  have hb0 := ((Below.refl w.heap.size w).alloc (Nat.le_refl _) (.cells #[.slice ad ops.length cap] 55)).alloc (by simp) (.cells #[.slice none 0 0] 116)
  have bE := block_alloc (heap_alloc_new w (.cells #[.slice ad ops.length cap] 55)) (.cells #[.slice none 0 0] 116)
  have bK := alloc2_plain w (.cells #[.slice ad ops.length cap] 55) (.cells #[.slice none 0 0] 116)
  have hs0 : StkS ((w.alloc (.cells #[.slice ad ops.length cap] 55)).alloc (.cells #[.slice none 0 0] 116)) (w.heap.size + 1) [] (.slice none 0 0) := ⟨bK, World.ownsRow_nil _ _ _ _⟩
  have HH := hide (And.intro h hx)
  clear h hx
  go_enter Try.func46, Try.ntmps46
  go_wp2_with fail
  go_loopw [7, 8] (fun i _ wr => ∃ (k : Nat) (st : List Int) (sv : Value), k ≤ ops.length ∧ i = .int .i64 k ∧ st.length ≤ k ∧ Rt.evalI S m (ops.drop k) st = Rt.evalE S m ops ∧ StkS wr (w.heap.size + 1) st sv ∧ wr.heap[w.heap.size]? = some (.cells #[.slice ad ops.length cap] 55 (0, 0)) ∧ Below w.heap.size w wr)
    (fun i _ _ => ops.length - (intOf i).toNat)
  case atStart => exact ⟨0, [], _, Nat.zero_le _, rfl, by simp, rfl, hs0, bE, hb0⟩
  case round =>
    clear hs0 bE hb0 bK
    obtain ⟨k, st, sv, hk, rfl, hst, hT, hs, hE, hbe⟩ := hrel
    have cE := cell_of_block hE 0 (by simp)
    simp at cE
    have hElt := block_lt hE
    have HT := hide hT
    clear hT
    by_cases hlt : k < ops.length
    · obtain ⟨g, hg, o0, o1, o2⟩ := own_three (own_later (unhide HH).2 hbe) hlt
      subst hg
      have hlt' : (k : Int) < (ops.length : Int) := by omega
      have hk0 : (0 : Int) ≤ (k : Int) := by omega
      have HN := hide (show Rt.evalE S m ops = if (Rt.workI S m st ops[k]).2 = 0 then Rt.evalI S m (ops.drop (k + 1)) (Rt.workI S m st ops[k]).1 else (0, (Rt.workI S m st ops[k]).2) by rw [← unhide HT, List.drop_eq_getElem_cons hlt, Rt.evalI])
      have hwl := workI_len S m st ops[k]
      have HW := hide (work_any w wr M B ty tail S m X (w.heap.size + 1) st sv ops[k] (unhide HH).1 hm hbe (by omega) hs (by omega))
      have HX := hide (And.intro hs (And.intro hE hbe))
      clear hs hE hbe HT
      generalize Rt.workI S m st ops[k] = y at *
      generalize ops[k] = o at *
      go_wp2_with fail
      refine (unhide HW).mono ?_
      rintro e w2 ⟨rfl, ⟨sv2, hs2⟩, hb2⟩
      obtain ⟨hs, hE, hbe⟩ := unhide HX
      have hE2 : w2.heap[w.heap.size]? = some (.cells #[.slice (some ⟨g, 0, none⟩) ops.length cap] 55 (0, 0)) := by rw [hb2.block w.heap.size (by omega)]; exact hE
      have hbe2 := hbe.trans (hb2.mono (B' := w.heap.size) (by omega))
      have HF := hide (And.intro hs2 (And.intro hE2 hbe2))
      clear hs2 hb2 hs hE hbe hE2 hbe2 HW HX
      obtain ⟨st2, tr⟩ := y
      simp only at HN hwl HF ⊢
      by_cases htr : tr = 0
      · subst htr
        have HN2 := hide ((unhide HN).trans (if_pos rfl))
        clear HN
        go_wp2_with fail
        go_roundw
        case rel =>
          obtain ⟨q1, q2, q3⟩ := unhide HF
          exact ⟨k + 1, st2, _, by omega, by go_num, by omega, (unhide HN2).symm, q1, q2, q3⟩
        case measure => simp [intOf]; omega
      · have HN2 := hide ((unhide HN).trans (if_neg htr))
        have btr : (tr != 0) = true := by simpa using htr
        clear HN htr
        go_wp2_with fail
        go_ret2
        exact ⟨by rw [unhide HN2]; rfl, (unhide HF).2.2⟩
    · have hlt' : ¬ (k : Int) < (ops.length : Int) := by omega
      have HN := hide (show Rt.evalE S m ops = (st.getLastD 0, 0) by rw [← unhide HT, List.drop_eq_nil_of_le (by omega), Rt.evalI])
      have HB := hide hbe
      clear HT hE hbe
      go_wp2_with fail
      refine (pop_any _ _ st sv hs (by omega)).mono ?_
      rintro e w2 ⟨rfl, _, hf2⟩
      have HF := hide ((unhide HB).trans ((hf2.below hs).mono (B' := w.heap.size) (by omega)))
      clear hf2 hs
      generalize st.getLastD 0 = gv at *
      go_wp2_with fail
      go_ret2
      exact ⟨by rw [unhide HN]; rfl, unhide HF⟩

set_option maxHeartbeats 1000000 in
theorem value_any (w : World) (M B : Nat) (ty : TypeId) (tail : List Value) (S : Rt.Src) (m : Rt.Mc) (X : McX) (BB : Nat) (fm : Rt.PForm) (a1 a2 a3 : Option Addr) (c1 c2 c3 : Nat) (h : McS w M B ty tail S m X) (hm : Mok S m) (hf : FormV w BB #[.int .i64 fm.kind, .string fm.name, .int .i64 fm.cells, .slice a1 fm.params.length c1, .slice a2 fm.index.length c2, .slice a3 fm.values.length c3] fm) (hsm : Rt.Small fm) (hops : ∀ o ∈ fm.values, o.length ≤ 900) :
    Calls Try.prog 43 #[.pointer (some ⟨M, 0, none⟩), .agg #[.int .i64 fm.kind, .string fm.name, .int .i64 fm.cells, .slice a1 fm.params.length c1, .slice a2 fm.index.length c2, .slice a3 fm.values.length c3]] w fun e w' => e = .returned (.tuple #[.int .i64 (Rt.valueF S m fm).1, .int .i64 (Rt.valueF S m fm).2]) ∧ Below w.heap.size w w' := by
  have _u := hsm
  clear _u
  have hb0 := (Below.refl w.heap.size w).alloc (Nat.le_refl _) (.cells #[.int .i64 fm.kind, .string fm.name, .int .i64 fm.cells, .slice a1 fm.params.length c1, .slice a2 fm.index.length c2, .slice a3 fm.values.length c3] 58)
  have hA := h.later hb0
  obtain ⟨pv, iv, vv, vs, hfe, _, _, b3, b4⟩ := hf
  have hvv : vv = .slice a3 fm.values.length c3 := by simp at hfe; exact hfe.2.2.symm
  subst hvv
  have b3' := own_later b3 hb0
  have bF := heap_alloc_new w (.cells #[.int .i64 fm.kind, .string fm.name, .int .i64 fm.cells, .slice a1 fm.params.length c1, .slice a2 fm.index.length c2, .slice a3 fm.values.length c3] 58)
  clear h hfe
  by_cases h0 : fm.values.length = 0
  · have HE := hide (show Rt.valueF S m fm = (0, 0) by unfold Rt.valueF; rw [List.eq_nil_of_length_eq_zero h0])
    have hz : ((fm.values.length : Int) == 0) = true := by simpa using h0
    have HB := hide hb0
    clear hA b3 b3' b4 bF hb0 hm hsm hops h0
    go_enter Try.func43, Try.ntmps43
    go_wp2_with fail
    go_ret2
    exact ⟨by rw [unhide HE]; rfl, unhide HB⟩
  · have hz : ((fm.values.length : Int) == 0) = false := by rw [beq_eq_false_iff_ne]; omega
    have hpos : (0 : Int) < (fm.values.length : Int) := by omega
    obtain ⟨o, os, hvs⟩ : ∃ o os, fm.values = o :: os := by
      cases hv : fm.values with
      | nil => rw [hv] at h0; simp at h0
      | cons o os => exact ⟨o, os, rfl⟩
    have HE := hide (show Rt.valueF S m fm = Rt.evalE S m o by unfold Rt.valueF; rw [hvs])
    have hol := hops o (by rw [hvs]; exact List.mem_cons_self ..)
    obtain ⟨x, xs, hx, hxo⟩ : ∃ x xs, vs = x :: xs ∧ w.ownsRow BB 120 3 x o.length (popsCells o) := by
      rw [hvs] at b4
      cases vs with
      | nil => exact b4.elim
      | cons x xs => exact ⟨x, xs, rfl, b4.1⟩
    obtain ⟨xad, xcap, rfl⟩ := ownsRow_form hxo
    subst hx
    obtain ⟨g, gcap, hgv, _, _, ca⟩ := own_cell b3' (j := 0) (u := .slice xad o.length xcap) rfl
    injection hgv with e1 _ e2
    subst e1 e2
    have hxo' := own_later hxo hb0
    have HV := hide (evaluate_any _ M B ty tail S m X BB xad xcap o hA hm hxo' hol)
    have HB := hide hb0
    clear hA b3 b3' b4 hb0 hm hsm hops h0 hxo hxo' hvs
    generalize fm.values.length = vl at *
    go_enter Try.func43, Try.ntmps43
    go_wp2_with fail
    refine (unhide HV).mono ?_
    rintro e w2 ⟨rfl, hb2⟩
    have HF := hide ((unhide HB).trans (hb2.mono (B' := w.heap.size) (by simp)))
    clear hb2 HV HB
    generalize Rt.evalE S m o = y at *
    obtain ⟨y1, y2⟩ := y
    go_wp2_with fail
    go_ret2
    exact ⟨by rw [unhide HE]; rfl, unhide HF⟩
end Go.Proofs.Ytnjhgcanglkfiaa

