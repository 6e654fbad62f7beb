/- The walks of the readers of lines. -/
import Derived.Test.YthleadfkfnnadaaGreatExprb
namespace Go.Proofs.YthleadfkfnnadaaGreat
open Go.RowKit
set_option maxHeartbeats 1000000 in
theorem comparison_any (f : Nat) (hf : Reads f 224 (Rt.pSum (Rt.pFactor f))) : Reads f 222 (Rt.pComp (Rt.pFactor f)) := by
  intro w R tv ts n ov ops hr hsm hle
  have HSM := hide hsm
  clear hsm
  have hfew := hr.few
  have hops := hr.fewOps
  go_enter Tryz.func222, Tryz.ntmps222
  go_wp2_with fail
  refine (hf _ _ _ _ _ _ _ hr (unhide HSM) hle).mono ?_
  rintro e w1 (⟨em, n1, ov1, hs, rfl, hlen, hlt, hr1, hfr1⟩ | ⟨hs, rfl, ov1, hfr1⟩)
  · by_cases hn : n1 < ts.length
    · by_cases hx : Rt.opCode ts[n1].text < 10 ∨ 11 < Rt.opCode ts[n1].text
      · have HE : Hid (Rt.pComp (Rt.pFactor f) (ts.drop n) = some (em, ts.drop n1)) := by
          refine hide ?_
          unfold Rt.pComp
          rw [hs, drop_at hn]
          simp only
          rw [if_neg (by omega)]
        clear hs
        go_wp2_with fail
        refine (operator_no _ _ _ _ _ _ _ _ _ hr1 hn hx).mono ?_
        rintro e w3 ⟨rfl, q2, rfl⟩
        obtain ⟨hr4, hfr4⟩ := hr1.quiet q2
        have HR := hide hr4
        have HFR := hide (hfr1.trans hfr4)
        clear hr4 hfr4 hr1 hfr1
        go_wp2_with fail
        go_ret
        exact Or.inl ⟨em, n1, ov1, unhide HE, rfl, hlen, hlt, unhide HR, unhide HFR⟩
      · have h1 : 10 ≤ Rt.opCode ts[n1].text := by omega
        have h2 : Rt.opCode ts[n1].text ≤ 11 := by omega
        have HE : Hid (∀ x, Rt.pSum (Rt.pFactor f) (ts.drop (n1 + 1)) = x → Rt.pComp (Rt.pFactor f) (ts.drop n) = (match x with | none => none | some (e', r') => some (em ++ e' ++ [⟨Rt.opCode ts[n1].text, 0, ⟨#[]⟩⟩], r'))) := by
          refine hide ?_
          intro x hx'
          unfold Rt.pComp
          rw [hs, drop_at hn]
          simp only
          rw [if_pos ⟨h1, h2⟩, hx']
          cases x <;> rfl
        clear hs hx
        go_wp2_with fail
        refine (operator_yes _ _ _ _ _ _ _ _ _ hr1 hn h1 h2).mono ?_
        rintro e w3 ⟨rfl, hr4, hfr4⟩
        have hz : (Rt.opCode ts[n1].text == 0) = false := by rw [beq_eq_false_iff_ne]; omega
        generalize hcode : Rt.opCode ts[n1].text = code at *
        clear hcode
        go_wp2_with fail
        refine (hf _ _ _ _ _ _ _ hr4 (unhide HSM) (by omega)).mono ?_
        rintro e w4 (⟨em5, n5, ov5, hs5, rfl, hlen5, hlt5, hr5, hfr5⟩ | ⟨hs5, rfl, ov5, hfr5⟩)
        · have HN := hide ((unhide HE) _ hs5)
          clear hs5
          go_wp2_with fail
          refine (emit_any _ _ _ _ _ _ _ ⟨code, 0, ⟨#[]⟩⟩ hr5 (by have := hr5.fewOps; simp at this ⊢; omega)).mono ?_
          rintro e w5 ⟨rfl, ov6, hr6, hfr6⟩
          have HR := hide hr6
          have HFR := hide (hfr1.trans (hfr4.trans (hfr5.trans hfr6)))
          clear hr1 hr4 hr5 hr6 hfr1 hfr4 hfr5 hfr6
          go_wp2_with fail
          go_ret
          exact Or.inl ⟨em ++ em5 ++ [⟨code, 0, ⟨#[]⟩⟩], n5, ov6, unhide HN, rfl, by simp; omega, by omega, by have := unhide HR; simpa using this, unhide HFR⟩
        · have HN := hide ((unhide HE) _ hs5)
          clear hs5
          have HFR := hide (hfr1.trans (hfr4.trans hfr5))
          clear hr1 hr4 hfr1 hfr4 hfr5
          go_wp2_with fail
          go_ret
          exact Or.inr ⟨unhide HN, rfl, _, unhide HFR⟩
    · have HE : Hid (Rt.pComp (Rt.pFactor f) (ts.drop n) = some (em, ts.drop n1)) := by
        refine hide ?_
        unfold Rt.pComp
        rw [hs, drop_end hn]
      clear hs
      go_wp2_with fail
      refine (operator_end _ _ _ _ _ _ _ _ _ hr1 hn).mono ?_
      rintro e w3 ⟨rfl, q2, rfl⟩
      obtain ⟨hr4, hfr4⟩ := hr1.quiet q2
      have HR := hide hr4
      have HFR := hide (hfr1.trans hfr4)
      clear hr4 hfr4 hr1 hfr1
      go_wp2_with fail
      go_ret
      exact Or.inl ⟨em, n1, ov1, unhide HE, rfl, hlen, hlt, unhide HR, unhide HFR⟩
  · have HE : Hid (Rt.pComp (Rt.pFactor f) (ts.drop n) = none) := by
      refine hide ?_
      unfold Rt.pComp
      rw [hs]
    clear hs
    go_wp2_with fail
    go_ret
    exact Or.inr ⟨unhide HE, rfl, _, hfr1⟩
set_option maxHeartbeats 400000 in
theorem variable_end (w : World) (R : Nat) (tv : Value) (ts : List Rt.Tk) (n : Nat) (ov : Value) (ops : List Pop) (hr : RdS w R tv ts n ov ops) (hn : ¬ n < ts.length) :
    Calls Tryz.prog 230 #[.pointer (some ⟨R, 0, none⟩)] w fun e w' => e = .returned (.bool false) ∧ ∃ q, w' = w.drewN q := by
  go_enter Tryz.func230, Tryz.ntmps230
  go_wp2_with fail
  refine (name_end _ _ _ _ _ _ _ hr hn).mono ?_
  rintro e w3 ⟨rfl, q2, rfl⟩
  go_wp2_with fail
  go_ret
  exact ⟨by simp, _, rfl⟩
def vspec (f : Nat) (t : Rt.Tk) (r : List Rt.Tk) : Rt.Got := if t.kind = 1 ∧ Rt.resv t.text = false then Rt.pVar (Rt.pComp (Rt.pFactor f)) t.text r else none
set_option maxHeartbeats 1000000 in
theorem variable_any (f : Nat) (hf : Reads f 222 (Rt.pComp (Rt.pFactor f))) (w : World) (R : Nat) (tv : Value) (ts : List Rt.Tk) (n : Nat) (ov : Value) (ops : List Pop)
    (hr : RdS w R tv ts n ov ops) (hsm : ∀ t ∈ ts, t.text.size ≤ 40000) (hn : n < ts.length) (hle : ts.length - (n + 1) ≤ f) :
    Calls Tryz.prog 230 #[.pointer (some ⟨R, 0, none⟩)] w fun e w' =>
      (∃ em n' ov', vspec f ts[n] (ts.drop (n + 1)) = some (em, ts.drop n') ∧ e = .returned (.bool true) ∧ em.length + n ≤ n' ∧ n < n' ∧ RdS w' R tv ts n' ov' (ops ++ em) ∧ RFr R ov ov' w w') ∨
      (vspec f ts[n] (ts.drop (n + 1)) = none ∧ e = .returned (.bool false) ∧ ∃ ov', RFr R ov ov' w w') := by
  have HSM := hide hsm
  clear hsm
  have hfew := hr.few
  have hops := hr.fewOps
  go_enter Tryz.func230, Tryz.ntmps230
  go_wp2_with fail
  refine (name_some _ _ _ _ _ _ _ hr hn).mono ?_
  rintro e w1 (⟨hk, hv, rfl, hr1, hfr1⟩ | ⟨hk, rfl, hr1, hfr1⟩)
  · have HV : Hid (vspec f ts[n] (ts.drop (n + 1)) = Rt.pVar (Rt.pComp (Rt.pFactor f)) ts[n].text (ts.drop (n + 1))) := by
      refine hide ?_
      unfold vspec
      rw [if_pos ⟨hk, hv⟩]
    clear hk hv
    generalize ts[n].text = nm at *
    by_cases hn1 : n + 1 < ts.length
    · by_cases hx : ts[n + 1].text = ⟨#[91]⟩
      · have HE : Hid (vspec f ts[n] (ts.drop (n + 1)) = Rt.closed ⟨#[93]⟩ [⟨3, 0, nm⟩] (Rt.pComp (Rt.pFactor f) (ts.drop (n + 1 + 1)))) := by
          refine hide ?_
          rw [unhide HV, drop_at hn1, Rt.pVar, if_pos hx]
        clear HV
        go_wp2_with fail
        refine (take_yes _ _ _ _ _ _ _ _ hr1 hn1 hx).mono ?_
        rintro e w2 ⟨rfl, hr2, hfr2⟩
        clear hx
        go_wp2_with fail
        refine (hf _ _ _ _ _ _ _ hr2 (unhide HSM) (by omega)).mono ?_
        rintro e w4 (⟨em5, n5, ov5, hs5, rfl, hlen5, hlt5, hr5, hfr5⟩ | ⟨hs5, rfl, ov5, hfr5⟩)
        · have hle5 := hr5.le
          rw [hs5] at HE
          clear hs5
          go_wp2_with fail
          refine (emit_any _ _ _ _ _ _ _ ⟨3, 0, nm⟩ hr5 (by have := hr5.fewOps; simp at this ⊢; omega)).mono ?_
          rintro e w5 ⟨rfl, ov6, hr6, hfr6⟩
          by_cases hn5 : n5 < ts.length
          · by_cases hx5 : ts[n5].text = ⟨#[93]⟩
            · have HG : Hid (vspec f ts[n] (ts.drop (n + 1)) = some (em5 ++ [⟨3, 0, nm⟩], ts.drop (n5 + 1))) := by
                refine hide ?_
                rw [unhide HE, drop_at hn5, Rt.closed, if_pos hx5]
              clear HE
              go_wp2_with fail
              refine (take_yes _ _ _ _ _ _ _ _ hr6 hn5 hx5).mono ?_
              rintro e w6 ⟨rfl, hr7, hfr7⟩
              have HR := hide hr7
              have HFR := hide (hfr1.trans (hfr2.trans (hfr5.trans (hfr6.trans hfr7))))
              clear hr1 hr2 hr5 hr6 hr7 hfr1 hfr2 hfr5 hfr6 hfr7 hx5
              go_wp2_with fail
              go_ret
              exact Or.inl ⟨em5 ++ [⟨3, 0, nm⟩], n5 + 1, ov6, unhide HG, rfl, by simp; omega, by omega, by have := unhide HR; simpa using this, unhide HFR⟩
            · have HG : Hid (vspec f ts[n] (ts.drop (n + 1)) = none) := by
                refine hide ?_
                rw [unhide HE, drop_at hn5, Rt.closed, if_neg hx5]
              clear HE
              go_wp2_with fail
              refine (take_no _ _ _ _ _ _ _ _ hr6 hn5 hx5).mono ?_
              rintro e w6 ⟨rfl, q, rfl⟩
              have HFR := hide (hfr1.trans (hfr2.trans (hfr5.trans (hfr6.trans (hr6.quiet q).2))))
              clear hr1 hr2 hr5 hr6 hfr1 hfr2 hfr5 hfr6 hx5
              go_wp2_with fail
              go_ret
              exact Or.inr ⟨unhide HG, rfl, _, unhide HFR⟩
          · have HG : Hid (vspec f ts[n] (ts.drop (n + 1)) = none) := by
              refine hide ?_
              rw [unhide HE, drop_end hn5, Rt.closed]
            clear HE
            go_wp2_with fail
            refine (take_end _ _ _ _ _ _ _ _ hr6 hn5).mono ?_
            rintro e w6 ⟨rfl, q, rfl⟩
            have HFR := hide (hfr1.trans (hfr2.trans (hfr5.trans (hfr6.trans (hr6.quiet q).2))))
            clear hr1 hr2 hr5 hr6 hfr1 hfr2 hfr5 hfr6
            go_wp2_with fail
            go_ret
            exact Or.inr ⟨unhide HG, rfl, _, unhide HFR⟩
        · have HG : Hid (vspec f ts[n] (ts.drop (n + 1)) = none) := by
            refine hide ?_
            rw [unhide HE, hs5, Rt.closed]
          clear HE hs5
          have HFR := hide (hfr1.trans (hfr2.trans hfr5))
          clear hr1 hr2 hfr1 hfr2 hfr5
          go_wp2_with fail
          go_ret
          exact Or.inr ⟨unhide HG, rfl, _, unhide HFR⟩
      · have HG : Hid (vspec f ts[n] (ts.drop (n + 1)) = some ([⟨2, 0, nm⟩], ts.drop (n + 1))) := by
          refine hide ?_
          rw [unhide HV, drop_at hn1, Rt.pVar, if_neg hx]
        clear HV
        go_wp2_with fail
        refine (take_no _ _ _ _ _ _ _ _ hr1 hn1 hx).mono ?_
        rintro e w6 ⟨rfl, q, rfl⟩
        obtain ⟨hr2, hfr2⟩ := hr1.quiet q
        clear hx
        go_wp2_with fail
        refine (emit_any _ _ _ _ _ _ _ ⟨2, 0, nm⟩ hr2 (by omega)).mono ?_
        rintro e w5 ⟨rfl, ov6, hr6, hfr6⟩
        have HR := hide hr6
        have HFR := hide (hfr1.trans (hfr2.trans hfr6))
        clear hr1 hr2 hr6 hfr1 hfr2 hfr6
        go_wp2_with fail
        go_ret
        exact Or.inl ⟨[⟨2, 0, nm⟩], n + 1, ov6, unhide HG, rfl, by simp; omega, by omega, unhide HR, unhide HFR⟩
    · have HG : Hid (vspec f ts[n] (ts.drop (n + 1)) = some ([⟨2, 0, nm⟩], ts.drop (n + 1))) := by
        refine hide ?_
        rw [unhide HV, drop_end hn1, Rt.pVar]
      clear HV
      go_wp2_with fail
      refine (take_end _ _ _ _ _ _ _ _ hr1 hn1).mono ?_
      rintro e w6 ⟨rfl, q, rfl⟩
      obtain ⟨hr2, hfr2⟩ := hr1.quiet q
      go_wp2_with fail
      refine (emit_any _ _ _ _ _ _ _ ⟨2, 0, nm⟩ hr2 (by omega)).mono ?_
      rintro e w5 ⟨rfl, ov6, hr6, hfr6⟩
      have HR := hide hr6
      have HFR := hide (hfr1.trans (hfr2.trans hfr6))
      clear hr1 hr2 hr6 hfr1 hfr2 hfr6
      go_wp2_with fail
      go_ret
      exact Or.inl ⟨[⟨2, 0, nm⟩], n + 1, ov6, unhide HG, rfl, by simp; omega, by omega, unhide HR, unhide HFR⟩
  · have HG : Hid (vspec f ts[n] (ts.drop (n + 1)) = none) := by
      refine hide ?_
      unfold vspec
      rw [if_neg hk]
    clear hk
    have HFR := hide hfr1
    clear hr1 hfr1
    go_wp2_with fail
    go_ret
    exact Or.inr ⟨unhide HG, rfl, _, unhide HFR⟩
theorem take_end' (w : World) (R : Nat) (tv : Value) (ts : List Rt.Tk) (n : Nat) (ov : Value) (ops : List Pop) (x : ByteArray) (hr : RdS w R tv ts n ov ops) (hn : ¬ n < ts.length) :
    Calls Tryz.prog 216 #[.pointer (some ⟨R, 0, none⟩), .string x] w fun e w' => e = .returned (.bool false) ∧ RdS w' R tv ts n ov ops ∧ RFr R ov ov w w' :=
  (take_end w R tv ts n ov ops x hr hn).mono (by rintro e w' ⟨rfl, q, rfl⟩; exact ⟨rfl, hr.quiet q⟩)
theorem take_no' (w : World) (R : Nat) (tv : Value) (ts : List Rt.Tk) (n : Nat) (ov : Value) (ops : List Pop) (x : ByteArray) (hr : RdS w R tv ts n ov ops) (hn : n < ts.length) (hx : ¬ ts[n].text = x) :
    Calls Tryz.prog 216 #[.pointer (some ⟨R, 0, none⟩), .string x] w fun e w' => e = .returned (.bool false) ∧ RdS w' R tv ts n ov ops ∧ RFr R ov ov w w' :=
  (take_no w R tv ts n ov ops x hr hn hx).mono (by rintro e w' ⟨rfl, q, rfl⟩; exact ⟨rfl, hr.quiet q⟩)
theorem number_end' (w : World) (R : Nat) (tv : Value) (ts : List Rt.Tk) (n : Nat) (ov : Value) (ops : List Pop) (hr : RdS w R tv ts n ov ops) (hn : ¬ n < ts.length) :
    Calls Tryz.prog 214 #[.pointer (some ⟨R, 0, none⟩)] w fun e w' => e = .returned (.tuple #[.int .i64 0, .bool false]) ∧ RdS w' R tv ts n ov ops ∧ RFr R ov ov w w' :=
  (number_end w R tv ts n ov ops hr hn).mono (by rintro e w' ⟨rfl, q, rfl⟩; exact ⟨rfl, hr.quiet q⟩)
theorem number_no' (w : World) (R : Nat) (tv : Value) (ts : List Rt.Tk) (n : Nat) (ov : Value) (ops : List Pop) (hr : RdS w R tv ts n ov ops) (hn : n < ts.length) (hk : ¬ ts[n].kind = 2) :
    Calls Tryz.prog 214 #[.pointer (some ⟨R, 0, none⟩)] w fun e w' => e = .returned (.tuple #[.int .i64 0, .bool false]) ∧ RdS w' R tv ts n ov ops ∧ RFr R ov ov w w' :=
  (number_no w R tv ts n ov ops hr hn hk).mono (by rintro e w' ⟨rfl, q, rfl⟩; exact ⟨rfl, hr.quiet q⟩)
theorem variable_end' (w : World) (R : Nat) (tv : Value) (ts : List Rt.Tk) (n : Nat) (ov : Value) (ops : List Pop) (hr : RdS w R tv ts n ov ops) (hn : ¬ n < ts.length) :
    Calls Tryz.prog 230 #[.pointer (some ⟨R, 0, none⟩)] w fun e w' => e = .returned (.bool false) ∧ RdS w' R tv ts n ov ops ∧ RFr R ov ov w w' :=
  (variable_end w R tv ts n ov ops hr hn).mono (by rintro e w' ⟨rfl, q, rfl⟩; exact ⟨rfl, hr.quiet q⟩)
theorem name_end' (w : World) (R : Nat) (tv : Value) (ts : List Rt.Tk) (n : Nat) (ov : Value) (ops : List Pop) (hr : RdS w R tv ts n ov ops) (hn : ¬ n < ts.length) :
    Calls Tryz.prog 213 #[.pointer (some ⟨R, 0, none⟩)] w fun e w' => e = .returned (.tuple #[.string ⟨#[]⟩, .bool false]) ∧ RdS w' R tv ts n ov ops ∧ RFr R ov ov w w' :=
  (name_end w R tv ts n ov ops hr hn).mono (by rintro e w' ⟨rfl, q, rfl⟩; exact ⟨rfl, hr.quiet q⟩)
set_option maxHeartbeats 1000000 in
theorem factor_end (w : World) (R : Nat) (tv : Value) (ts : List Rt.Tk) (n : Nat) (ov : Value) (ops : List Pop) (hr : RdS w R tv ts n ov ops) (hn : ¬ n < ts.length) :
    Calls Tryz.prog 229 #[.pointer (some ⟨R, 0, none⟩)] w fun e w' => e = .returned (.bool false) ∧ RdS w' R tv ts n ov ops ∧ RFr R ov ov w w' := by
  go_enter Tryz.func229, Tryz.ntmps229
  go_wp2_with fail
  refine (take_end' _ _ _ _ _ _ _ _ hr hn).mono ?_
  rintro e w1 ⟨rfl, hr1, hfr1⟩
  go_wp2_with fail
  refine (take_end' _ _ _ _ _ _ _ _ hr1 hn).mono ?_
  rintro e w2 ⟨rfl, hr2, hfr2⟩
  go_wp2_with fail
  refine (number_end' _ _ _ _ _ _ _ hr2 hn).mono ?_
  rintro e w3 ⟨rfl, hr3, hfr3⟩
  go_wp2_with fail
  refine (variable_end' _ _ _ _ _ _ _ hr3 hn).mono ?_
  rintro e w4 ⟨rfl, hr4, hfr4⟩
  have HR := hide hr4
  have HFR := hide (hfr1.trans (hfr2.trans (hfr3.trans hfr4)))
  clear hr1 hr2 hr3 hr4 hfr1 hfr2 hfr3 hfr4
  go_wp2_with fail
  go_ret
  exact ⟨rfl, unhide HR, unhide HFR⟩
set_option maxHeartbeats 1000000 in
theorem factor_any (f : Nat) (hf : Reads f 229 (Rt.pFactor f)) (hc : Reads f 222 (Rt.pComp (Rt.pFactor f))) :
    Reads (f + 1) 229 (Rt.pFactor (f + 1)) := by
  intro w R tv ts n ov ops hr hsm hle
  by_cases hn : n < ts.length
  case neg =>
    refine (factor_end _ _ _ _ _ _ _ hr hn).mono ?_
    rintro e w1 ⟨rfl, _, hfr⟩
    exact Or.inr ⟨by rw [drop_end hn, Rt.pFactor], rfl, _, hfr⟩
  have HSM := hide hsm
  clear hsm
  have hfew := hr.few
  have hops := hr.fewOps
  by_cases hm : ts[n].text = ⟨#[45]⟩
  · have HE : Hid (∀ x, Rt.pFactor f (ts.drop (n + 1)) = x → Rt.pFactor (f + 1) (ts.drop n) = (match x with | none => none | some (e', r') => some (e' ++ [⟨4, 0, ⟨#[]⟩⟩], r'))) := by
      refine hide ?_
      intro x hx
      rw [drop_at hn, Rt.pFactor, if_pos hm, hx]
      cases x <;> rfl
    go_enter Tryz.func229, Tryz.ntmps229
    go_wp2_with fail
    refine (take_yes _ _ _ _ _ _ _ _ hr hn hm).mono ?_
    rintro e w1 ⟨rfl, hr1, hfr1⟩
    clear hm
    go_wp2_with fail
    refine (hf _ _ _ _ _ _ _ hr1 (unhide HSM) (by omega)).mono ?_
    rintro e w4 (⟨em5, n5, ov5, hs5, rfl, hlen5, hlt5, hr5, hfr5⟩ | ⟨hs5, rfl, ov5, hfr5⟩)
    · have HN := hide ((unhide HE) _ hs5)
      clear hs5
      go_wp2_with fail
      refine (emit_any _ _ _ _ _ _ _ ⟨4, 0, ⟨#[]⟩⟩ hr5 (by have := hr5.fewOps; simp at this ⊢; omega)).mono ?_
      rintro e w5 ⟨rfl, ov6, hr6, hfr6⟩
      have HR := hide hr6
      have HFR := hide (hfr1.trans (hfr5.trans hfr6))
      clear hr1 hr5 hr6 hfr1 hfr5 hfr6
      go_wp2_with fail
      go_ret
      exact Or.inl ⟨em5 ++ [⟨4, 0, ⟨#[]⟩⟩], n5, ov6, unhide HN, rfl, by simp; omega, by omega, by have := unhide HR; simpa using this, unhide HFR⟩
    · have HN := hide ((unhide HE) _ hs5)
      clear hs5
      have HFR := hide (hfr1.trans hfr5)
      clear hr1 hfr1 hfr5
      go_wp2_with fail
      go_ret
      exact Or.inr ⟨unhide HN, rfl, _, unhide HFR⟩
  by_cases hp : ts[n].text = ⟨#[40]⟩
  · have HE : Hid (Rt.pFactor (f + 1) (ts.drop n) = Rt.closed ⟨#[41]⟩ [] (Rt.pComp (Rt.pFactor f) (ts.drop (n + 1)))) := by
      refine hide ?_
      rw [drop_at hn, Rt.pFactor, if_neg hm, if_pos hp]
    go_enter Tryz.func229, Tryz.ntmps229
    go_wp2_with fail
    refine (take_no' _ _ _ _ _ _ _ _ hr hn hm).mono ?_
    rintro e w0 ⟨rfl, hr0, hfr0⟩
    clear hm
    go_wp2_with fail
    refine (take_yes _ _ _ _ _ _ _ _ hr0 hn hp).mono ?_
    rintro e w1 ⟨rfl, hr1, hfr1⟩
    clear hp
    go_wp2_with fail
    refine (hc _ _ _ _ _ _ _ hr1 (unhide HSM) (by omega)).mono ?_
    rintro e w4 (⟨em5, n5, ov5, hs5, rfl, hlen5, hlt5, hr5, hfr5⟩ | ⟨hs5, rfl, ov5, hfr5⟩)
    · have hle5 := hr5.le
      rw [hs5] at HE
      clear hs5
      by_cases hn5 : n5 < ts.length
      · by_cases hx5 : ts[n5].text = ⟨#[41]⟩
        · have HG : Hid (Rt.pFactor (f + 1) (ts.drop n) = some (em5, ts.drop (n5 + 1))) := by
            refine hide ?_
            rw [unhide HE, drop_at hn5, Rt.closed, if_pos hx5, List.append_nil]
          clear HE
          go_wp2_with fail
          refine (take_yes _ _ _ _ _ _ _ _ hr5 hn5 hx5).mono ?_
          rintro e w6 ⟨rfl, hr7, hfr7⟩
          have HR := hide hr7
          have HFR := hide (hfr0.trans (hfr1.trans (hfr5.trans hfr7)))
          clear hr0 hr1 hr5 hr7 hfr0 hfr1 hfr5 hfr7 hx5
          go_wp2_with fail
          go_ret
          exact Or.inl ⟨em5, n5 + 1, ov5, unhide HG, rfl, by omega, by omega, unhide HR, unhide HFR⟩
        · have HG : Hid (Rt.pFactor (f + 1) (ts.drop n) = none) := by
            refine hide ?_
            rw [unhide HE, drop_at hn5, Rt.closed, if_neg hx5]
          clear HE
          go_wp2_with fail
          refine (take_no' _ _ _ _ _ _ _ _ hr5 hn5 hx5).mono ?_
          rintro e w6 ⟨rfl, hr7, hfr7⟩
          have HFR := hide (hfr0.trans (hfr1.trans (hfr5.trans hfr7)))
          clear hr0 hr1 hr5 hr7 hfr0 hfr1 hfr5 hfr7 hx5
          go_wp2_with fail
          go_ret
          exact Or.inr ⟨unhide HG, rfl, _, unhide HFR⟩
      · have HG : Hid (Rt.pFactor (f + 1) (ts.drop n) = none) := by
          refine hide ?_
          rw [unhide HE, drop_end hn5, Rt.closed]
        clear HE
        go_wp2_with fail
        refine (take_end' _ _ _ _ _ _ _ _ hr5 hn5).mono ?_
        rintro e w6 ⟨rfl, hr7, hfr7⟩
        have HFR := hide (hfr0.trans (hfr1.trans (hfr5.trans hfr7)))
        clear hr0 hr1 hr5 hr7 hfr0 hfr1 hfr5 hfr7
        go_wp2_with fail
        go_ret
        exact Or.inr ⟨unhide HG, rfl, _, unhide HFR⟩
    · have HG : Hid (Rt.pFactor (f + 1) (ts.drop n) = none) := by
        refine hide ?_
        rw [unhide HE, hs5, Rt.closed]
      clear HE hs5
      have HFR := hide (hfr0.trans (hfr1.trans hfr5))
      clear hr0 hr1 hfr0 hfr1 hfr5
      go_wp2_with fail
      go_ret
      exact Or.inr ⟨unhide HG, rfl, _, unhide HFR⟩
  by_cases hk : ts[n].kind = 2
  · have HE : Hid (Rt.pFactor (f + 1) (ts.drop n) = some ([⟨1, Rt.val ts[n].text, ⟨#[]⟩⟩], ts.drop (n + 1))) := by
      refine hide ?_
      rw [drop_at hn, Rt.pFactor, if_neg hm, if_neg hp, if_pos hk]
    have hsz : ts[n].text.size ≤ maxLen := by
      have := (unhide HSM) ts[n] (List.getElem_mem hn)
      unfold maxLen
      omega
    go_enter Tryz.func229, Tryz.ntmps229
    go_wp2_with fail
    refine (take_no' _ _ _ _ _ _ _ _ hr hn hm).mono ?_
    rintro e w0 ⟨rfl, hr0, hfr0⟩
    clear hm
    go_wp2_with fail
    refine (take_no' _ _ _ _ _ _ _ _ hr0 hn hp).mono ?_
    rintro e w1 ⟨rfl, hr1, hfr1⟩
    clear hp
    go_wp2_with fail
    refine (number_yes _ _ _ _ _ _ _ hr1 hn hk hsz).mono ?_
    rintro e w2 ⟨rfl, hr2, hfr2⟩
    clear hk hsz
    go_wp2_with fail
    refine (emit_any _ _ _ _ _ _ _ ⟨1, Rt.val ts[n].text, ⟨#[]⟩⟩ hr2 (by omega)).mono ?_
    rintro e w5 ⟨rfl, ov6, hr6, hfr6⟩
    have HR := hide hr6
    have HFR := hide (hfr0.trans (hfr1.trans (hfr2.trans hfr6)))
    clear hr0 hr1 hr2 hr6 hfr0 hfr1 hfr2 hfr6
    go_wp2_with fail
    go_ret
    exact Or.inl ⟨_, n + 1, ov6, unhide HE, rfl, by simp; omega, by omega, unhide HR, unhide HFR⟩
  · have HE : Hid (Rt.pFactor (f + 1) (ts.drop n) = vspec f ts[n] (ts.drop (n + 1))) := by
      refine hide ?_
      rw [drop_at hn, Rt.pFactor, if_neg hm, if_neg hp, if_neg hk]
      rfl
    go_enter Tryz.func229, Tryz.ntmps229
    go_wp2_with fail
    refine (take_no' _ _ _ _ _ _ _ _ hr hn hm).mono ?_
    rintro e w0 ⟨rfl, hr0, hfr0⟩
    clear hm
    go_wp2_with fail
    refine (take_no' _ _ _ _ _ _ _ _ hr0 hn hp).mono ?_
    rintro e w1 ⟨rfl, hr1, hfr1⟩
    clear hp
    go_wp2_with fail
    refine (number_no' _ _ _ _ _ _ _ hr1 hn hk).mono ?_
    rintro e w2 ⟨rfl, hr2, hfr2⟩
    clear hk
    go_wp2_with fail
    refine (variable_any f hc _ _ _ _ _ _ _ hr2 (unhide HSM) hn (by omega)).mono ?_
    rintro e w4 (⟨em5, n5, ov5, hs5, rfl, hlen5, hlt5, hr5, hfr5⟩ | ⟨hs5, rfl, ov5, hfr5⟩)
    · have HG := hide ((unhide HE).trans hs5)
      have HR := hide hr5
      have HFR := hide (hfr0.trans (hfr1.trans (hfr2.trans hfr5)))
      clear hr0 hr1 hr2 hr5 hfr0 hfr1 hfr2 hfr5 hs5
      go_wp2_with fail
      go_ret
      exact Or.inl ⟨_, n5, ov5, unhide HG, rfl, by omega, by omega, unhide HR, unhide HFR⟩
    · have HG := hide ((unhide HE).trans hs5)
      have HFR := hide (hfr0.trans (hfr1.trans (hfr2.trans hfr5)))
      clear hr0 hr1 hr2 hfr0 hfr1 hfr2 hfr5 hs5
      go_wp2_with fail
      go_ret
      exact Or.inr ⟨unhide HG, rfl, _, unhide HFR⟩
theorem factor_all (f : Nat) : Reads f 229 (Rt.pFactor f) := by
  induction f with
  | zero =>
    intro w R tv ts n ov ops hr hsm hle
    refine (factor_end _ _ _ _ _ _ _ hr (by omega)).mono ?_
    rintro e w1 ⟨rfl, _, hfr⟩
    exact Or.inr ⟨by rw [Rt.pFactor], rfl, _, hfr⟩
  | succ f ih => exact factor_any f ih (comparison_any f (sum_any f (term_any f ih)))
theorem comparison_all (f : Nat) : Reads f 222 (Rt.pComp (Rt.pFactor f)) := comparison_any f (sum_any f (term_any f (factor_all f)))
abbrev noOps : Value := .slice none 0 0
theorem RFr.setNew {R : Nat} {a b : Value} {w w1 : World} {N i : Nat} (h : RFr R a b w w1) (hN : w.heap.size ≤ N) (v : Value) : RFr R a b w (w1.setCell ⟨N, i, none⟩ v) :=
  ⟨h.os, h.tape, h.output, by have := h.size; simp [World.setCell]; omega, fun k hk h1 h2 => (Below.heap_setCell w1 ⟨N, i, none⟩ v k (by show k ≠ N; omega)).trans (h.block k hk h1 h2), h.own⟩
theorem ownsRow_setCell_ne {w : World} {base : Nat} {e : TypeId} {size : Nat} {v : Value} {n : Nat} {xs : List Value} (h : w.ownsRow base e size v n xs) {a : Addr} (ha : ∀ g, v.ownBlock = some g → g ≠ a.block) (u : Value) : (w.setCell a u).ownsRow base e size v n xs := by
  obtain ⟨h1, h2⟩ := h
  refine ⟨h1, ?_⟩
  rcases h2 with h2 | ⟨g, cap, cur, hv, hg, hh, r⟩
  · exact Or.inl h2
  · exact Or.inr ⟨g, cap, cur, hv, hg, by rw [Below.heap_setCell _ _ _ _ (ha g (by rw [hv]; rfl))]; exact hh, r⟩
theorem RdS.setOther {w : World} {R : Nat} {tv : Value} {ts : List Rt.Tk} {n : Nat} {ov : Value} {ops : List Pop} {N i : Nat} (hr : RdS w R tv ts n ov ops) (hN : R < N) (ho : ∀ g, ov.ownBlock = some g → g ≠ N) (v : Value) :
    RdS (w.setCell ⟨N, i, none⟩ v) R tv ts n ov ops := by
  have hoth : ∀ k, k ≠ N → (w.setCell ⟨N, i, none⟩ v).heap[k]? = w.heap[k]? := fun k hk => Below.heap_setCell w ⟨N, i, none⟩ v k hk
  refine ⟨hr.le, hr.few, hr.fewOps, by rw [hoth R (by omega)]; exact hr.block, ?_, ownsRow_setCell_ne hr.own ho v⟩
  obtain ⟨b, cap, rfl, hbR, hc⟩ := hr.toks
  have hc' : ∀ j, (w.setCell ⟨N, i, none⟩ v).cell? ⟨b, j, none⟩ = w.cell? ⟨b, j, none⟩ := fun j => World.cell?_of_block (w := w) (hoth b (by omega))
  exact ⟨b, cap, rfl, hbR, fun i h => ⟨by rw [hc']; exact (hc i h).1, by rw [hc']; exact (hc i h).2⟩⟩
theorem RdS.clear {w : World} {R : Nat} {tv : Value} {ts : List Rt.Tk} {n : Nat} {ov : Value} {ops : List Pop} (hr : RdS w R tv ts n ov ops) :
    RdS (w.setCell ⟨R, 2, none⟩ noOps) R tv ts n noOps [] ∧ RFr R ov noOps w (w.setCell ⟨R, 2, none⟩ noOps) ∧ (w.setCell ⟨R, 2, none⟩ noOps).ownsRow (R + 1) 236 3 ov ops.length (popsCells ops) := by
  have hoth : ∀ k, k ≠ R → (w.setCell ⟨R, 2, none⟩ noOps).heap[k]? = w.heap[k]? := fun k hk => Below.heap_setCell w ⟨R, 2, none⟩ _ k hk
  refine ⟨⟨hr.le, hr.few, by simp, ?_, ?_, World.ownsRow_nil _ _ _ _⟩, ⟨rfl, rfl, rfl, by simp [World.setCell], fun k _ h1 _ => hoth k h1, fun g h => by cases h⟩, ?_⟩
  · show (w.heap.modify R _)[R]? = _
    rw [Array.getElem?_modify]
    simp [hr.block]
  · obtain ⟨b, cap, rfl, hbR, hc⟩ := hr.toks
    have hc' : ∀ j, (w.setCell ⟨R, 2, none⟩ noOps).cell? ⟨b, j, none⟩ = w.cell? ⟨b, j, none⟩ := fun j => World.cell?_of_block (w := w) (hoth b (by omega))
    exact ⟨b, cap, rfl, hbR, fun i h => ⟨by rw [hc']; exact (hc i h).1, by rw [hc']; exact (hc i h).2⟩⟩
  · exact ownsRow_setCell_below hr.own (by show R < R + 1; omega) _
set_option maxHeartbeats 1000000 in
theorem expression_any (w : World) (R : Nat) (tv : Value) (ts : List Rt.Tk) (n : Nat) (hr : RdS w R tv ts n noOps []) (hsm : ∀ t ∈ ts, t.text.size ≤ 40000) :
    Calls Tryz.prog 215 #[.pointer (some ⟨R, 0, none⟩)] w fun e w' =>
      (∃ em n' xv, Rt.pExpr (ts.drop n) = some (em, ts.drop n') ∧ e = .returned (.tuple #[.agg #[xv], .bool true]) ∧ n < n' ∧ em.length ≤ n' ∧ RdS w' R tv ts n' noOps [] ∧
        w'.ownsRow w.heap.size 236 3 xv em.length (popsCells em) ∧ RFr R noOps noOps w w') ∨
      (Rt.pExpr (ts.drop n) = none ∧ e = .returned (.tuple #[.agg #[noOps], .bool false]) ∧ ∃ ov, RFr R noOps ov w w') := by
  have hfew := hr.few
  have HSM := hide hsm
  clear hsm
  have hlt : R < w.heap.size := World.block_lt_of_cell? w _ (cell_of_block hr.block 0 (by simp))
  go_enter Tryz.func215, Tryz.ntmps215
  go_wp2_with fail
  obtain ⟨hr0, hfr0⟩ := hr.later ((Below.refl w.heap.size w).alloc (Nat.le_refl _) (.cells #[noOps] 140))
  refine (comparison_all 24 _ _ _ _ _ _ _ hr0 (unhide HSM) (by omega)).mono ?_
  rintro e w1 (⟨em, n1, ov1, hs, rfl, hlen, hlt1, hr1, hfr1⟩ | ⟨hs, rfl, ov1, hfr1⟩)
  · rw [List.nil_append] at hr1
    have hN : w1.heap[w.heap.size]? = some (.cells #[noOps] 140 (0, 0)) := by
      rw [hfr1.block w.heap.size (by simp) (by omega) (by simp [Value.ownBlock])]
      exact heap_alloc_new w _
    have hg : ∀ g, ov1.ownBlock = some g → w.heap.size < g := fun g hg => by
      rcases hfr1.own g hg with h | h
      · cases h
      · simp at h; omega
    obtain ⟨ad, cap, rfl⟩ := ownsRow_form hr1.own
    have HS := hide hs
    clear hs
    have c2 := cell_of_block hr1.block 2 (by simp)
    have f2 := free_of_block hr1.block 2
    have cN := cell_of_block hN 0 (by simp)
    have fN := free_of_block hN 0
    simp at c2 cN
    obtain ⟨hr2, hfr2, hown2⟩ := hr1.clear
    have HR := hide (hr2.setOther (N := w.heap.size) (i := 0) hlt (by intro g h; cases h) (Value.slice ad em.length cap))
    have HFR := hide ((hfr0.trans (hfr1.trans hfr2)).setNew (N := w.heap.size) (i := 0) (Nat.le_refl _) (Value.slice ad em.length cap))
    have HO := hide (ownsRow_base (b' := w.heap.size) (ownsRow_setCell_ne hown2 (a := ⟨w.heap.size, 0, none⟩) (fun g h => by have := hg g h; show g ≠ w.heap.size; omega) (Value.slice ad em.length cap)) (fun g h => by have := hg g h; omega))
    clear hr hr0 hr1 hr2 hfr0 hfr1 hfr2 hown2 hN
    have hne : ¬ R = w.heap.size := by omega
    go_wp2_with fail
    refine bodyPost_ret (v := .tuple #[.agg #[Value.slice ad em.length cap], .bool true]) ?_ rfl (Or.inl ⟨em, n1, _, unhide HS, rfl, hlt1, by omega, unhide HR, unhide HO, unhide HFR⟩)
    simp [results, Tryz.results215, go_sem, cN]
  · have hN : w1.heap[w.heap.size]? = some (.cells #[noOps] 140 (0, 0)) := by
      rw [hfr1.block w.heap.size (by simp) (by omega) (by simp [Value.ownBlock])]
      exact heap_alloc_new w _
    have cN := cell_of_block hN 0 (by simp)
    have fN := free_of_block hN 0
    simp at cN
    have HS := hide hs
    have HFR := hide ((hfr0.trans hfr1).setNew (N := w.heap.size) (i := 0) (Nat.le_refl _) noOps)
    clear hr hr0 hfr0 hfr1 hN hs
    go_wp2_with fail
    refine bodyPost_ret (v := .tuple #[.agg #[noOps], .bool false]) ?_ rfl (Or.inr ⟨unhide HS, rfl, _, unhide HFR⟩)
    simp [results, Tryz.results215, go_sem, cN]
end Go.Proofs.YthleadfkfnnadaaGreat
