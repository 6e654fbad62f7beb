/- The walks of the reader of expressions: comparisons, variables, factors, all of them. -/
import Derived.Test.YtbpajiljfppjcaaGreatExpr
namespace Go.Proofs.YtbpajiljfppjcaaGreat
open Go.RowKit

set_option maxHeartbeats 1000000 in
theorem sum_any (f : Nat) (hf : Reads f 117 (Rt.pTerm (Rt.pFactor f))) : Reads f 114 (Rt.pSum (Rt.pFactor f)) := by
  intro w R tv ts n ov ops hr hsm hle
  have HSM := hide hsm
  clear hsm
  have hfew := hr.few
  go_enter Tryz.func114, Tryz.ntmps114
  go_wp2_with fail
  refine (hf _ _ _ _ _ _ _ hr (unhide HSM) hle).mono ?_
  rintro e w1 (⟨em, n1, ov1, hs, rfl, hlen, hlt, hr1, hfr1⟩ | ⟨hs, rfl, ov1, hfr1⟩)
  · have hT : Rt.joinE em (Rt.pLoop (Rt.pTerm (Rt.pFactor f)) 5 6 25 (ts.drop n1)) = Rt.pSum (Rt.pFactor f) (ts.drop n) := by
      unfold Rt.pSum Rt.pChain
      rw [hs]
    have hle1 := hr1.le
    go_wp2_with fail
    go_loopg [3] (ts.length - n1) (fun k _ wr => ∃ (n2 : Nat) (ov2 : Value) (em2 : List Pop) (g : Nat), k = ts.length - n2 ∧ k < g ∧ n < n2 ∧ em2.length + n ≤ n2 ∧
      Rt.joinE em2 (Rt.pLoop (Rt.pTerm (Rt.pFactor f)) 5 6 g (ts.drop n2)) = Rt.pSum (Rt.pFactor f) (ts.drop n) ∧ RdS wr R tv ts n2 ov2 (ops ++ em2) ∧ RFr R ov ov2 w wr)
    case atStart => exact ⟨n1, ov1, em, 25, rfl, by omega, hlt, hlen, hT, hr1, hfr1⟩
    case round =>
      clear hT hr1 hfr1 hs hlen hlt hle1
      obtain ⟨n2, ov2, em2, g, hk, hg, hlt, hlen, hT, hr2, hfr2⟩ := hrel
      have HT := hide hT
      have HK := hide hk
      clear hT hk
      obtain ⟨g, rfl⟩ : ∃ g', g = g' + 1 := ⟨g - 1, by omega⟩
      have hle2 := hr2.le
      have hops := hr.fewOps
      by_cases hn : n2 < ts.length
      · have hd : decide (n2 < ts.length) = true := by simpa using hn
        by_cases hx : Rt.opCode ts[n2].text < 5 ∨ 6 < Rt.opCode ts[n2].text
        · have HE := hide (loop_stop (unhide HT) hn hx)
          go_wp2_with fail
          refine (more_any _ _ _ _ _ _ _ hr2).mono ?_
          rintro e w2 ⟨rfl, q, rfl⟩
          rw [hd]
          obtain ⟨hr3, hfr3⟩ := hr2.quiet q
          go_wp2_with fail
          refine (operator_no _ _ _ _ _ _ _ _ _ hr3 hn hx).mono ?_
          rintro e w3 ⟨rfl, q2, rfl⟩
          obtain ⟨hr4, hfr4⟩ := hr3.quiet q2
          have HR := hide hr4
          have HFR := hide (hfr2.trans (hfr3.trans hfr4))
          clear hr4 hfr4 hr3 hfr3 hr2 hfr2
          go_wp2_with fail
          go_ret
          exact Or.inl ⟨em2, n2, ov2, unhide HE, rfl, hlen, hlt, (unhide HR).same rfl, (unhide HFR).same rfl rfl rfl rfl⟩
        · have h1 : 5 ≤ Rt.opCode ts[n2].text := by omega
          have h2 : Rt.opCode ts[n2].text ≤ 6 := by omega
          go_wp2_with fail
          refine (more_any _ _ _ _ _ _ _ hr2).mono ?_
          rintro e w2 ⟨rfl, q, rfl⟩
          rw [hd]
          obtain ⟨hr3, hfr3⟩ := hr2.quiet q
          go_wp2_with fail
          refine (operator_yes _ _ _ _ _ _ _ _ _ hr3 hn h1 h2).mono ?_
          rintro e w3 ⟨rfl, hr4, hfr4⟩
          have hz : (Rt.opCode ts[n2].text == 0) = false := by rw [beq_eq_false_iff_ne]; omega
          generalize hcode : Rt.opCode ts[n2].text = code at *
          have HC := hide hcode
          clear hcode hx
          go_wp2_with fail
          refine (hf _ _ _ _ _ _ _ hr4 (unhide HSM) (by omega)).mono ?_
          rintro e w4 (⟨em5, n5, ov5, hs5, rfl, hlen5, hlt5, hr5, hfr5⟩ | ⟨hs5, rfl, ov5, hfr5⟩)
          · have HN := hide (loop_next (unhide HT) hn (by rw [unhide HC]; exact h1) (by rw [unhide HC]; exact h2) hs5)
            clear hs5
            go_wp2_with fail
            refine (emit_any _ _ _ _ _ _ _ ⟨code, 0, ⟨#[]⟩⟩ hr5 (by have := hr5.fewOps; simp at this ⊢; omega)).mono ?_
            rintro e w5 ⟨rfl, ov6, hr6, hfr6⟩
            have HR := hide hr6
            have HFR := hide (hfr2.trans (hfr3.trans (hfr4.trans (hfr5.trans hfr6))))
            have hle5 := hr5.le
            clear hr2 hr3 hr4 hr5 hr6 hfr2 hfr3 hfr4 hfr5 hfr6
            go_wp2_with fail
            go_roundg (ts.length - n5)
            case measure => have := unhide HK; omega
            case rel => exact ⟨n5, ov6, em2 ++ em5 ++ [⟨code, 0, ⟨#[]⟩⟩], g, rfl, by have := unhide HK; omega, by omega, by simp; omega, by have := unhide HN; rw [unhide HC] at this; exact this, by have := unhide HR; simpa using this, unhide HFR⟩
          · have HN := hide (loop_none (unhide HT) hn (by rw [unhide HC]; exact h1) (by rw [unhide HC]; exact h2) hs5)
            clear hs5
            have HFR := hide (hfr2.trans (hfr3.trans (hfr4.trans hfr5)))
            clear hr2 hr3 hr4 hfr2 hfr3 hfr4 hfr5
            go_wp2_with fail
            go_ret
            exact Or.inr ⟨unhide HN, rfl, _, unhide HFR⟩
      · have HE := hide (loop_end (unhide HT) hn)
        have hd : decide (n2 < ts.length) = false := by simpa using hn
        go_wp2_with fail
        refine (more_any _ _ _ _ _ _ _ hr2).mono ?_
        rintro e w2 ⟨rfl, q, rfl⟩
        rw [hd]
        obtain ⟨hr3, hfr3⟩ := hr2.quiet q
        have HR := hide hr3
        have HFR := hide (hfr2.trans hfr3)
        clear hr3 hfr3 hr2 hfr2
        go_wp2_with fail
        go_ret
        exact Or.inl ⟨em2, n2, ov2, unhide HE, rfl, hlen, hlt, (unhide HR).same rfl, (unhide HFR).same rfl rfl rfl rfl⟩
  · have HS := hide hs
    clear hs
    go_wp2_with fail
    go_ret
    exact Or.inr ⟨by simp [Rt.pSum, Rt.pChain, unhide HS], rfl, _, hfr1⟩

end Go.Proofs.YtbpajiljfppjcaaGreat

namespace Go.Proofs.YtbpajiljfppjcaaGreat
open Go.RowKit

set_option maxHeartbeats 1000000 in
theorem comparison_any (f : Nat) (hf : Reads f 114 (Rt.pSum (Rt.pFactor f))) : Reads f 113 (Rt.pComp (Rt.pFactor f)) := by
  intro w R tv ts n ov ops hr hsm hle
  have HSM := hide hsm
  clear hsm
  have hfew := hr.few
  have hops := hr.fewOps
  go_enter Tryz.func113, Tryz.ntmps113
  go_wp2_with fail
  refine (hf _ _ _ _ _ _ _ hr (unhide HSM) hle).mono ?_
  rintro e w1 (⟨em, n1, ov1, hs, rfl, hlen, hlt, hr1, hfr1⟩ | ⟨hs, rfl, ov1, hfr1⟩)
  · by_cases hn : n1 < ts.length
    · by_cases hx : Rt.opCode ts[n1].text < 10 ∨ 11 < Rt.opCode ts[n1].text
      · have HE : Hid (Rt.pComp (Rt.pFactor f) (ts.drop n) = some (em, ts.drop n1)) := by
          refine hide ?_
          unfold Rt.pComp
          rw [hs, drop_at hn]
          simp only
          rw [if_neg (by omega)]
        clear hs
        go_wp2_with fail
        refine (operator_no _ _ _ _ _ _ _ _ _ hr1 hn hx).mono ?_
        rintro e w3 ⟨rfl, q2, rfl⟩
        obtain ⟨hr4, hfr4⟩ := hr1.quiet q2
        have HR := hide hr4
        have HFR := hide (hfr1.trans hfr4)
        clear hr4 hfr4 hr1 hfr1
        go_wp2_with fail
        go_ret
        exact Or.inl ⟨em, n1, ov1, unhide HE, rfl, hlen, hlt, unhide HR, unhide HFR⟩
      · have h1 : 10 ≤ Rt.opCode ts[n1].text := by omega
        have h2 : Rt.opCode ts[n1].text ≤ 11 := by omega
        have HE : Hid (∀ x, Rt.pSum (Rt.pFactor f) (ts.drop (n1 + 1)) = x → Rt.pComp (Rt.pFactor f) (ts.drop n) = (match x with | none => none | some (e', r') => some (em ++ e' ++ [⟨Rt.opCode ts[n1].text, 0, ⟨#[]⟩⟩], r'))) := by
          refine hide ?_
          intro x hx'
          unfold Rt.pComp
          rw [hs, drop_at hn]
          simp only
          rw [if_pos ⟨h1, h2⟩, hx']
          cases x <;> rfl
        clear hs hx
        go_wp2_with fail
        refine (operator_yes _ _ _ _ _ _ _ _ _ hr1 hn h1 h2).mono ?_
        rintro e w3 ⟨rfl, hr4, hfr4⟩
        have hz : (Rt.opCode ts[n1].text == 0) = false := by rw [beq_eq_false_iff_ne]; omega
        generalize hcode : Rt.opCode ts[n1].text = code at *
        clear hcode
        go_wp2_with fail
        refine (hf _ _ _ _ _ _ _ hr4 (unhide HSM) (by omega)).mono ?_
        rintro e w4 (⟨em5, n5, ov5, hs5, rfl, hlen5, hlt5, hr5, hfr5⟩ | ⟨hs5, rfl, ov5, hfr5⟩)
        · have HN := hide ((unhide HE) _ hs5)
          clear hs5
          go_wp2_with fail
          refine (emit_any _ _ _ _ _ _ _ ⟨code, 0, ⟨#[]⟩⟩ hr5 (by have := hr5.fewOps; simp at this ⊢; omega)).mono ?_
          rintro e w5 ⟨rfl, ov6, hr6, hfr6⟩
          have HR := hide hr6
          have HFR := hide (hfr1.trans (hfr4.trans (hfr5.trans hfr6)))
          clear hr1 hr4 hr5 hr6 hfr1 hfr4 hfr5 hfr6
          go_wp2_with fail
          go_ret
          exact Or.inl ⟨em ++ em5 ++ [⟨code, 0, ⟨#[]⟩⟩], n5, ov6, unhide HN, rfl, by simp; omega, by omega, by have := unhide HR; simpa using this, unhide HFR⟩
        · have HN := hide ((unhide HE) _ hs5)
          clear hs5
          have HFR := hide (hfr1.trans (hfr4.trans hfr5))
          clear hr1 hr4 hfr1 hfr4 hfr5
          go_wp2_with fail
          go_ret
          exact Or.inr ⟨unhide HN, rfl, _, unhide HFR⟩
    · have HE : Hid (Rt.pComp (Rt.pFactor f) (ts.drop n) = some (em, ts.drop n1)) := by
        refine hide ?_
        unfold Rt.pComp
        rw [hs, drop_end hn]
      clear hs
      go_wp2_with fail
      refine (operator_end _ _ _ _ _ _ _ _ _ hr1 hn).mono ?_
      rintro e w3 ⟨rfl, q2, rfl⟩
      obtain ⟨hr4, hfr4⟩ := hr1.quiet q2
      have HR := hide hr4
      have HFR := hide (hfr1.trans hfr4)
      clear hr4 hfr4 hr1 hfr1
      go_wp2_with fail
      go_ret
      exact Or.inl ⟨em, n1, ov1, unhide HE, rfl, hlen, hlt, unhide HR, unhide HFR⟩
  · have HE : Hid (Rt.pComp (Rt.pFactor f) (ts.drop n) = none) := by
      refine hide ?_
      unfold Rt.pComp
      rw [hs]
    clear hs
    go_wp2_with fail
    go_ret
    exact Or.inr ⟨unhide HE, rfl, _, hfr1⟩

set_option maxHeartbeats 400000 in
theorem variable_end (w : World) (R : Nat) (tv : Value) (ts : List Rt.Tk) (n : Nat) (ov : Value) (ops : List Pop) (hr : RdS w R tv ts n ov ops) (hn : ¬ n < ts.length) :
    Calls Tryz.prog 120 #[.pointer (some ⟨R, 0, none⟩)] w fun e w' => e = .returned (.bool false) ∧ ∃ q, w' = w.drewN q := by
  go_enter Tryz.func120, Tryz.ntmps120
  go_wp2_with fail
  refine (name_end _ _ _ _ _ _ _ hr hn).mono ?_
  rintro e w3 ⟨rfl, q2, rfl⟩
  go_wp2_with fail
  go_ret
  exact ⟨by simp, _, rfl⟩

/-- What variable reads: a name, or a cell. -/
def vspec (f : Nat) (t : Rt.Tk) (r : List Rt.Tk) : Rt.Got := if t.kind = 1 ∧ Rt.resv t.text = false then Rt.pVar (Rt.pComp (Rt.pFactor f)) t.text r else none

set_option maxHeartbeats 1000000 in
theorem variable_any (f : Nat) (hf : Reads f 113 (Rt.pComp (Rt.pFactor f))) (w : World) (R : Nat) (tv : Value) (ts : List Rt.Tk) (n : Nat) (ov : Value) (ops : List Pop)
    (hr : RdS w R tv ts n ov ops) (hsm : ∀ t ∈ ts, t.text.size ≤ 40000) (hn : n < ts.length) (hle : ts.length - (n + 1) ≤ f) :
    Calls Tryz.prog 120 #[.pointer (some ⟨R, 0, none⟩)] w fun e w' =>
      (∃ em n' ov', vspec f ts[n] (ts.drop (n + 1)) = some (em, ts.drop n') ∧ e = .returned (.bool true) ∧ em.length + n ≤ n' ∧ n < n' ∧ RdS w' R tv ts n' ov' (ops ++ em) ∧ RFr R ov ov' w w') ∨
      (vspec f ts[n] (ts.drop (n + 1)) = none ∧ e = .returned (.bool false) ∧ ∃ ov', RFr R ov ov' w w') := by
  have HSM := hide hsm
  clear hsm
  have hfew := hr.few
  have hops := hr.fewOps
  go_enter Tryz.func120, Tryz.ntmps120
  go_wp2_with fail
  refine (name_some _ _ _ _ _ _ _ hr hn).mono ?_
  rintro e w1 (⟨hk, hv, rfl, hr1, hfr1⟩ | ⟨hk, rfl, hr1, hfr1⟩)
  · have HV : Hid (vspec f ts[n] (ts.drop (n + 1)) = Rt.pVar (Rt.pComp (Rt.pFactor f)) ts[n].text (ts.drop (n + 1))) := by
      refine hide ?_
      unfold vspec
      rw [if_pos ⟨hk, hv⟩]
    clear hk hv
    generalize ts[n].text = nm at *
    by_cases hn1 : n + 1 < ts.length
    · by_cases hx : ts[n + 1].text = ⟨#[91]⟩
      · have HE : Hid (vspec f ts[n] (ts.drop (n + 1)) = Rt.closed ⟨#[93]⟩ [⟨3, 0, nm⟩] (Rt.pComp (Rt.pFactor f) (ts.drop (n + 1 + 1)))) := by
          refine hide ?_
          rw [unhide HV, drop_at hn1, Rt.pVar, if_pos hx]
        clear HV
        go_wp2_with fail
        refine (take_yes _ _ _ _ _ _ _ _ hr1 hn1 hx).mono ?_
        rintro e w2 ⟨rfl, hr2, hfr2⟩
        clear hx
        go_wp2_with fail
        refine (hf _ _ _ _ _ _ _ hr2 (unhide HSM) (by omega)).mono ?_
        rintro e w4 (⟨em5, n5, ov5, hs5, rfl, hlen5, hlt5, hr5, hfr5⟩ | ⟨hs5, rfl, ov5, hfr5⟩)
        · have hle5 := hr5.le
          rw [hs5] at HE
          clear hs5
          go_wp2_with fail
          refine (emit_any _ _ _ _ _ _ _ ⟨3, 0, nm⟩ hr5 (by have := hr5.fewOps; simp at this ⊢; omega)).mono ?_
          rintro e w5 ⟨rfl, ov6, hr6, hfr6⟩
          by_cases hn5 : n5 < ts.length
          · by_cases hx5 : ts[n5].text = ⟨#[93]⟩
            · have HG : Hid (vspec f ts[n] (ts.drop (n + 1)) = some (em5 ++ [⟨3, 0, nm⟩], ts.drop (n5 + 1))) := by
                refine hide ?_
                rw [unhide HE, drop_at hn5, Rt.closed, if_pos hx5]
              clear HE
              go_wp2_with fail
              refine (take_yes _ _ _ _ _ _ _ _ hr6 hn5 hx5).mono ?_
              rintro e w6 ⟨rfl, hr7, hfr7⟩
              have HR := hide hr7
              have HFR := hide (hfr1.trans (hfr2.trans (hfr5.trans (hfr6.trans hfr7))))
              clear hr1 hr2 hr5 hr6 hr7 hfr1 hfr2 hfr5 hfr6 hfr7 hx5
              go_wp2_with fail
              go_ret
              exact Or.inl ⟨em5 ++ [⟨3, 0, nm⟩], n5 + 1, ov6, unhide HG, rfl, by simp; omega, by omega, by have := unhide HR; simpa using this, unhide HFR⟩
            · have HG : Hid (vspec f ts[n] (ts.drop (n + 1)) = none) := by
                refine hide ?_
                rw [unhide HE, drop_at hn5, Rt.closed, if_neg hx5]
              clear HE
              go_wp2_with fail
              refine (take_no _ _ _ _ _ _ _ _ hr6 hn5 hx5).mono ?_
              rintro e w6 ⟨rfl, q, rfl⟩
              have HFR := hide (hfr1.trans (hfr2.trans (hfr5.trans (hfr6.trans (hr6.quiet q).2))))
              clear hr1 hr2 hr5 hr6 hfr1 hfr2 hfr5 hfr6 hx5
              go_wp2_with fail
              go_ret
              exact Or.inr ⟨unhide HG, rfl, _, unhide HFR⟩
          · have HG : Hid (vspec f ts[n] (ts.drop (n + 1)) = none) := by
              refine hide ?_
              rw [unhide HE, drop_end hn5, Rt.closed]
            clear HE
            go_wp2_with fail
            refine (take_end _ _ _ _ _ _ _ _ hr6 hn5).mono ?_
            rintro e w6 ⟨rfl, q, rfl⟩
            have HFR := hide (hfr1.trans (hfr2.trans (hfr5.trans (hfr6.trans (hr6.quiet q).2))))
            clear hr1 hr2 hr5 hr6 hfr1 hfr2 hfr5 hfr6
            go_wp2_with fail
            go_ret
            exact Or.inr ⟨unhide HG, rfl, _, unhide HFR⟩
        · have HG : Hid (vspec f ts[n] (ts.drop (n + 1)) = none) := by
            refine hide ?_
            rw [unhide HE, hs5, Rt.closed]
          clear HE hs5
          have HFR := hide (hfr1.trans (hfr2.trans hfr5))
          clear hr1 hr2 hfr1 hfr2 hfr5
          go_wp2_with fail
          go_ret
          exact Or.inr ⟨unhide HG, rfl, _, unhide HFR⟩
      · have HG : Hid (vspec f ts[n] (ts.drop (n + 1)) = some ([⟨2, 0, nm⟩], ts.drop (n + 1))) := by
          refine hide ?_
          rw [unhide HV, drop_at hn1, Rt.pVar, if_neg hx]
        clear HV
        go_wp2_with fail
        refine (take_no _ _ _ _ _ _ _ _ hr1 hn1 hx).mono ?_
        rintro e w6 ⟨rfl, q, rfl⟩
        obtain ⟨hr2, hfr2⟩ := hr1.quiet q
        clear hx
        go_wp2_with fail
        refine (emit_any _ _ _ _ _ _ _ ⟨2, 0, nm⟩ hr2 (by omega)).mono ?_
        rintro e w5 ⟨rfl, ov6, hr6, hfr6⟩
        have HR := hide hr6
        have HFR := hide (hfr1.trans (hfr2.trans hfr6))
        clear hr1 hr2 hr6 hfr1 hfr2 hfr6
        go_wp2_with fail
        go_ret
        exact Or.inl ⟨[⟨2, 0, nm⟩], n + 1, ov6, unhide HG, rfl, by simp; omega, by omega, unhide HR, unhide HFR⟩
    · have HG : Hid (vspec f ts[n] (ts.drop (n + 1)) = some ([⟨2, 0, nm⟩], ts.drop (n + 1))) := by
        refine hide ?_
        rw [unhide HV, drop_end hn1, Rt.pVar]
      clear HV
      go_wp2_with fail
      refine (take_end _ _ _ _ _ _ _ _ hr1 hn1).mono ?_
      rintro e w6 ⟨rfl, q, rfl⟩
      obtain ⟨hr2, hfr2⟩ := hr1.quiet q
      go_wp2_with fail
      refine (emit_any _ _ _ _ _ _ _ ⟨2, 0, nm⟩ hr2 (by omega)).mono ?_
      rintro e w5 ⟨rfl, ov6, hr6, hfr6⟩
      have HR := hide hr6
      have HFR := hide (hfr1.trans (hfr2.trans hfr6))
      clear hr1 hr2 hr6 hfr1 hfr2 hfr6
      go_wp2_with fail
      go_ret
      exact Or.inl ⟨[⟨2, 0, nm⟩], n + 1, ov6, unhide HG, rfl, by simp; omega, by omega, unhide HR, unhide HFR⟩
  · have HG : Hid (vspec f ts[n] (ts.drop (n + 1)) = none) := by
      refine hide ?_
      unfold vspec
      rw [if_neg hk]
    clear hk
    have HFR := hide hfr1
    clear hr1 hfr1
    go_wp2_with fail
    go_ret
    exact Or.inr ⟨unhide HG, rfl, _, unhide HFR⟩

end Go.Proofs.YtbpajiljfppjcaaGreat

