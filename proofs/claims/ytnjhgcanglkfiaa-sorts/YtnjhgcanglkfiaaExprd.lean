/- The walks of the reader of expressions: factors, and all of them. -/
import Derived.Test.YtnjhgcanglkfiaaExprc
namespace Go.Proofs.Ytnjhgcanglkfiaa
open Go.RowKit

theorem take_end' (w : World) (R : Nat) (tv : Value) (ts : List Rt.Tk) (n : Nat) (ov : Value) (ops : List Pop) (x : ByteArray) (hr : RdS w R tv ts n ov ops) (hn : ¬ n < ts.length) :
    Calls Try.prog 80 #[.pointer (some ⟨R, 0, none⟩), .string x] w fun e w' => e = .returned (.bool false) ∧ RdS w' R tv ts n ov ops ∧ RFr R ov ov w w' :=
  (take_end w R tv ts n ov ops x hr hn).mono (by rintro e w' ⟨rfl, q, rfl⟩; exact ⟨rfl, hr.quiet q⟩)
theorem take_no' (w : World) (R : Nat) (tv : Value) (ts : List Rt.Tk) (n : Nat) (ov : Value) (ops : List Pop) (x : ByteArray) (hr : RdS w R tv ts n ov ops) (hn : n < ts.length) (hx : ¬ ts[n].text = x) :
    Calls Try.prog 80 #[.pointer (some ⟨R, 0, none⟩), .string x] w fun e w' => e = .returned (.bool false) ∧ RdS w' R tv ts n ov ops ∧ RFr R ov ov w w' :=
  (take_no w R tv ts n ov ops x hr hn hx).mono (by rintro e w' ⟨rfl, q, rfl⟩; exact ⟨rfl, hr.quiet q⟩)
theorem number_end' (w : World) (R : Nat) (tv : Value) (ts : List Rt.Tk) (n : Nat) (ov : Value) (ops : List Pop) (hr : RdS w R tv ts n ov ops) (hn : ¬ n < ts.length) :
    Calls Try.prog 78 #[.pointer (some ⟨R, 0, none⟩)] w fun e w' => e = .returned (.tuple #[.int .i64 0, .bool false]) ∧ RdS w' R tv ts n ov ops ∧ RFr R ov ov w w' :=
  (number_end w R tv ts n ov ops hr hn).mono (by rintro e w' ⟨rfl, q, rfl⟩; exact ⟨rfl, hr.quiet q⟩)
theorem number_no' (w : World) (R : Nat) (tv : Value) (ts : List Rt.Tk) (n : Nat) (ov : Value) (ops : List Pop) (hr : RdS w R tv ts n ov ops) (hn : n < ts.length) (hk : ¬ ts[n].kind = 2) :
    Calls Try.prog 78 #[.pointer (some ⟨R, 0, none⟩)] w fun e w' => e = .returned (.tuple #[.int .i64 0, .bool false]) ∧ RdS w' R tv ts n ov ops ∧ RFr R ov ov w w' :=
  (number_no w R tv ts n ov ops hr hn hk).mono (by rintro e w' ⟨rfl, q, rfl⟩; exact ⟨rfl, hr.quiet q⟩)
theorem variable_end' (w : World) (R : Nat) (tv : Value) (ts : List Rt.Tk) (n : Nat) (ov : Value) (ops : List Pop) (hr : RdS w R tv ts n ov ops) (hn : ¬ n < ts.length) :
    Calls Try.prog 91 #[.pointer (some ⟨R, 0, none⟩)] w fun e w' => e = .returned (.bool false) ∧ RdS w' R tv ts n ov ops ∧ RFr R ov ov w w' :=
  (variable_end w R tv ts n ov ops hr hn).mono (by rintro e w' ⟨rfl, q, rfl⟩; exact ⟨rfl, hr.quiet q⟩)
theorem name_end' (w : World) (R : Nat) (tv : Value) (ts : List Rt.Tk) (n : Nat) (ov : Value) (ops : List Pop) (hr : RdS w R tv ts n ov ops) (hn : ¬ n < ts.length) :
    Calls Try.prog 77 #[.pointer (some ⟨R, 0, none⟩)] w fun e w' => e = .returned (.tuple #[.string ⟨#[]⟩, .bool false]) ∧ RdS w' R tv ts n ov ops ∧ RFr R ov ov w w' :=
  (name_end w R tv ts n ov ops hr hn).mono (by rintro e w' ⟨rfl, q, rfl⟩; exact ⟨rfl, hr.quiet q⟩)

set_option maxHeartbeats 1000000 in
theorem factor_end (w : World) (R : Nat) (tv : Value) (ts : List Rt.Tk) (n : Nat) (ov : Value) (ops : List Pop) (hr : RdS w R tv ts n ov ops) (hn : ¬ n < ts.length) :
    Calls Try.prog 90 #[.pointer (some ⟨R, 0, none⟩)] w fun e w' => e = .returned (.bool false) ∧ RdS w' R tv ts n ov ops ∧ RFr R ov ov w w' := by
  go_enter Try.func90, Try.ntmps90
  go_wp2_with fail
  refine (take_end' _ _ _ _ _ _ _ _ hr hn).mono ?_
  rintro e w1 ⟨rfl, hr1, hfr1⟩
  go_wp2_with fail
  refine (take_end' _ _ _ _ _ _ _ _ hr1 hn).mono ?_
  rintro e w2 ⟨rfl, hr2, hfr2⟩
  go_wp2_with fail
  refine (number_end' _ _ _ _ _ _ _ hr2 hn).mono ?_
  rintro e w3 ⟨rfl, hr3, hfr3⟩
  go_wp2_with fail
  refine (variable_end' _ _ _ _ _ _ _ hr3 hn).mono ?_
  rintro e w4 ⟨rfl, hr4, hfr4⟩
  have HR := hide hr4
  have HFR := hide (hfr1.trans (hfr2.trans (hfr3.trans hfr4)))
  clear hr1 hr2 hr3 hr4 hfr1 hfr2 hfr3 hfr4
  go_wp2_with fail
  go_ret
  exact ⟨rfl, unhide HR, unhide HFR⟩

set_option maxHeartbeats 1000000 in
theorem factor_any (f : Nat) (hf : Reads f 90 (Rt.pFactor f)) (hc : Reads f 84 (Rt.pComp (Rt.pFactor f))) :
    Reads (f + 1) 90 (Rt.pFactor (f + 1)) := by
  intro w R tv ts n ov ops hr hsm hle
  by_cases hn : n < ts.length
  case neg =>
    refine (factor_end _ _ _ _ _ _ _ hr hn).mono ?_
    rintro e w1 ⟨rfl, _, hfr⟩
    exact Or.inr ⟨by rw [drop_end hn, Rt.pFactor], rfl, _, hfr⟩
  have HSM := hide hsm
  clear hsm
  have hfew := hr.few
  have hops := hr.fewOps
  by_cases hm : ts[n].text = ⟨#[45]⟩
  · have HE : Hid (∀ x, Rt.pFactor f (ts.drop (n + 1)) = x → Rt.pFactor (f + 1) (ts.drop n) = (match x with | none => none | some (e', r') => some (e' ++ [⟨4, 0, ⟨#[]⟩⟩], r'))) := by
      refine hide ?_
      intro x hx
      rw [drop_at hn, Rt.pFactor, if_pos hm, hx]
      cases x <;> rfl
    go_enter Try.func90, Try.ntmps90
    go_wp2_with fail
    refine (take_yes _ _ _ _ _ _ _ _ hr hn hm).mono ?_
    rintro e w1 ⟨rfl, hr1, hfr1⟩
    clear hm
    go_wp2_with fail
    refine (hf _ _ _ _ _ _ _ hr1 (unhide HSM) (by omega)).mono ?_
    rintro e w4 (⟨em5, n5, ov5, hs5, rfl, hlen5, hlt5, hr5, hfr5⟩ | ⟨hs5, rfl, ov5, hfr5⟩)
    · have HN := hide ((unhide HE) _ hs5)
      clear hs5
      go_wp2_with fail
      refine (emit_any _ _ _ _ _ _ _ ⟨4, 0, ⟨#[]⟩⟩ hr5 (by have := hr5.fewOps; simp at this ⊢; omega)).mono ?_
      rintro e w5 ⟨rfl, ov6, hr6, hfr6⟩
      have HR := hide hr6
      have HFR := hide (hfr1.trans (hfr5.trans hfr6))
      clear hr1 hr5 hr6 hfr1 hfr5 hfr6
      go_wp2_with fail
      go_ret
      exact Or.inl ⟨em5 ++ [⟨4, 0, ⟨#[]⟩⟩], n5, ov6, unhide HN, rfl, by simp; omega, by omega, by have := unhide HR; simpa using this, unhide HFR⟩
    · have HN := hide ((unhide HE) _ hs5)
      clear hs5
      have HFR := hide (hfr1.trans hfr5)
      clear hr1 hfr1 hfr5
      go_wp2_with fail
      go_ret
      exact Or.inr ⟨unhide HN, rfl, _, unhide HFR⟩
  by_cases hp : ts[n].text = ⟨#[40]⟩
  · have HE : Hid (Rt.pFactor (f + 1) (ts.drop n) = Rt.closed ⟨#[41]⟩ [] (Rt.pComp (Rt.pFactor f) (ts.drop (n + 1)))) := by
      refine hide ?_
      rw [drop_at hn, Rt.pFactor, if_neg hm, if_pos hp]
    go_enter Try.func90, Try.ntmps90
    go_wp2_with fail
    refine (take_no' _ _ _ _ _ _ _ _ hr hn hm).mono ?_
    rintro e w0 ⟨rfl, hr0, hfr0⟩
    clear hm
    go_wp2_with fail
    refine (take_yes _ _ _ _ _ _ _ _ hr0 hn hp).mono ?_
    rintro e w1 ⟨rfl, hr1, hfr1⟩
    clear hp
    go_wp2_with fail
    refine (hc _ _ _ _ _ _ _ hr1 (unhide HSM) (by omega)).mono ?_
    rintro e w4 (⟨em5, n5, ov5, hs5, rfl, hlen5, hlt5, hr5, hfr5⟩ | ⟨hs5, rfl, ov5, hfr5⟩)
    · have hle5 := hr5.le
      rw [hs5] at HE
      clear hs5
      by_cases hn5 : n5 < ts.length
      · by_cases hx5 : ts[n5].text = ⟨#[41]⟩
        · have HG : Hid (Rt.pFactor (f + 1) (ts.drop n) = some (em5, ts.drop (n5 + 1))) := by
            refine hide ?_
            rw [unhide HE, drop_at hn5, Rt.closed, if_pos hx5, List.append_nil]
          clear HE
          go_wp2_with fail
          refine (take_yes _ _ _ _ _ _ _ _ hr5 hn5 hx5).mono ?_
          rintro e w6 ⟨rfl, hr7, hfr7⟩
          have HR := hide hr7
          have HFR := hide (hfr0.trans (hfr1.trans (hfr5.trans hfr7)))
          clear hr0 hr1 hr5 hr7 hfr0 hfr1 hfr5 hfr7 hx5
          go_wp2_with fail
          go_ret
          exact Or.inl ⟨em5, n5 + 1, ov5, unhide HG, rfl, by omega, by omega, unhide HR, unhide HFR⟩
        · have HG : Hid (Rt.pFactor (f + 1) (ts.drop n) = none) := by
            refine hide ?_
            rw [unhide HE, drop_at hn5, Rt.closed, if_neg hx5]
          clear HE
          go_wp2_with fail
          refine (take_no' _ _ _ _ _ _ _ _ hr5 hn5 hx5).mono ?_
          rintro e w6 ⟨rfl, hr7, hfr7⟩
          have HFR := hide (hfr0.trans (hfr1.trans (hfr5.trans hfr7)))
          clear hr0 hr1 hr5 hr7 hfr0 hfr1 hfr5 hfr7 hx5
          go_wp2_with fail
          go_ret
          exact Or.inr ⟨unhide HG, rfl, _, unhide HFR⟩
      · have HG : Hid (Rt.pFactor (f + 1) (ts.drop n) = none) := by
          refine hide ?_
          rw [unhide HE, drop_end hn5, Rt.closed]
        clear HE
        go_wp2_with fail
        refine (take_end' _ _ _ _ _ _ _ _ hr5 hn5).mono ?_
        rintro e w6 ⟨rfl, hr7, hfr7⟩
        have HFR := hide (hfr0.trans (hfr1.trans (hfr5.trans hfr7)))
        clear hr0 hr1 hr5 hr7 hfr0 hfr1 hfr5 hfr7
        go_wp2_with fail
        go_ret
        exact Or.inr ⟨unhide HG, rfl, _, unhide HFR⟩
    · have HG : Hid (Rt.pFactor (f + 1) (ts.drop n) = none) := by
        refine hide ?_
        rw [unhide HE, hs5, Rt.closed]
      clear HE hs5
      have HFR := hide (hfr0.trans (hfr1.trans hfr5))
      clear hr0 hr1 hfr0 hfr1 hfr5
      go_wp2_with fail
      go_ret
      exact Or.inr ⟨unhide HG, rfl, _, unhide HFR⟩
  by_cases hk : ts[n].kind = 2
  · have HE : Hid (Rt.pFactor (f + 1) (ts.drop n) = some ([⟨1, Rt.val ts[n].text, ⟨#[]⟩⟩], ts.drop (n + 1))) := by
      refine hide ?_
      rw [drop_at hn, Rt.pFactor, if_neg hm, if_neg hp, if_pos hk]
    have hsz : ts[n].text.size ≤ maxLen := by
      have := (unhide HSM) ts[n] (List.getElem_mem hn)
      unfold maxLen
      omega
    go_enter Try.func90, Try.ntmps90
    go_wp2_with fail
    refine (take_no' _ _ _ _ _ _ _ _ hr hn hm).mono ?_
    rintro e w0 ⟨rfl, hr0, hfr0⟩
    clear hm
    go_wp2_with fail
    refine (take_no' _ _ _ _ _ _ _ _ hr0 hn hp).mono ?_
    rintro e w1 ⟨rfl, hr1, hfr1⟩
    clear hp
    go_wp2_with fail
    refine (number_yes _ _ _ _ _ _ _ hr1 hn hk hsz).mono ?_
    rintro e w2 ⟨rfl, hr2, hfr2⟩
    clear hk hsz
    go_wp2_with fail
    refine (emit_any _ _ _ _ _ _ _ ⟨1, Rt.val ts[n].text, ⟨#[]⟩⟩ hr2 (by omega)).mono ?_
    rintro e w5 ⟨rfl, ov6, hr6, hfr6⟩
    have HR := hide hr6
    have HFR := hide (hfr0.trans (hfr1.trans (hfr2.trans hfr6)))
    clear hr0 hr1 hr2 hr6 hfr0 hfr1 hfr2 hfr6
    go_wp2_with fail
    go_ret
    exact Or.inl ⟨_, n + 1, ov6, unhide HE, rfl, by simp; omega, by omega, unhide HR, unhide HFR⟩
  · have HE : Hid (Rt.pFactor (f + 1) (ts.drop n) = vspec f ts[n] (ts.drop (n + 1))) := by
      refine hide ?_
      rw [drop_at hn, Rt.pFactor, if_neg hm, if_neg hp, if_neg hk]
      rfl
    go_enter Try.func90, Try.ntmps90
    go_wp2_with fail
    refine (take_no' _ _ _ _ _ _ _ _ hr hn hm).mono ?_
    rintro e w0 ⟨rfl, hr0, hfr0⟩
    clear hm
    go_wp2_with fail
    refine (take_no' _ _ _ _ _ _ _ _ hr0 hn hp).mono ?_
    rintro e w1 ⟨rfl, hr1, hfr1⟩
    clear hp
    go_wp2_with fail
    refine (number_no' _ _ _ _ _ _ _ hr1 hn hk).mono ?_
    rintro e w2 ⟨rfl, hr2, hfr2⟩
    clear hk
    go_wp2_with fail
    refine (variable_any f hc _ _ _ _ _ _ _ hr2 (unhide HSM) hn (by omega)).mono ?_
    rintro e w4 (⟨em5, n5, ov5, hs5, rfl, hlen5, hlt5, hr5, hfr5⟩ | ⟨hs5, rfl, ov5, hfr5⟩)
    · have HG := hide ((unhide HE).trans hs5)
      have HR := hide hr5
      have HFR := hide (hfr0.trans (hfr1.trans (hfr2.trans hfr5)))
      clear hr0 hr1 hr2 hr5 hfr0 hfr1 hfr2 hfr5 hs5
      go_wp2_with fail
      go_ret
      exact Or.inl ⟨_, n5, ov5, unhide HG, rfl, by omega, by omega, unhide HR, unhide HFR⟩
    · have HG := hide ((unhide HE).trans hs5)
      have HFR := hide (hfr0.trans (hfr1.trans (hfr2.trans hfr5)))
      clear hr0 hr1 hr2 hfr0 hfr1 hfr2 hfr5 hs5
      go_wp2_with fail
      go_ret
      exact Or.inr ⟨unhide HG, rfl, _, unhide HFR⟩

theorem factor_all (f : Nat) : Reads f 90 (Rt.pFactor f) := by
  induction f with
  | zero =>
    intro w R tv ts n ov ops hr hsm hle
    refine (factor_end _ _ _ _ _ _ _ hr (by omega)).mono ?_
    rintro e w1 ⟨rfl, _, hfr⟩
    exact Or.inr ⟨by rw [Rt.pFactor], rfl, _, hfr⟩
  | succ f ih => exact factor_any f ih (comparison_any f (sum_any f (term_any f ih)))

theorem comparison_all (f : Nat) : Reads f 84 (Rt.pComp (Rt.pFactor f)) := comparison_any f (sum_any f (term_any f (factor_all f)))

end Go.Proofs.Ytnjhgcanglkfiaa

