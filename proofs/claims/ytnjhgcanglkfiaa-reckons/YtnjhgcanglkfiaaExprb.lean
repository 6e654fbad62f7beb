/- The walks of the reader of expressions: sums. -/
import Derived.Test.YtnjhgcanglkfiaaGram
import Derived.Deep.LoopGhost
namespace Go.Proofs.Ytnjhgcanglkfiaa
open Go.RowKit


/-- What a reader's method for a piece of an expression says. -/
def Reads (f : Nat) (fn : FuncId) (spec : List Rt.Tk → Rt.Got) : Prop :=
  ∀ (w : World) (R : Nat) (tv : Value) (ts : List Rt.Tk) (n : Nat) (ov : Value) (ops : List Pop), RdS w R tv ts n ov ops → (∀ t ∈ ts, t.text.size ≤ 40000) → ts.length - n ≤ f →
    Calls Try.prog fn #[.pointer (some ⟨R, 0, none⟩)] w fun e w' =>
      (∃ em n' ov', spec (ts.drop n) = some (em, ts.drop n') ∧ e = .returned (.bool true) ∧ em.length + n ≤ n' ∧ n < n' ∧ RdS w' R tv ts n' ov' (ops ++ em) ∧ RFr R ov ov' w w') ∨
      (spec (ts.drop n) = none ∧ e = .returned (.bool false) ∧ ∃ ov', RFr R ov ov' w w')

theorem drop_at {ts : List Rt.Tk} {n : Nat} (h : n < ts.length) : ts.drop n = ts[n] :: ts.drop (n + 1) := List.drop_eq_getElem_cons h
theorem drop_end {ts : List Rt.Tk} {n : Nat} (h : ¬ n < ts.length) : ts.drop n = [] := List.drop_eq_nil_of_le (by omega)

theorem RdS.quiet {w : World} {R : Nat} {tv : Value} {ts : List Rt.Tk} {n : Nat} {ov : Value} {ops : List Pop} (hr : RdS w R tv ts n ov ops) (q : Nat) : RdS (w.drewN q) R tv ts n ov ops ∧ RFr R ov ov w (w.drewN q) :=
  hr.later (below_drewN w q)

/-- A round of the loop: what is told of the whole by what is left. -/
theorem loop_end {pf : List Rt.Tk → Rt.Got} {lo hi : Int} {g n1 : Nat} {ts : List Rt.Tk} {em : List Pop} {tot : Rt.Got} (h : Rt.joinE em (Rt.pLoop pf lo hi (g + 1) (ts.drop n1)) = tot) (hn : ¬ n1 < ts.length) : tot = some (em, ts.drop n1) := by
  rw [← h, drop_end hn]; simp [Rt.pLoop, Rt.joinE]
theorem loop_stop {pf : List Rt.Tk → Rt.Got} {lo hi : Int} {g n1 : Nat} {ts : List Rt.Tk} {em : List Pop} {tot : Rt.Got} (h : Rt.joinE em (Rt.pLoop pf lo hi (g + 1) (ts.drop n1)) = tot) (hn : n1 < ts.length)
    (hx : Rt.opCode ts[n1].text < lo ∨ hi < Rt.opCode ts[n1].text) : tot = some (em, ts.drop n1) := by
  rw [← h, drop_at hn, Rt.pLoop, if_neg (by omega)]; simp [Rt.joinE]
theorem loop_none {pf : List Rt.Tk → Rt.Got} {lo hi : Int} {g n1 : Nat} {ts : List Rt.Tk} {em : List Pop} {tot : Rt.Got} (h : Rt.joinE em (Rt.pLoop pf lo hi (g + 1) (ts.drop n1)) = tot) (hn : n1 < ts.length)
    (h1 : lo ≤ Rt.opCode ts[n1].text) (h2 : Rt.opCode ts[n1].text ≤ hi) (hp : pf (ts.drop (n1 + 1)) = none) : tot = none := by
  rw [← h, drop_at hn, Rt.pLoop, if_pos ⟨h1, h2⟩, hp]; simp [Rt.joinE]
theorem loop_next {pf : List Rt.Tk → Rt.Got} {lo hi : Int} {g n1 n2 : Nat} {ts : List Rt.Tk} {em em2 : List Pop} {tot : Rt.Got} (h : Rt.joinE em (Rt.pLoop pf lo hi (g + 1) (ts.drop n1)) = tot) (hn : n1 < ts.length)
    (h1 : lo ≤ Rt.opCode ts[n1].text) (h2 : Rt.opCode ts[n1].text ≤ hi) (hp : pf (ts.drop (n1 + 1)) = some (em2, ts.drop n2)) :
    Rt.joinE (em ++ em2 ++ [⟨Rt.opCode ts[n1].text, 0, ⟨#[]⟩⟩]) (Rt.pLoop pf lo hi g (ts.drop n2)) = tot := by
  rw [← h, drop_at hn, Rt.pLoop, if_pos ⟨h1, h2⟩, hp]
  cases hq : Rt.pLoop pf lo hi g (ts.drop n2) with
  | none => simp [Rt.joinE, hq]
  | some x => simp [Rt.joinE, hq]

set_option maxHeartbeats 1000000 in
theorem term_any (f : Nat) (hf : Reads f 90 (Rt.pFactor f)) : Reads f 88 (Rt.pTerm (Rt.pFactor f)) := by
  intro w R tv ts n ov ops hr hsm hle
  have HSM := hide hsm
  clear hsm
  have hfew := hr.few
  go_enter Try.func88, Try.ntmps88
  go_wp2_with fail
  refine (hf _ _ _ _ _ _ _ hr (unhide HSM) hle).mono ?_
  rintro e w1 (⟨em, n1, ov1, hs, rfl, hlen, hlt, hr1, hfr1⟩ | ⟨hs, rfl, ov1, hfr1⟩)
  · have hT : Rt.joinE em (Rt.pLoop (Rt.pFactor f) 7 9 25 (ts.drop n1)) = Rt.pTerm (Rt.pFactor f) (ts.drop n) := by
      unfold Rt.pTerm Rt.pChain
      rw [hs]
    have hle1 := hr1.le
    go_wp2_with fail
    go_loopg [3] (ts.length - n1) (fun k _ wr => ∃ (n2 : Nat) (ov2 : Value) (em2 : List Pop) (g : Nat), k = ts.length - n2 ∧ k < g ∧ n < n2 ∧ em2.length + n ≤ n2 ∧
      Rt.joinE em2 (Rt.pLoop (Rt.pFactor f) 7 9 g (ts.drop n2)) = Rt.pTerm (Rt.pFactor f) (ts.drop n) ∧ RdS wr R tv ts n2 ov2 (ops ++ em2) ∧ RFr R ov ov2 w wr)
    case atStart => exact ⟨n1, ov1, em, 25, rfl, by omega, hlt, hlen, hT, hr1, hfr1⟩
    case round =>
      clear hT hr1 hfr1 hs hlen hlt hle1
      obtain ⟨n2, ov2, em2, g, hk, hg, hlt, hlen, hT, hr2, hfr2⟩ := hrel
      have HT := hide hT
      have HK := hide hk
      clear hT hk
      obtain ⟨g, rfl⟩ : ∃ g', g = g' + 1 := ⟨g - 1, by omega⟩
      have hle2 := hr2.le
      have hops := hr.fewOps
      by_cases hn : n2 < ts.length
      · have hd : decide (n2 < ts.length) = true := by simpa using hn
        by_cases hx : Rt.opCode ts[n2].text < 7 ∨ 9 < Rt.opCode ts[n2].text
        · have HE := hide (loop_stop (unhide HT) hn hx)
          go_wp2_with fail
          refine (more_any _ _ _ _ _ _ _ hr2).mono ?_
          rintro e w2 ⟨rfl, q, rfl⟩
          rw [hd]
          obtain ⟨hr3, hfr3⟩ := hr2.quiet q
          go_wp2_with fail
          refine (operator_no _ _ _ _ _ _ _ _ _ hr3 hn hx).mono ?_
          rintro e w3 ⟨rfl, q2, rfl⟩
          obtain ⟨hr4, hfr4⟩ := hr3.quiet q2
          have HR := hide hr4
          have HFR := hide (hfr2.trans (hfr3.trans hfr4))
          clear hr4 hfr4 hr3 hfr3 hr2 hfr2
          go_wp2_with fail
          go_ret
          exact Or.inl ⟨em2, n2, ov2, unhide HE, rfl, hlen, hlt, (unhide HR).same rfl, (unhide HFR).same rfl rfl rfl rfl⟩
        · have h1 : 7 ≤ Rt.opCode ts[n2].text := by omega
          have h2 : Rt.opCode ts[n2].text ≤ 9 := by omega
          go_wp2_with fail
          refine (more_any _ _ _ _ _ _ _ hr2).mono ?_
          rintro e w2 ⟨rfl, q, rfl⟩
          rw [hd]
          obtain ⟨hr3, hfr3⟩ := hr2.quiet q
          go_wp2_with fail
          refine (operator_yes _ _ _ _ _ _ _ _ _ hr3 hn h1 h2).mono ?_
          rintro e w3 ⟨rfl, hr4, hfr4⟩
          have hz : (Rt.opCode ts[n2].text == 0) = false := by rw [beq_eq_false_iff_ne]; omega
          generalize hcode : Rt.opCode ts[n2].text = code at *
          have HC := hide hcode
          clear hcode hx
          go_wp2_with fail
          refine (hf _ _ _ _ _ _ _ hr4 (unhide HSM) (by omega)).mono ?_
          rintro e w4 (⟨em5, n5, ov5, hs5, rfl, hlen5, hlt5, hr5, hfr5⟩ | ⟨hs5, rfl, ov5, hfr5⟩)
          · have HN := hide (loop_next (unhide HT) hn (by rw [unhide HC]; exact h1) (by rw [unhide HC]; exact h2) hs5)
            clear hs5
            go_wp2_with fail
            refine (emit_any _ _ _ _ _ _ _ ⟨code, 0, ⟨#[]⟩⟩ hr5 (by have := hr5.fewOps; simp at this ⊢; omega)).mono ?_
            rintro e w5 ⟨rfl, ov6, hr6, hfr6⟩
            have HR := hide hr6
            have HFR := hide (hfr2.trans (hfr3.trans (hfr4.trans (hfr5.trans hfr6))))
            have hle5 := hr5.le
            clear hr2 hr3 hr4 hr5 hr6 hfr2 hfr3 hfr4 hfr5 hfr6
            go_wp2_with fail
            go_roundg (ts.length - n5)
            case measure => have := unhide HK; omega
            case rel => exact ⟨n5, ov6, em2 ++ em5 ++ [⟨code, 0, ⟨#[]⟩⟩], g, rfl, by have := unhide HK; omega, by omega, by simp; omega, by have := unhide HN; rw [unhide HC] at this; exact this, by have := unhide HR; simpa using this, unhide HFR⟩
          · have HN := hide (loop_none (unhide HT) hn (by rw [unhide HC]; exact h1) (by rw [unhide HC]; exact h2) hs5)
            clear hs5
            have HFR := hide (hfr2.trans (hfr3.trans (hfr4.trans hfr5)))
            clear hr2 hr3 hr4 hfr2 hfr3 hfr4 hfr5
            go_wp2_with fail
            go_ret
            exact Or.inr ⟨unhide HN, rfl, _, unhide HFR⟩
      · have HE := hide (loop_end (unhide HT) hn)
        have hd : decide (n2 < ts.length) = false := by simpa using hn
        go_wp2_with fail
        refine (more_any _ _ _ _ _ _ _ hr2).mono ?_
        rintro e w2 ⟨rfl, q, rfl⟩
        rw [hd]
        obtain ⟨hr3, hfr3⟩ := hr2.quiet q
        have HR := hide hr3
        have HFR := hide (hfr2.trans hfr3)
        clear hr3 hfr3 hr2 hfr2
        go_wp2_with fail
        go_ret
        exact Or.inl ⟨em2, n2, ov2, unhide HE, rfl, hlen, hlt, (unhide HR).same rfl, (unhide HFR).same rfl rfl rfl rfl⟩
  · have HS := hide hs
    clear hs
    go_wp2_with fail
    go_ret
    exact Or.inr ⟨by simp [Rt.pTerm, Rt.pChain, unhide HS], rfl, _, hfr1⟩

end Go.Proofs.Ytnjhgcanglkfiaa

namespace Go.Proofs.Ytnjhgcanglkfiaa
open Go.RowKit

set_option maxHeartbeats 1000000 in
theorem sum_any (f : Nat) (hf : Reads f 88 (Rt.pTerm (Rt.pFactor f))) : Reads f 85 (Rt.pSum (Rt.pFactor f)) := by
  intro w R tv ts n ov ops hr hsm hle
  have HSM := hide hsm
  clear hsm
  have hfew := hr.few
  go_enter Try.func85, Try.ntmps85
  go_wp2_with fail
  refine (hf _ _ _ _ _ _ _ hr (unhide HSM) hle).mono ?_
  rintro e w1 (⟨em, n1, ov1, hs, rfl, hlen, hlt, hr1, hfr1⟩ | ⟨hs, rfl, ov1, hfr1⟩)
  · have hT : Rt.joinE em (Rt.pLoop (Rt.pTerm (Rt.pFactor f)) 5 6 25 (ts.drop n1)) = Rt.pSum (Rt.pFactor f) (ts.drop n) := by
      unfold Rt.pSum Rt.pChain
      rw [hs]
    have hle1 := hr1.le
    go_wp2_with fail
    go_loopg [3] (ts.length - n1) (fun k _ wr => ∃ (n2 : Nat) (ov2 : Value) (em2 : List Pop) (g : Nat), k = ts.length - n2 ∧ k < g ∧ n < n2 ∧ em2.length + n ≤ n2 ∧
      Rt.joinE em2 (Rt.pLoop (Rt.pTerm (Rt.pFactor f)) 5 6 g (ts.drop n2)) = Rt.pSum (Rt.pFactor f) (ts.drop n) ∧ RdS wr R tv ts n2 ov2 (ops ++ em2) ∧ RFr R ov ov2 w wr)
    case atStart => exact ⟨n1, ov1, em, 25, rfl, by omega, hlt, hlen, hT, hr1, hfr1⟩
    case round =>
      clear hT hr1 hfr1 hs hlen hlt hle1
      obtain ⟨n2, ov2, em2, g, hk, hg, hlt, hlen, hT, hr2, hfr2⟩ := hrel
      have HT := hide hT
      have HK := hide hk
      clear hT hk
      obtain ⟨g, rfl⟩ : ∃ g', g = g' + 1 := ⟨g - 1, by omega⟩
      have hle2 := hr2.le
      have hops := hr.fewOps
      by_cases hn : n2 < ts.length
      · have hd : decide (n2 < ts.length) = true := by simpa using hn
        by_cases hx : Rt.opCode ts[n2].text < 5 ∨ 6 < Rt.opCode ts[n2].text
        · have HE := hide (loop_stop (unhide HT) hn hx)
          go_wp2_with fail
          refine (more_any _ _ _ _ _ _ _ hr2).mono ?_
          rintro e w2 ⟨rfl, q, rfl⟩
          rw [hd]
          obtain ⟨hr3, hfr3⟩ := hr2.quiet q
          go_wp2_with fail
          refine (operator_no _ _ _ _ _ _ _ _ _ hr3 hn hx).mono ?_
          rintro e w3 ⟨rfl, q2, rfl⟩
          obtain ⟨hr4, hfr4⟩ := hr3.quiet q2
          have HR := hide hr4
          have HFR := hide (hfr2.trans (hfr3.trans hfr4))
          clear hr4 hfr4 hr3 hfr3 hr2 hfr2
          go_wp2_with fail
          go_ret
          exact Or.inl ⟨em2, n2, ov2, unhide HE, rfl, hlen, hlt, (unhide HR).same rfl, (unhide HFR).same rfl rfl rfl rfl⟩
        · have h1 : 5 ≤ Rt.opCode ts[n2].text := by omega
          have h2 : Rt.opCode ts[n2].text ≤ 6 := by omega
          go_wp2_with fail
          refine (more_any _ _ _ _ _ _ _ hr2).mono ?_
          rintro e w2 ⟨rfl, q, rfl⟩
          rw [hd]
          obtain ⟨hr3, hfr3⟩ := hr2.quiet q
          go_wp2_with fail
          refine (operator_yes _ _ _ _ _ _ _ _ _ hr3 hn h1 h2).mono ?_
          rintro e w3 ⟨rfl, hr4, hfr4⟩
          have hz : (Rt.opCode ts[n2].text == 0) = false := by rw [beq_eq_false_iff_ne]; omega
          generalize hcode : Rt.opCode ts[n2].text = code at *
          have HC := hide hcode
          clear hcode hx
          go_wp2_with fail
          refine (hf _ _ _ _ _ _ _ hr4 (unhide HSM) (by omega)).mono ?_
          rintro e w4 (⟨em5, n5, ov5, hs5, rfl, hlen5, hlt5, hr5, hfr5⟩ | ⟨hs5, rfl, ov5, hfr5⟩)
          · have HN := hide (loop_next (unhide HT) hn (by rw [unhide HC]; exact h1) (by rw [unhide HC]; exact h2) hs5)
            clear hs5
            go_wp2_with fail
            refine (emit_any _ _ _ _ _ _ _ ⟨code, 0, ⟨#[]⟩⟩ hr5 (by have := hr5.fewOps; simp at this ⊢; omega)).mono ?_
            rintro e w5 ⟨rfl, ov6, hr6, hfr6⟩
            have HR := hide hr6
            have HFR := hide (hfr2.trans (hfr3.trans (hfr4.trans (hfr5.trans hfr6))))
            have hle5 := hr5.le
            clear hr2 hr3 hr4 hr5 hr6 hfr2 hfr3 hfr4 hfr5 hfr6
            go_wp2_with fail
            go_roundg (ts.length - n5)
            case measure => have := unhide HK; omega
            case rel => exact ⟨n5, ov6, em2 ++ em5 ++ [⟨code, 0, ⟨#[]⟩⟩], g, rfl, by have := unhide HK; omega, by omega, by simp; omega, by have := unhide HN; rw [unhide HC] at this; exact this, by have := unhide HR; simpa using this, unhide HFR⟩
          · have HN := hide (loop_none (unhide HT) hn (by rw [unhide HC]; exact h1) (by rw [unhide HC]; exact h2) hs5)
            clear hs5
            have HFR := hide (hfr2.trans (hfr3.trans (hfr4.trans hfr5)))
            clear hr2 hr3 hr4 hfr2 hfr3 hfr4 hfr5
            go_wp2_with fail
            go_ret
            exact Or.inr ⟨unhide HN, rfl, _, unhide HFR⟩
      · have HE := hide (loop_end (unhide HT) hn)
        have hd : decide (n2 < ts.length) = false := by simpa using hn
        go_wp2_with fail
        refine (more_any _ _ _ _ _ _ _ hr2).mono ?_
        rintro e w2 ⟨rfl, q, rfl⟩
        rw [hd]
        obtain ⟨hr3, hfr3⟩ := hr2.quiet q
        have HR := hide hr3
        have HFR := hide (hfr2.trans hfr3)
        clear hr3 hfr3 hr2 hfr2
        go_wp2_with fail
        go_ret
        exact Or.inl ⟨em2, n2, ov2, unhide HE, rfl, hlen, hlt, (unhide HR).same rfl, (unhide HFR).same rfl rfl rfl rfl⟩
  · have HS := hide hs
    clear hs
    go_wp2_with fail
    go_ret
    exact Or.inr ⟨by simp [Rt.pSum, Rt.pChain, unhide HS], rfl, _, hfr1⟩

end Go.Proofs.Ytnjhgcanglkfiaa

