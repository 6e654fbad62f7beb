/- The law: scripts of sessions; News. -/
import Derived.Test.YthleadfkfnnadaaGreatLnE
import Derived.Test.YthleadfkfnnadaaGreatLwE
namespace Go.Proofs.YthleadfkfnnadaaGreat
open Go.RowKit
attribute [local go_sem ↓] Go.wp_at_zero Go.wp_at_succ
theorem opened_ref (op : OpE) (hs : op.s.size ≤ maxLen) (w : World) (S : Nat) (pv lv : Value) (vs : List Value) (prs : List PrS) (tag : Nat → Nat) (h : WI w S pv lv vs prs tag) (hi : Ints w op.v op.l) (hl : op.l.length ≤ 17592186044416) (hlen : (vs.length + 2) * 24 ≤ 140737488355328) (hpl : (prs.length + 1) * 8 ≤ 140737488355328) :
    Calls Tryz.prog 15 #[.pointer (some ⟨S, 0, none⟩), opV op] w (StepW S vs prs w) := by
  obtain ⟨e1, e2, _⟩ := Rf.read_eq op.s
  rcases newA_cases op.s op.l op.a with ⟨h1, _⟩ | ⟨h1, h2, _⟩ | ⟨h1, h2, h3, _⟩ | ⟨h1, h2, h3, _⟩
  · exact opened_no op.s op.l op.a 1 0 (fun w v hv => snew_refused op.s v op.l op.a w hs hv 1 0 (Or.inl ⟨h1, rfl, rfl⟩)) (fun w v hv => cnew_refused op.s v op.l op.a w hs hv 1 0 (Or.inl ⟨h1, rfl, rfl⟩)) w S pv lv vs prs tag _ _ _ op.v h hi hl hlen
  · exact opened_no op.s op.l op.a (Rt.readS op.s).1 (Rt.readS op.s).2.1 (fun w v hv => snew_refused op.s v op.l op.a w hs hv _ _ (Or.inr ⟨h1, h2, (Rt.readS op.s).2.2, rfl⟩)) (fun w v hv => cnew_refused op.s v op.l op.a w hs hv _ _ (Or.inr ⟨h1, h2, e1.symm, e2.symm⟩)) w S pv lv vs prs tag _ _ _ op.v h hi hl hlen
  · exact opened_no op.s op.l op.a 6 0 (fun w v hv => snew_cap op.s v op.l op.a w _ hs hv h2 h1 h3) (fun w v hv => cnew_cap op.s v op.l op.a w hs hv (by rw [← e1, h2]) h1 h3) w S pv lv vs prs tag _ _ _ op.v h hi hl hlen
  · have hb : Rf.Both (Rt.readS op.s).2.2 (Rf.readR op.s).2.2 := (Rf.read_eq op.s).2.2 (by rw [h2])
    have hp := (Rt.read_small h2).2.1
    have hq := hb.len
    exact opened_yes op.s op.l op.a _ _ (Rf.readR op.s).2.2 (srcOf op.s (Rt.readS op.s).2.2 op.l) (fun hlaw => Rf.ctx_of op.l h2 hlaw) ⟨plc_of h2 h1, h3.1, h3.2, by simp [mk0]⟩ (by omega) (fun w v hv => snew_at op.s v op.l op.a w _ hs hv h2 h1 h3) (fun w v hv => cnew_right op.s v op.l op.a w _ hs hv h2 h1 h3 _ rfl _ rfl) w S pv lv vs prs tag _ _ _ op.v h hi hl hlen hpl
theorem pick_int (w : World) (c n : Int) (h1 : -9223372036854775808 ≤ c) (h2 : c ≤ 9223372036854775807) (hn : 0 < n) (hn2 : n ≤ 9223372036854775807) :
    Calls Tryz.prog 16 #[.int .i64 c, .int .i64 n] w fun e w' => e = .returned (.int .i64 ((if c < 0 then -(c + 1) else c) % n)) ∧ w' = w := by
  have hn0 : (n == 0) = false := by simp; omega
  by_cases h0 : c < 0
  · have HE : Hid ((if c < 0 then -(c + 1) else c) % n = (-(c + 1)) % n) := hide (by rw [if_pos h0])
    have e1 : IntKind.i64.wrap (c + 1) = c + 1 := by rw [IntWalk.i64_left, IntWalk.wrap64_in _ (by omega)]
    have e2 : IntKind.i64.wrap (-(c + 1)) = -(c + 1) := by rw [IntWalk.i64_left, IntWalk.wrap64_in _ (by omega)]
    generalize (if c < 0 then -(c + 1) else c) % n = R at *
    go_enter Tryz.func16, Tryz.ntmps16
    go_wp2_with fail
    go_ret
    have e3 : -((c + 1).tmod n) = (-(c + 1)) % n := by rw [← Int.neg_tmod, Int.tmod_eq_emod_of_nonneg (by omega)]
    exact ⟨by rw [unhide HE, ← e3]; rfl, rfl⟩
  · have HE : Hid ((if c < 0 then -(c + 1) else c) % n = c % n) := hide (by rw [if_neg h0])
    generalize (if c < 0 then -(c + 1) else c) % n = R at *
    go_enter Tryz.func16, Tryz.ntmps16
    go_wp2_with fail
    go_ret
    exact ⟨by rw [unhide HE]; rfl, rfl⟩
theorem pick_ref (c : Int) (n : Nat) (w : World) (hn : 0 < n) (hm : n ≤ 140737488355328) (hc : -9223372036854775808 ≤ c ∧ c ≤ 9223372036854775807) :
    Calls Tryz.prog 16 #[.int .i64 c, .int .i64 (n : Int)] w fun e w' => w' = w ∧ ∃ i : Nat, i < n ∧ e = .returned (.int .i64 (i : Int)) := by
  refine (pick_int w c n hc.1 hc.2 (by omega) (by omega)).mono ?_
  rintro e w' ⟨rfl, rfl⟩
  have h1 := Int.emod_nonneg (if c < 0 then -(c + 1) else c) (show (n : Int) ≠ 0 by omega)
  have h2 := Int.emod_lt_of_pos (if c < 0 then -(c + 1) else c) (show (0 : Int) < (n : Int) by omega)
  exact ⟨rfl, ((if c < 0 then -(c + 1) else c) % (n : Int)).toNat, by omega, by rw [Int.toNat_of_nonneg h1]⟩
section
variable {s : PrS}
set_option maxHeartbeats 2000000 in
set_option maxRecDepth 100000 in
theorem session_mark (w : World) (S : Nat) (h : PrOK w s) (op : OpE) (hk : op.kind = 5) (hi : ∃ a n c, op.v = .slice a n c) :
    Calls Tryz.prog 17 #[.pointer (some ⟨S, 0, none⟩), .pointer (some ⟨s.q, 0, none⟩), opV op] w fun e w' => e = .returned (.bool true) ∧ ∃ s', PAft s s' w w' := by
  obtain ⟨kd, oa, ob, oc, os, ov, ol⟩ := op
  simp only at hk hi
  obtain ⟨a, n, c, rfl⟩ := hi
  subst hk
  unfold opV
  simp only
  have hb0 := (Below.refl w.heap.size w).alloc (Nat.le_refl _) (.cells #[.int .i64 5, .int .i64 oa, .int .i64 ob, .int .i64 oc, .string os, .slice a n c] 32)
  have HH := hide (And.intro h hb0)
  clear h hb0
  go_enter Tryz.func17, Tryz.ntmps17
  go_wp2_with fail
  refine (marked_ref _ ((unhide HH).1.later (unhide HH).2) ob).mono ?_
  rintro e w1 ⟨rfl, s', hA⟩
  have HF := hide ((PAft.below (unhide HH).1 (unhide HH).2).then hA)
  clear hA
  go_wp2_with fail
  go_ret
  exact ⟨rfl, _, unhide HF⟩
set_option maxHeartbeats 2000000 in
set_option maxRecDepth 100000 in
theorem session_held (w : World) (S : Nat) (h : PrOK w s) (op : OpE) (hk : op.kind = 12) (hi : ∃ a n c, op.v = .slice a n c) (hln : s.len < 4611686018427387904) :
    Calls Tryz.prog 17 #[.pointer (some ⟨S, 0, none⟩), .pointer (some ⟨s.q, 0, none⟩), opV op] w fun e w' => e = .returned (.bool true) ∧ ∃ s', PAft s s' w w' := by
  obtain ⟨kd, oa, ob, oc, os, ov, ol⟩ := op
  simp only at hk hi
  obtain ⟨a, n, c, rfl⟩ := hi
  subst hk
  unfold opV
  simp only
  have hb0 := (Below.refl w.heap.size w).alloc (Nat.le_refl _) (.cells #[.int .i64 12, .int .i64 oa, .int .i64 ob, .int .i64 oc, .string os, .slice a n c] 32)
  have HH := hide (And.intro h hb0)
  clear h hb0
  go_enter Tryz.func17, Tryz.ntmps17
  go_wp2_with fail
  refine (pheld_ref _ ((unhide HH).1.later (unhide HH).2) hln).mono ?_
  rintro e w1 ⟨rfl, hb1⟩
  have HF := hide (PAft.below (unhide HH).1 ((unhide HH).2.trans (hb1.mono (unhide HH).2.size)))
  clear hb1
  go_wp2_with fail
  go_ret
  exact ⟨rfl, _, unhide HF⟩
set_option maxHeartbeats 2000000 in
set_option maxRecDepth 100000 in
theorem session_where (w : World) (S : Nat) (h : PrOK w s) (op : OpE) (hk : op.kind = 13) (hi : ∃ a n c, op.v = .slice a n c) :
    Calls Tryz.prog 17 #[.pointer (some ⟨S, 0, none⟩), .pointer (some ⟨s.q, 0, none⟩), opV op] w fun e w' => e = .returned (.bool true) ∧ ∃ s', PAft s s' w w' := by
  obtain ⟨kd, oa, ob, oc, os, ov, ol⟩ := op
  simp only at hk hi
  obtain ⟨a, n, c, rfl⟩ := hi
  subst hk
  unfold opV
  simp only
  have hb0 := (Below.refl w.heap.size w).alloc (Nat.le_refl _) (.cells #[.int .i64 13, .int .i64 oa, .int .i64 ob, .int .i64 oc, .string os, .slice a n c] 32)
  have HH := hide (And.intro h hb0)
  clear h hb0
  go_enter Tryz.func17, Tryz.ntmps17
  go_wp2_with fail
  refine (where_ref _ ((unhide HH).1.later (unhide HH).2)).mono ?_
  rintro e w1 ⟨rfl, hb1⟩
  have HF := hide (PAft.below (unhide HH).1 ((unhide HH).2.trans (hb1.mono (unhide HH).2.size)))
  clear hb1
  go_wp2_with fail
  go_ret
  exact ⟨rfl, _, unhide HF⟩
end
set_option maxHeartbeats 2000000 in
set_option maxRecDepth 100000 in
theorem step_new (w : World) (S : Nat) (pv lv : Value) (vs : List Value) (prs : List PrS) (tag : Nat → Nat) (op : OpE) (hk : op.kind = 4) (h : WI w S pv lv vs prs tag) (hi : Ints w op.v op.l) (hl : op.l.length ≤ 17592186044416) (hs : op.s.size ≤ maxLen) (hlen : (vs.length + 2) * 24 ≤ 140737488355328) (hpl : (prs.length + 1) * 8 ≤ 140737488355328) :
    Calls Tryz.prog 10 #[.pointer (some ⟨S, 0, none⟩), opV op] w (StepW S vs prs w) := by
  have hb0 := (Below.refl w.heap.size w).alloc (Nat.le_refl _) (.cells #[.int .i64 4, .int .i64 op.a, .int .i64 op.b, .int .i64 op.c, .string op.s, op.v] 32)
  have hop := opened_ref op hs _ S pv lv vs prs tag (h.later hb0) (hi.later hb0) hl hlen hpl
  have hSlt := block_lt h.lg.block
  obtain ⟨ad, ca, hv⟩ := hi.form
  obtain ⟨kd, oa, ob, oc, os, ov, ol⟩ := op
  simp only at hk hv
  subst hk hv
  unfold opV at hop ⊢
  simp only at hop hb0 ⊢
  have HO := hide hop
  have HB := hide hb0
  clear h hi hop hb0
  go_enter Tryz.func10, Tryz.ntmps10
  go_wp2_with fail
  refine (unhide HO).mono ?_
  rintro e w1 ⟨rfl, hb1, hrest⟩
  have HF := hide (And.intro (((unhide HB).mono (B' := S) (by omega)).trans hb1) hrest)
  clear hb1 hrest
  go_wp2_with fail
  go_ret
  exact ⟨rfl, (unhide HF).1, (unhide HF).2⟩
set_option maxHeartbeats 2000000 in
set_option maxRecDepth 100000 in
theorem step_none (w : World) (S : Nat) (pv lv : Value) (vs : List Value) (tag : Nat → Nat) (op : OpE) (hk : 5 ≤ op.kind) (h : WI w S pv lv vs [] tag) (hi : Ints w op.v op.l) :
    Calls Tryz.prog 10 #[.pointer (some ⟨S, 0, none⟩), opV op] w (StepW S vs [] w) := by
  have hb0 := (Below.refl w.heap.size w).alloc (Nat.le_refl _) (.cells #[.int .i64 op.kind, .int .i64 op.a, .int .i64 op.b, .int .i64 op.c, .string op.s, op.v] 32)
  have hSlt := block_lt h.lg.block
  have c0 : w.cell? ⟨S, 0, none⟩ = some pv := cell_of_block h.lg.block 0 (by simp)
  obtain ⟨pa, pc, hpv⟩ := ownsRow_form h.ps
  rw [hpv] at c0
  have d0 := cell_later hb0 c0
  have hW := h.later hb0
  obtain ⟨ad, ca, hv⟩ := hi.form
  obtain ⟨kd, oa, ob, oc, os, ov, ol⟩ := op
  simp only at hk hv hb0 d0 hW
  subst hv
  unfold opV
  simp only
  have k1 : (kd == 1) = false := by simp; omega
  have k2 : (kd == 2) = false := by simp; omega
  have k3 : (kd == 3) = false := by simp; omega
  have k4 : (kd == 4) = false := by simp; omega
  have HF := hide (And.intro hW (hb0.mono (B' := S) (by omega)))
  clear h hi hW hb0 c0
  go_enter Tryz.func10, Tryz.ntmps10
  go_wp2_with fail
  go_ret
  exact ⟨rfl, (unhide HF).2, pv, lv, vs, [], tag, (unhide HF).1, by omega, by simp, fun M hM s hs => by simp at hs⟩
set_option maxHeartbeats 4000000 in
set_option maxRecDepth 100000 in
theorem step_ses (w : World) (S : Nat) (pv lv : Value) (vs : List Value) (prs : List PrS) (tag : Nat → Nat) (op : OpE) (hk : 5 ≤ op.kind) (h : WI w S pv lv vs prs tag) (hi : Ints w op.v op.l) (hp : 0 < prs.length) (hpl : prs.length ≤ 17592186044416) (hr : -9223372036854775808 ≤ op.a ∧ op.a ≤ 9223372036854775807)
    (HS : ∀ (w1 : World) (i : Nat) (hi : i < prs.length), WI w1 S pv lv vs prs tag → Below w.heap.size w w1 → Calls Tryz.prog 17 #[.pointer (some ⟨S, 0, none⟩), .pointer (some ⟨prs[i].q, 0, none⟩), opV op] w1 (StepW S vs prs w1)) :
    Calls Tryz.prog 10 #[.pointer (some ⟨S, 0, none⟩), opV op] w (StepW S vs prs w) := by
  have hb0 := (Below.refl w.heap.size w).alloc (Nat.le_refl _) (.cells #[.int .i64 op.kind, .int .i64 op.a, .int .i64 op.b, .int .i64 op.c, .string op.s, op.v] 32)
  have hSlt := block_lt h.lg.block
  have hW := h.later hb0
  have c0 := cell_of_block hW.lg.block 0 (by simp)
  obtain ⟨pa, pc, hpv⟩ := ownsRow_form h.ps
  simp only [List.getElem_toArray, List.getElem_cons_zero] at c0
  rw [hpv] at c0
  have HPs := hide (fun (i : Nat) (hi : i < prs.length) => own_cell hW.ps (j := i) (u := .pointer (some ⟨prs[i].q, 0, none⟩)) (by rw [List.getElem?_map, List.getElem?_eq_getElem hi]; rfl))
  have HS' := hide (fun (w1 : World) hb (i : Nat) (hi : i < prs.length) => HS w1 i hi (hW.later hb) (hb0.trans (hb.mono (B' := w.heap.size) hb0.size)))
  obtain ⟨ad, ca, hv⟩ := hi.form
  obtain ⟨kd, oa, ob, oc, os, ov, ol⟩ := op
  simp only at hk hv hb0 c0 hW HPs HS' hr
  subst hv
  unfold opV at HS' ⊢
  simp only at HS' ⊢
  have k1 : (kd == 1) = false := by simp; omega
  have k2 : (kd == 2) = false := by simp; omega
  have k3 : (kd == 3) = false := by simp; omega
  have k4 : (kd == 4) = false := by simp; omega
  have hp0 : ((prs.length : Int) == 0) = false := by rw [beq_eq_false_iff_ne]; omega
  have HB := hide hb0
  have HV := hide hpv
  obtain ⟨r0, r1, r2, r3, r4, r5, _⟩ := six_any (heap_alloc_new w (.cells #[.int .i64 kd, .int .i64 oa, .int .i64 ob, .int .i64 oc, .string os, .slice ad ol.length ca] 32))
  obtain ⟨g, gc, hg, _, _, _⟩ := unhide HPs 0 hp
  rw [unhide HV] at hg
  injection hg with hg1 _ hg2
  subst hg1 hg2
  have HCl := hide (show ∀ (i : Nat) (hi : i < prs.length), (w.alloc (.cells #[.int .i64 kd, .int .i64 oa, .int .i64 ob, .int .i64 oc, .string os, .slice ad ol.length ca] 32)).cell? ⟨g, i, none⟩ = some (.pointer (some ⟨prs[i].q, 0, none⟩)) from fun i hi => by
    obtain ⟨g', gc', hg', _, _, cG⟩ := unhide HPs i hi
    rw [unhide HV] at hg'
    injection hg' with hg' _ _
    injection hg' with hg'
    injection hg' with hg'
    rw [hg']
    exact cG)
  have hpl2 : prs.length ≤ 140737488355328 := by omega
  clear h hi hW hb0 HS hpv HPs
  go_enter Tryz.func10, Tryz.ntmps10
  go_wp2_with fail
  generalize w.alloc (.cells #[.int .i64 kd, .int .i64 oa, .int .i64 ob, .int .i64 oc, .string os, .slice ad ol.length ca] 32) = wa at *
  go_region_with (go_at_call 16; refine (pick_ref oa prs.length _ hp hpl2 hr).mono ?_; rintro e wn ⟨hwn, i, hi, rfl⟩; rw [hwn]; clear hwn; have cG := unhide HCl i hi; have i0 : (0 : Int) ≤ (i : Int) := (by omega); have i1 : (i : Int) < (prs.length : Int) := (by omega))
  all_goals
    go_wp2_with fail
    refine (unhide HS' _ (below_to_drew _) i hi).mono ?_
    rintro e w2 ⟨rfl, hb2, hrest⟩
    have HF := hide (And.intro (((unhide HB).mono (B' := S) (by omega)).trans (((below_to_drew wa).mono (B' := S) (by have := (unhide HB).size; omega)).trans hb2)) hrest)
    clear hb2 hrest
    go_wp2_with fail
    go_ret
    exact ⟨rfl, (unhide HF).1, (unhide HF).2⟩
theorem WI.ses {w : World} {S : Nat} {pv lv : Value} {vs : List Value} {prs : List PrS} {tag : Nat → Nat} (h : WI w S pv lv vs prs tag) {i : Nat} (hi : i < prs.length) {op : OpE} (hC : Calls Tryz.prog 17 #[.pointer (some ⟨S, 0, none⟩), .pointer (some ⟨prs[i].q, 0, none⟩), opV op] w fun e w' => e = .returned (.bool true) ∧ ∃ s', PAft prs[i] s' w w') :
    Calls Tryz.prog 17 #[.pointer (some ⟨S, 0, none⟩), .pointer (some ⟨prs[i].q, 0, none⟩), opV op] w (StepW S vs prs w) := by
  refine hC.mono ?_
  rintro e w' ⟨rfl, s', hA⟩
  obtain ⟨h1, h2⟩ := h.act hi hA
  refine ⟨rfl, h2, pv, lv, vs, prs.set i s', _, h1, by omega, by simp, fun M hM s hs => ?_⟩
  rcases List.mem_or_eq_of_mem_set hs with hs | rfl
  · have := hM s hs; omega
  · have h3 := hM _ (List.getElem_mem hi)
    have h4 := hA.far
    omega
def SesI (S : Nat) (w : World) (k : Nat) : Prop := ∃ pv lv vs prs tag, WI w S pv lv vs prs tag ∧ vs.length ≤ 2 * k ∧ prs.length ≤ k ∧ ∀ s ∈ prs, s.len ≤ 1000 * k
theorem SesI.step {S : Nat} {w : World} {k : Nat} (h : SesI S w k) (op : OpE) (hk : 5 ≤ op.kind) (hi : Ints w op.v op.l) (hr : -9223372036854775808 ≤ op.a ∧ op.a ≤ 9223372036854775807) (hlen : k ≤ 2000000000000)
    (HS : ∀ (w1 : World) (s : PrS), PrOK w1 s → s.len ≤ 1000 * k → Below w.heap.size w w1 → Calls Tryz.prog 17 #[.pointer (some ⟨S, 0, none⟩), .pointer (some ⟨s.q, 0, none⟩), opV op] w1 fun e w' => e = .returned (.bool true) ∧ ∃ s', PAft s s' w1 w') :
    Calls Tryz.prog 10 #[.pointer (some ⟨S, 0, none⟩), opV op] w fun e w' => e = .returned (.bool true) ∧ Below S w w' ∧ SesI S w' (k + 1) := by
  obtain ⟨pv, lv, vs, prs, tag, h1, h2, h3, h4⟩ := h
  have fin : ∀ (vs : List Value) (prs : List PrS), vs.length ≤ 2 * k → prs.length ≤ k → (∀ s ∈ prs, s.len ≤ 1000 * k) → ∀ e w', StepW S vs prs w e w' → e = .returned (.bool true) ∧ Below S w w' ∧ SesI S w' (k + 1) := by
    rintro vs prs q1 q2 q3 e w' ⟨rfl, hb, pv', lv', vs', prs', tag', a1, a2, a3, a4⟩
    exact ⟨rfl, hb, pv', lv', vs', prs', tag', a1, by omega, by omega, fun s hs => by have := a4 _ q3 s hs; omega⟩
  by_cases h0 : prs = []
  · subst h0
    exact (step_none w S pv lv vs tag op hk h1 hi).mono (fin vs [] h2 (by simp) (by simp))
  · exact (step_ses w S pv lv vs prs tag op hk h1 hi (List.length_pos_iff.mpr h0) (by omega) hr (fun w1 i hi' hW hb => hW.ses hi' (HS w1 prs[i] (hW.each i hi') (h4 _ (List.getElem_mem hi')) hb))).mono (fin vs prs h2 h3 h4)
theorem SesI.new {S : Nat} {w : World} {k : Nat} (h : SesI S w k) (op : OpE) (hk : op.kind = 4) (hi : Ints w op.v op.l) (hl : op.l.length ≤ 17592186044416) (hs : op.s.size ≤ maxLen) (hlen : k ≤ 2000000000000) :
    Calls Tryz.prog 10 #[.pointer (some ⟨S, 0, none⟩), opV op] w fun e w' => e = .returned (.bool true) ∧ Below S w w' ∧ SesI S w' (k + 1) := by
  obtain ⟨pv, lv, vs, prs, tag, h1, h2, h3, h4⟩ := h
  refine (step_new w S pv lv vs prs tag op hk h1 hi hl hs (by omega) (by omega)).mono ?_
  rintro e w' ⟨rfl, hb, pv', lv', vs', prs', tag', a1, a2, a3, a4⟩
  exact ⟨rfl, hb, pv', lv', vs', prs', tag', a1, by omega, by omega, fun s hs => by have := a4 _ h4 s hs; omega⟩
theorem ses_plays (w : World) (ops : List OpE) (ks : List Int) (hlen : ops.length ≤ 2000000000000) (HS : ∀ (w1 : World) (k : Nat) (hk : k < ops.length), ops[k].kind ∈ ks → SesI w.heap.size w1 k → Below w.heap.size w w1 → Calls Tryz.prog 10 #[.pointer (some ⟨w.heap.size, 0, none⟩), opV ops[k]] w1 fun e w' => e = .returned (.bool true) ∧ Below w.heap.size w1 w' ∧ SesI w.heap.size w' (k + 1)) : Plays w w.heap.size ops ks (SesI w.heap.size) := by
  refine ⟨?_, ?_, ?_, fun w1 k hk hm h hb => HS w1 k hk hm h hb, ?_⟩
  · rintro w1 w2 k ⟨pv, lv, vs, prs, tag, h1, h2⟩ hb
    exact ⟨pv, lv, vs, prs, tag, h1.later hb, h2⟩
  · rintro w1 k _ ⟨pv, lv, vs, prs, tag, h1, h2, h3, h4⟩
    exact ⟨pv, lv, vs, prs, tag, h1, by omega, by omega, fun s hs => by have := h4 s hs; omega⟩
  · rintro w1 k ⟨pv, lv, vs, prs, tag, h1, _⟩
    exact block_lt h1.lg.block
  · rintro w1 k hk ⟨pv, lv, vs, prs, tag, h1, h2, _⟩
    exact looks_ref2 w1 _ pv lv vs h1.lg (by omega)
theorem ses_start {w : World} {S : Nat} (h : w.heap[S]? = some (.cells #[.slice none 0 0, .slice none 0 0] 30 (0, 0))) : SesI S w 0 :=
  ⟨_, _, [], [], fun _ => 0, ⟨⟨h, World.ownsRow_nil _ _ _ _, fun k hk => by simp at hk⟩, World.ownsRow_nil _ _ _ _, fun i hi => by simp at hi, fun i hi => by simp at hi, fun _ _ => rfl, fun _ _ => rfl, fun i hi => by simp at hi⟩, by simp, by simp, by simp⟩
theorem form3 {w : World} {v : Value} {l : List Int} (h : Ints w v l) : ∃ a n c, v = .slice a n c := by
  obtain ⟨a, c, e⟩ := h.form
  exact ⟨a, _, c, e⟩
set_option maxHeartbeats 2000000 in
set_option maxRecDepth 100000 in
theorem News_ref (w : World) (v : Value) (ops : List OpE) (h : ScrE w v ops) (hlen : ops.length ≤ 2000000000000) :
    Calls Tryz.prog 4 #[v] w fun e w' => e = .returned (.bool true) ∧ Below w.heap.size w w' := by
  have HH := hide h
  obtain ⟨ad, cap, rfl, _⟩ := h.cells
  have hb0 := (Below.refl w.heap.size w).alloc (Nat.le_refl _) (.cells #[.int .i64 4, .int .i64 13, .int .i64 5, .int .i64 12] 3)
  have hn0 := heap_alloc_new w (.cells #[.int .i64 4, .int .i64 13, .int .i64 5, .int .i64 12] 3)
  have HB0 := hide (And.intro hb0 hn0)
  clear hb0 hn0 h
  go_enter Tryz.func4, Tryz.ntmps4
  go_wp2_with fail
  have hS := (unhide HH).later (unhide HB0).1
  refine (plays_any _ _ ops [4, 13, 5, 12] _ _ hS (fun j hj => by
    have hj' : j = 0 ∨ j = 1 ∨ j = 2 ∨ j = 3 := by simp at hj; omega
    rcases hj' with rfl | rfl | rfl | rfl
    · exact cell_of_block (unhide HB0).2 0 (by simp)
    · exact cell_of_block (unhide HB0).2 1 (by simp)
    · exact cell_of_block (unhide HB0).2 2 (by simp)
    · exact cell_of_block (unhide HB0).2 3 (by simp)) (by simp) (by omega) (fun w' h1 _ => ses_start h1) (ses_plays _ ops _ hlen (fun w1 k hk hm hI hb => ?_))).mono ?_
  · have ho := hS.lst _ (List.getElem_mem hk)
    have hi := ho.1.later hb
    have hr := (hS.rng _ (List.getElem_mem hk)).1
    simp only [List.mem_cons, List.not_mem_nil, or_false] at hm
    rcases hm with hm | hm | hm | hm
    · exact hI.new _ hm hi ho.2 (hS.str _ (List.getElem_mem hk)) (by omega)
    · exact hI.step _ (by omega) hi hr (by omega) (fun w2 s hp hl hb2 => session_where w2 _ hp _ hm (form3 hi))
    · exact hI.step _ (by omega) hi hr (by omega) (fun w2 s hp hl hb2 => session_mark w2 _ hp _ hm (form3 hi))
    · exact hI.step _ (by omega) hi hr (by omega) (fun w2 s hp hl hb2 => session_held w2 _ hp _ hm (form3 hi) (by omega))
  · rintro e w1 ⟨rfl, hb1⟩
    have HF := hide ((unhide HB0).1.trans (hb1.mono (unhide HB0).1.size))
    clear hb1
    go_wp2_with fail
    go_ret
    exact ⟨rfl, unhide HF⟩
end Go.Proofs.YthleadfkfnnadaaGreat
