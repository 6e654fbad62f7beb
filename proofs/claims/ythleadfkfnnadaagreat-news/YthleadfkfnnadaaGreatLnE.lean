/- The law: a step that makes a session. -/
import Derived.Test.YthleadfkfnnadaaGreatLnD
namespace Go.Proofs.YthleadfkfnnadaaGreat
open Go.RowKit
attribute [local go_sem ↓] Go.wp_at_zero Go.wp_at_succ
theorem WI.retag {w : World} {S0 : Nat} {pv lv : Value} {vs : List Value} {prs : List PrS} {tag tag' : Nat → Nat} (h : WI w S0 pv lv vs prs tag) (ht : ∀ k, k < w.heap.size → tag' k = tag k) : WI w S0 pv lv vs prs tag' :=
  ⟨h.lg, h.ps, h.each, fun i hi k hk => by rw [ht k ((h.each i hi).lt hk)]; exact h.tags i hi k hk, fun k e => by rw [ht k (h.lg.own.lt k e).2]; exact h.lv0 k e, fun k e => by rw [ht k (h.ps.lt k e).2]; exact h.pv0 k e, fun i hi k e => by rw [ht k (h.lg.lt i hi k e).2]; exact h.vs0 i hi k e⟩
theorem Tryz.infoPair : (Tryz.prog.info? 36).map (fun i => (i.zero, i.size, i.bytes)) = some (some (.pointer none), 1, 8) := by kernel_rfl
def StepW (S0 : Nat) (vs : List Value) (prs : List PrS) (w : World) (e : Ending) (w' : World) : Prop := e = .returned (.bool true) ∧ Below S0 w w' ∧ ∃ pv' lv' vs' prs' tag', WI w' S0 pv' lv' vs' prs' tag' ∧ vs'.length ≤ vs.length + 2 ∧ prs'.length ≤ prs.length + 1 ∧ ∀ M, (∀ s ∈ prs, s.len ≤ M) → ∀ s ∈ prs', s.len ≤ M + 1000
set_option maxHeartbeats 4000000 in
set_option maxRecDepth 100000 in
theorem opened_no (s : ByteArray) (l : List Int) (cap er ln : Int) (HP : ∀ (w : World) (v : Value), Ints w v l → Calls Tryz.prog 30 #[.string s, v, .int .i64 cap] w fun e w' => e = .returned (.tuple #[.pointer none, .int .i64 er, .int .i64 ln]) ∧ Below w.heap.size w w') (HR : ∀ (w : World) (v : Value), Ints w v l → Calls Tryz.prog 31 #[.string s, v, .int .i64 cap] w fun e w' => e = .returned (.tuple #[.pointer none, .int .i64 er, .int .i64 ln]) ∧ Below w.heap.size w w')
    (w : World) (S : Nat) (pv lv : Value) (vs : List Value) (prs : List PrS) (tag : Nat → Nat) (k b c : Value) (v : Value) (h : WI w S pv lv vs prs tag) (hi : Ints w v l) (hl : l.length ≤ 17592186044416) (hlen : (vs.length + 2) * 24 ≤ 140737488355328) :
    Calls Tryz.prog 15 #[.pointer (some ⟨S, 0, none⟩), .agg #[k, .int .i64 cap, b, c, .string s, v]] w (StepW S vs prs w) := by
  have HH := hide (h.retag (tag' := fun k => if k < w.heap.size then tag k else 0) (fun k hk => if_pos hk))
  have HI := hide hi
  have hSlt := block_lt h.lg.block
  have HPP := hide HP
  have HRR := hide HR
  obtain ⟨ad, ca, rfl⟩ := hi.form
  have hb0 := (Below.refl w.heap.size w).alloc (Nat.le_refl _) (.cells #[k, .int .i64 cap, b, c, .string s, .slice ad l.length ca] 32)
  have hn0 := heap_alloc_new w (.cells #[k, .int .i64 cap, b, c, .string s, .slice ad l.length ca] 32)
  have HB0 := hide (And.intro hb0 hn0)
  clear h hi HP HR hb0 hn0
  have HC : Hid (∀ w', Below (w.alloc (.cells #[k, .int .i64 cap, b, c, .string s, .slice ad l.length ca] 32)).heap.size (w.alloc (.cells #[k, .int .i64 cap, b, c, .string s, .slice ad l.length ca] 32)) w' → w'.cell? ⟨w.heap.size, 1, none⟩ = some (.int .i64 cap) ∧ w'.cell? ⟨w.heap.size, 4, none⟩ = some (.string s) ∧ w'.cell? ⟨w.heap.size, 5, none⟩ = some (.slice ad l.length ca)) := hide (fun w' hb => by
    have hh := block_later (unhide HB0).2 hb
    exact ⟨cell_of_block hh 1 (by simp), cell_of_block hh 4 (by simp), cell_of_block hh 5 (by simp)⟩)
  go_enter Tryz.func15, Tryz.ntmps15
  go_wp2_with fail
  refine (handed_ref _ _ l ((unhide HI).later (unhide HB0).1) hl).mono ?_
  generalize w.alloc (.cells #[k, .int .i64 cap, b, c, .string s, .slice ad l.length ca] 32) = wa at *
  rintro e w1 ⟨hb1, g, hgl, rfl, hg1⟩
  obtain ⟨c1, c4, c5⟩ := unhide HC _ hb1
  have hglt := block_lt hg1
  have HB1 := hide (And.intro hb1 hg1)
  clear hb1 hg1
  go_wp2_with fail
  refine (unhide HPP _ _ (handA_ints (unhide HB1).2 _)).mono ?_
  rintro e w2 ⟨rfl, hb2⟩
  have hwa := block_lt (unhide HB0).2
  have hwa2 := (unhide HB1).1.size
  have HB2 := hide (And.intro ((unhide HB1).1.trans (hb2.mono (B' := wa.heap.size) hwa2)) (block_later (unhide HB1).2 hb2))
  clear hb2 c1 c4 c5
  obtain ⟨e1, e4, e5⟩ := unhide HC _ (unhide HB2).1
  go_wp2_with fail
  refine (still_ref _ _ g l (unhide HB2).2 ((unhide HI).later ((unhide HB0).1.trans ((unhide HB2).1.mono (B' := w.heap.size) (by omega)))) hl).mono ?_
  rintro e w4 ⟨rfl, hb4⟩
  have hbw4 := (unhide HB2).1.trans (hb4.mono (B' := wa.heap.size) (unhide HB2).1.size)
  clear e1 e4 e5
  obtain ⟨e1, e4, e5⟩ := unhide HC _ hbw4
  have HB4 := hide (And.intro hbw4 (block_later (unhide HB2).2 hb4))
  clear hb4 hbw4
  go_wp2_with fail
  refine (unhide HRR _ _ ((unhide HI).later ((unhide HB0).1.trans ((unhide HB4).1.mono (B' := w.heap.size) (by omega))))).mono ?_
  rintro e w5 ⟨rfl, hb5⟩
  have hbw5 := (unhide HB4).1.trans (hb5.mono (B' := wa.heap.size) (unhide HB4).1.size)
  have hbW := (unhide HB0).1.trans (hbw5.mono (B' := w.heap.size) (by omega))
  have hW5 := (unhide HH).later hbW
  have hg5 := block_later (unhide HB4).2 hb5
  have hrow := handA_row (B := S + 1) hg5 (by omega) (by unfold maxLen; omega)
  have HX5 := hide (And.intro hW5 (And.intro hrow hbW))
  have hgt : ∀ j (hj : j < vs.length) q, vs[j].ownBlock = some q → ¬ (Value.slice (some ⟨g, 0, none⟩) l.length (l.length + 2)).ownBlock = some q := fun j hj q hq e => by
    have h1 := ((unhide HH).lg.lt j hj q hq).2
    simp [Value.ownBlock] at e
    omega
  have HN := hide hgt
  clear hb5 hbw5 e1 e4 e5 hW5 hg5 hrow hbW hgt
  go_wp2_with fail
  refine (own_ref2 _ S pv lv vs _ _ _ (unhide HX5).1.lg (unhide HX5).2.1 (unhide HN) (by omega)).mono ?_
  intro e w7 hO
  have hfin := (unhide HX5).1.own (unhide HX5).2.1 (fun q e => by
    simp [Value.ownBlock] at e
    rw [if_neg (by omega)]) hO
  have hB7 := ((unhide HX5).2.2.mono (B' := S) (by omega)).trans hO.2.1
  obtain ⟨rfl, _⟩ := hO
  have HF := hide (And.intro hfin hB7)
  clear hfin hB7
  go_wp2_with (go_at_call 20; refine (num_ref er _).mono ?_; rintro e w' ⟨rfl, rfl⟩)
  all_goals
    go_ret
    obtain ⟨⟨lv', v', tag', h1, _⟩, h2⟩ := unhide HF
    exact ⟨by first | rfl | simp, h2, pv, lv', vs ++ [v'], prs, tag', h1, by simp, by omega, fun M hM s hs => by have := hM s hs; omega⟩
set_option maxHeartbeats 4000000 in
set_option maxRecDepth 100000 in
theorem opened_yes (s : ByteArray) (l : List Int) (cap : Int) (ps pls : List Rt.PL) (ls : List (List ByteArray)) (R : Rt.Src) (hX : Lawful ls → Rf.Ctx ps pls ls R) (hcst : Cst R cap mk0) (h100 : ls.length ≤ 100) (HP : ∀ (w : World) (v : Value), Ints w v l → Calls Tryz.prog 30 #[.string s, v, .int .i64 cap] w fun e w' => Below w.heap.size w w' ∧ ∃ P B X jv, e = .returned (.tuple #[.pointer (some ⟨P, 0, none⟩), .int .i64 0, .int .i64 0]) ∧ (∀ k ∈ ownL P X jv, w.heap.size ≤ k) ∧ Sess w' P B R cap 0 0 mk0 X jv) (HR : ∀ (w : World) (v : Value), Ints w v l → Calls Tryz.prog 31 #[.string s, v, .int .i64 cap] w fun e w' => Below w.heap.size w w' ∧ ∃ C Y, e = .returned (.tuple #[.pointer (some ⟨C, 0, none⟩), .int .i64 0, .int .i64 0]) ∧ CurG w' C pls ls R cap 0 0 0 (List.replicate (ls.length + 1) false) Y ∧ Lawful ls ∧ ∀ k ∈ cuL pls R C Y, w.heap.size ≤ k)
    (w : World) (S : Nat) (pv lv : Value) (vs : List Value) (prs : List PrS) (tag : Nat → Nat) (k b c : Value) (v : Value) (h : WI w S pv lv vs prs tag) (hi : Ints w v l) (hl : l.length ≤ 17592186044416) (hlen : (vs.length + 2) * 24 ≤ 140737488355328) (hpl : (prs.length + 1) * 8 ≤ 140737488355328) :
    Calls Tryz.prog 15 #[.pointer (some ⟨S, 0, none⟩), .agg #[k, .int .i64 cap, b, c, .string s, v]] w (StepW S vs prs w) := by
  have HH := hide (h.retag (tag' := fun k => if k < w.heap.size then tag k else 0) (fun k hk => if_pos hk))
  have HI := hide hi
  have hSlt := block_lt h.lg.block
  have HPP := hide HP
  have HRR := hide HR
  obtain ⟨ad, ca, rfl⟩ := hi.form
  have hb0 := (Below.refl w.heap.size w).alloc (Nat.le_refl _) (.cells #[k, .int .i64 cap, b, c, .string s, .slice ad l.length ca] 32)
  have hn0 := heap_alloc_new w (.cells #[k, .int .i64 cap, b, c, .string s, .slice ad l.length ca] 32)
  have HB0 := hide (And.intro hb0 hn0)
  clear h hi HP HR hb0 hn0
  have HC : Hid (∀ w', Below (w.alloc (.cells #[k, .int .i64 cap, b, c, .string s, .slice ad l.length ca] 32)).heap.size (w.alloc (.cells #[k, .int .i64 cap, b, c, .string s, .slice ad l.length ca] 32)) w' → w'.cell? ⟨w.heap.size, 1, none⟩ = some (.int .i64 cap) ∧ w'.cell? ⟨w.heap.size, 4, none⟩ = some (.string s) ∧ w'.cell? ⟨w.heap.size, 5, none⟩ = some (.slice ad l.length ca)) := hide (fun w' hb => by
    have hh := block_later (unhide HB0).2 hb
    exact ⟨cell_of_block hh 1 (by simp), cell_of_block hh 4 (by simp), cell_of_block hh 5 (by simp)⟩)
  go_enter Tryz.func15, Tryz.ntmps15
  go_wp2_with fail
  refine (handed_ref _ _ l ((unhide HI).later (unhide HB0).1) hl).mono ?_
  generalize w.alloc (.cells #[k, .int .i64 cap, b, c, .string s, .slice ad l.length ca] 32) = wa at *
  rintro e w1 ⟨hb1, g, hgl, rfl, hg1⟩
  obtain ⟨c1, c4, c5⟩ := unhide HC _ hb1
  have hglt := block_lt hg1
  have HB1 := hide (And.intro hb1 hg1)
  clear hb1 hg1
  go_wp2_with fail
  refine (unhide HPP _ _ (handA_ints (unhide HB1).2 _)).mono ?_
  rintro e w2 ⟨hb2, P, B, X, jv, rfl, hoP, hses⟩
  have hwa := block_lt (unhide HB0).2
  have hwa2 := (unhide HB1).1.size
  have HB2 := hide (And.intro ((unhide HB1).1.trans (hb2.mono (B' := wa.heap.size) hwa2)) (block_later (unhide HB1).2 hb2))
  have hs2 := hb2.size
  have HS2 := hide (And.intro hoP hses)
  clear hb2 c1 c4 c5 hoP hses
  obtain ⟨e1, e4, e5⟩ := unhide HC _ (unhide HB2).1
  go_wp2_with fail
  refine (still_ref _ _ g l (unhide HB2).2 ((unhide HI).later ((unhide HB0).1.trans ((unhide HB2).1.mono (B' := w.heap.size) (by omega)))) hl).mono ?_
  rintro e w4 ⟨rfl, hb4⟩
  have hbw4 := (unhide HB2).1.trans (hb4.mono (B' := wa.heap.size) (unhide HB2).1.size)
  clear e1 e4 e5
  obtain ⟨e1, e4, e5⟩ := unhide HC _ hbw4
  have HB4 := hide (And.intro hbw4 (And.intro (block_later (unhide HB2).2 hb4) ((unhide HS2).2.later hb4)))
  have hs4 := hb4.size
  clear hb4 hbw4
  go_wp2_with fail
  refine (unhide HRR _ _ ((unhide HI).later ((unhide HB0).1.trans ((unhide HB4).1.mono (B' := w.heap.size) (by omega))))).mono ?_
  rintro e w5 ⟨hb5, C, Y, rfl, hcur, hlaw, hoC⟩
  have hbw5 := (unhide HB4).1.trans (hb5.mono (B' := wa.heap.size) (unhide HB4).1.size)
  have hbW := (unhide HB0).1.trans (hbw5.mono (B' := w.heap.size) (by omega))
  have hW5 := (unhide HH).later hbW
  have hg5 := block_later (unhide HB4).2.1 hb5
  have hses5 := (unhide HB4).2.2.later hb5
  have hs5 := hb5.size
  have hrow := handA_row (B := S + 1) hg5 (by omega) (by unfold maxLen; omega)
  have HX5 := hide (And.intro hW5 (And.intro hrow hbW))
  have HS5 := hide (And.intro hses5 (And.intro hcur (And.intro hlaw hoC)))
  have hgt : ∀ j (hj : j < vs.length) q, vs[j].ownBlock = some q → ¬ (Value.slice (some ⟨g, 0, none⟩) l.length (l.length + 2)).ownBlock = some q := fun j hj q hq e => by
    have h1 := ((unhide HH).lg.lt j hj q hq).2
    simp [Value.ownBlock] at e
    omega
  have HN := hide hgt
  clear hb5 hbw5 e1 e4 e5 hW5 hg5 hrow hbW hgt hses5 hcur hlaw hoC
  go_wp2_with fail
  refine (own_ref2 _ S pv lv vs _ _ _ (unhide HX5).1.lg (unhide HX5).2.1 (unhide HN) (by omega)).mono ?_
  intro e w7 hO
  obtain ⟨lv7, v7, tag7, hW7, hv7, hl7⟩ := (unhide HX5).1.own (unhide HX5).2.1 (fun q e => by
    simp [Value.ownBlock] at e
    rw [if_neg (by omega)]) hO
  have hB7 := ((unhide HX5).2.2.mono (B' := S) (by omega)).trans hO.2.1
  have hkt : ∀ k t, KTy t → TyAt w5 k t → w7.heap[k]? = w5.heap[k]? := fun k t ht hk => own_kept (unhide HX5).1.lg (unhide HX5).2.1 hO ht hk
  have hs7 := hO.2.1.size
  have hlv5 : ∀ q, lv.ownBlock = some q → q < w.heap.size := fun q e => ((unhide HH).lg.own.lt q e).2
  have hst : ∀ q, q < w5.heap.size → w1.heap.size ≤ q → w7.heap[q]? = w5.heap[q]? := fun q h1 h2 => hO.2.2.1 q h1 (by omega) (fun e => by have := hlv5 q e; omega) (fun e => by simp [Value.ownBlock] at e; omega)
  have hses7 : Sess w7 P B R cap 0 0 mk0 X jv := (unhide HS5).1.stay hs7 (fun q hq => hst q ((unhide HS5).1.ses.own_lt hq) ((unhide HS2).1 q hq)) (fun q t ht hq => hkt q t (Or.inl ht) hq)
  have hcur7 : CurG w7 C pls ls R cap 0 0 0 (List.replicate (ls.length + 1) false) Y := (unhide HS5).2.1.stay (fun q hq => hst q ((unhide HS5).2.1.lt hq) (by have := (unhide HS5).2.2.2 q hq; omega)) (fun q t ht hq => hkt q t (Or.inr (Or.inl ht)) hq)
  obtain ⟨rfl, _⟩ := hO
  have hbA := (Below.refl w7.heap.size w7).alloc (Nat.le_refl _) (.cells #[.pointer (some ⟨P, 0, none⟩), .pointer (some ⟨C, 0, none⟩)] 65)
  have hnA := heap_alloc_new w7 (.cells #[.pointer (some ⟨P, 0, none⟩), .pointer (some ⟨C, 0, none⟩)] 65)
  have hpr : PrOK (w7.alloc (.cells #[.pointer (some ⟨P, 0, none⟩), .pointer (some ⟨C, 0, none⟩)] 65)) ⟨w7.heap.size, P, B, X, jv, C, Y, ps, pls, ls, R, cap, 0, 0, 0, mk0⟩ := by
    refine ⟨hnA, hses7.later hbA, hcst, ?_, hX (unhide HS5).2.2.1, Nat.le_refl _, fun q h1 h2 => ?_⟩
    · have e : mk0.take (ls.length + 1) = List.replicate (ls.length + 1) false := by
        unfold mk0
        rw [List.take_replicate]
        congr 1
        omega
      show CurG _ C pls ls R cap 0 0 0 (mk0.take (ls.length + 1)) Y
      rw [e]
      exact hcur7.later hbA
    · have e1 := (unhide HS5).2.2.2 q h2
      have e2 := (unhide HS2).2.ses.own_lt h1
      omega
  have hWA := hW7.later hbA
  have hfar : ∀ q ∈ prL ⟨w7.heap.size, P, B, X, jv, C, Y, ps, pls, ls, R, cap, 0, 0, 0, mk0⟩, w1.heap.size ≤ q ∧ (q < w5.heap.size ∨ q = w7.heap.size) := fun q hq => by
    rcases List.mem_cons.mp hq with e | hq
    · have e : q = w7.heap.size := e
      exact ⟨by omega, Or.inr e⟩
    · rcases List.mem_append.mp hq with hq | hq
      · have e1 := (unhide HS2).1 q hq
        have e2 := (unhide HS2).2.ses.own_lt hq
        exact ⟨e1, Or.inl (by omega)⟩
      · have e1 := (unhide HS5).2.2.2 q hq
        have e2 := (unhide HS5).2.1.lt hq
        exact ⟨by omega, Or.inl e2⟩
  have hdis : ∀ q ∈ prL ⟨w7.heap.size, P, B, X, jv, C, Y, ps, pls, ls, R, cap, 0, 0, 0, mk0⟩, S < q ∧ lv7.ownBlock ≠ some q ∧ pv.ownBlock ≠ some q ∧ (∀ i (hi : i < (vs ++ [v7]).length), (vs ++ [v7])[i].ownBlock ≠ some q) ∧ ∀ i (hi : i < prs.length), q ∉ prL prs[i] := fun q hq => by
    obtain ⟨q1, q2⟩ := hfar q hq
    refine ⟨by omega, fun e => ?_, fun e => ?_, fun i hi e => ?_, fun i hi e => ?_⟩
    · have e1 := (hW7.lg.own.lt q e).2
      rcases hl7 q e with e2 | e2
      · have := hlv5 q e2; omega
      · omega
    · have := ((unhide HH).ps.lt q e).2; omega
    · by_cases hiv : i < vs.length
      · rw [List.getElem_append_left hiv] at e
        have := ((unhide HH).lg.lt i hiv q e).2
        omega
      · have : i = vs.length := by simp at hi; omega
        subst this
        rw [List.getElem_append_right (Nat.le_refl _)] at e
        simp only [Nat.sub_self, List.getElem_cons_zero] at e
        rw [hv7] at e
        simp [Value.ownBlock] at e
        omega
    · have := ((unhide HH).each i hi).lt e; omega
  have HPush := hide (fun (wx wy : World) (pv' : Value) hb hg ho hat => hWA.push (w1 := wx) (w2 := wy) (pv' := pv') hpr hdis hb hg ho hat)
  have c0 : (w7.alloc (.cells #[.pointer (some ⟨P, 0, none⟩), .pointer (some ⟨C, 0, none⟩)] 65)).cell? ⟨S, 0, none⟩ = some pv := cell_of_block hWA.lg.block 0 (by simp)
  have hps := hWA.ps
  obtain ⟨pa, pc, hpv⟩ := ownsRow_form hps
  rw [hpv] at c0 hps
  have hSA := block_lt hWA.lg.block
  have HWA := hide (And.intro hWA (And.intro hpr (And.intro hB7 hbA)))
  clear hW7 hv7 hl7 hB7 hkt hs7 hlv5 hst hses7 hcur7 hbA hnA hpr hWA hfar hdis
  obtain ⟨j0, hj0, hy0, hy1, hy2⟩ := info_parts Tryz.infoPair
  have hsA : (w7.alloc (.cells #[.pointer (some ⟨P, 0, none⟩), .pointer (some ⟨C, 0, none⟩)] 65)).heap.size = w7.heap.size + 1 := by simp
  go_wp2_with (first
    | (go_at_call 20; refine (num_ref 0 _).mono ?_; rintro e wn ⟨rfl, hwn⟩; rw [hwn]; clear hwn)
    | (at_builtin; refine wpList_append_lies _ rfl _ _ 27 rfl (S + 1) 36 j0 _ 1 8 Tryz.underlying27 hj0 hy0 hy1 hy2 rfl (by decide) _ _ _ rfl (hps.alloc _) ⟨w7.heap.size + 1, 0, none⟩ 1 1 [.pointer (some ⟨w7.heap.size, 0, none⟩)] rfl rfl (cell_one_new2 w7 _ _ _) (by simp [Value.oneCell']) (by omega) (by unfold maxLen; omega) (by omega) (by simp; omega) (w7.heap.size + 1 + 1) (by simp) ?_))
  intro g9 cap9 w9 hown9 hgrow9 hat9 hlt9
  have hb9 := (Below.refl _ (w7.alloc (.cells #[.pointer (some ⟨P, 0, none⟩), .pointer (some ⟨C, 0, none⟩)] 65))).alloc (Nat.le_refl _) (.cells #[.pointer (some ⟨w7.heap.size, 0, none⟩)] 36)
  have hpS : ¬ some S = (Value.slice pa prs.length pc).ownBlock := fun e => by
    have := (hps.lt S e.symm).1
    omega
  have hS9 := (hgrow9.block S (by simp; omega) hpS).trans (block_later (unhide HWA).1.lg.block hb9)
  have d0 : w9.cell? ⟨S, 0, none⟩ = some pv := cell_of_block hS9 0 (by simp)
  rw [hpv] at d0
  have z0 := free_of_block hS9 0
  obtain ⟨⟨tag9, hW9⟩, hB9⟩ := unhide HPush _ w9 (.slice (some ⟨g9, 0, none⟩) (prs.length + 1) cap9) hb9 (by rw [hpv]; exact hgrow9) hown9 (fun q e => by
    simp [Value.ownBlock] at e
    subst e
    rcases hat9 with e | e
    · exact Or.inl (by rw [hpv]; exact e)
    · exact Or.inr (by rw [hsA]; omega))
  have hpr9 : PrOK (w9.setCell ⟨S, 0, none⟩ (.slice (some ⟨g9, 0, none⟩) (prs.length + 1) cap9)) ⟨w7.heap.size, P, B, X, jv, C, Y, ps, pls, ls, R, cap, 0, 0, 0, mk0⟩ := by
    have := hW9.each prs.length (by simp)
    rw [List.getElem_append_right (Nat.le_refl _)] at this
    simpa using this
  have HW9 := hide (And.intro hW9 (And.intro hpr9 ((unhide HWA).2.2.1.trans (((unhide HWA).2.2.2.mono (B' := S) (by omega)).trans hB9))))
  clear hb9 hpS hS9 hW9 hB9 hpr9 hown9 hgrow9 hat9 hlt9 c0 hps
  go_wp2_with fail
  refine (where_ref _ (unhide HW9).2.1).mono ?_
  generalize w9.setCell ⟨S, 0, none⟩ (.slice (some ⟨g9, 0, none⟩) (prs.length + 1) cap9) = wx at *
  rintro e w11 ⟨rfl, hb11⟩
  have HB11 := hide hb11
  clear hb11
  go_wp2_with fail
  refine (pheld_ref _ ((unhide HW9).2.1.later (unhide HB11)) (by show 0 < _; omega)).mono ?_
  rintro e w12 ⟨rfl, hb12⟩
  have HB12 := hide ((unhide HB11).trans (hb12.mono (unhide HB11).size))
  clear hb12
  go_wp2_with fail
  go_ret
  refine ⟨by first | rfl | simp, (unhide HW9).2.2.trans ((unhide HB12).mono (by have := block_lt (unhide HW9).1.lg.block; omega)), _, _, vs ++ [v7], _, tag9, (unhide HW9).1.later (unhide HB12), by simp, by simp, fun M hM t ht => ?_⟩
  rcases List.mem_append.mp ht with ht | ht
  · have := hM t ht
    omega
  · rw [List.mem_singleton.mp ht]
    show 0 ≤ _
    omega
end Go.Proofs.YthleadfkfnnadaaGreat
