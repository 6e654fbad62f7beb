/- The names of a program: calls, parameters. -/
import Derived.Test.YthleadfkfnnadaaGreatNames2
namespace Go.Proofs.YthleadfkfnnadaaGreat
open Go.RowKit
attribute [local go_sem ↓] Go.wp_at_zero Go.wp_at_succ
theorem ExprsR.get {w : World} {B : Nat} : ∀ (vs : List Value) (os : List (List Pop)) (i : Nat) (h : i < os.length), ExprsR w B vs os → ∃ x, vs[i]? = some x ∧ w.ownsRow B 236 3 x os[i].length (popsCells os[i])
  | x :: _, o :: _, 0, _, ⟨h1, _⟩ => ⟨x, rfl, h1⟩
  | _ :: xs, _ :: os, i + 1, h, ⟨_, h2⟩ => by
    obtain ⟨y, hy, hr⟩ := ExprsR.get xs os i (by simpa using h) h2
    exact ⟨y, by simpa using hy, hr⟩
  | [], _ :: _, _, _, h => h.elim
  | _, [], _, h, _ => by simp at h
theorem vall_end {os : List (List Pop)} {f : List Pop → Bool} {k : Nat} {b : Bool} (h : (os.drop k).all f = b) (hk : ¬ k < os.length) : b = true := by
  rw [List.drop_eq_nil_of_le (by omega)] at h
  exact h.symm
theorem vall_no {os : List (List Pop)} {f : List Pop → Bool} {k : Nat} {b : Bool} (h : (os.drop k).all f = b) (hk : k < os.length) (hd : f os[k] = false) : b = false := by
  rw [List.drop_eq_getElem_cons hk, List.all_cons, hd] at h
  exact h.symm
theorem vall_yes {os : List (List Pop)} {f : List Pop → Bool} {k : Nat} {b : Bool} (h : (os.drop k).all f = b) (hk : k < os.length) (hd : f os[k] = true) : (os.drop (k + 1)).all f = b := by
  rw [List.drop_eq_getElem_cons hk, List.all_cons, hd] at h
  exact h
set_option maxHeartbeats 2000000 in
set_option maxRecDepth 100000 in
theorem expressionsFit_any (w : World) (P : Nat) (pls : List Rt.PL) (lv : Value) (cs : List (List Value)) (pl : Rt.PL) (a0 a1 a2 a3 : Option Addr) (c0 c1 c2 c3 : Nat) (xe xf : Int) (h : ProgS w P pls lv cs) (hlen : pls.length ≤ 101) (hpar : (Rt.formAt pls pl.proc).params.length ≤ 1000) (hsm : Rt.Small pl.form)
    (hf : FormV w (P + 1) #[.int .i64 pl.form.kind, .string pl.form.name, .int .i64 pl.form.cells, .slice a1 pl.form.params.length c1, .slice a2 pl.form.index.length c2, .slice a3 pl.form.values.length c3] pl.form) :
    Calls Tryz.prog 173 #[.pointer (some ⟨P, 0, none⟩), .agg #[.slice a0 pl.toks.length c0, .int .i64 pl.form.kind, .string pl.form.name, .int .i64 pl.form.cells, .slice a1 pl.form.params.length c1, .slice a2 pl.form.index.length c2, .slice a3 pl.form.values.length c3, .int .i64 pl.depth, .int .i64 pl.opener, .int .i64 xe, .int .i64 xf, .int .i64 pl.proc]] w fun e w' =>
      e = .returned (.bool (Rt.exsFit pls pl)) ∧ Below w.heap.size w w' := by
  have hb0 := (Below.refl w.heap.size w).alloc (Nat.le_refl _) (.cells #[.slice a0 pl.toks.length c0, .int .i64 pl.form.kind, .string pl.form.name, .int .i64 pl.form.cells, .slice a1 pl.form.params.length c1, .slice a2 pl.form.index.length c2, .slice a3 pl.form.values.length c3, .int .i64 pl.depth, .int .i64 pl.opener, .int .i64 xe, .int .i64 xf, .int .i64 pl.proc] 145)
  have hL0 := heap_alloc_new w (.cells #[.slice a0 pl.toks.length c0, .int .i64 pl.form.kind, .string pl.form.name, .int .i64 pl.form.cells, .slice a1 pl.form.params.length c1, .slice a2 pl.form.index.length c2, .slice a3 pl.form.values.length c3, .int .i64 pl.depth, .int .i64 pl.opener, .int .i64 xe, .int .i64 xf, .int .i64 pl.proc] 145)
  have h0 := h.later hb0
  have hf0 := (keeps_later (B := P + 1) hb0).form hf
  obtain ⟨pv, iv, vv, vs, hfv, b1, b2, b3, b4⟩ := hf0
  simp at hfv
  obtain ⟨rfl, rfl, rfl⟩ := hfv
  clear h hf
  go_enter Tryz.func173, Tryz.ntmps173
  go_wp2_with fail
  refine (expressionFits_any _ _ _ _ _ pl.proc a2 c2 pl.form.index h0 hlen hpar b2 (Nat.le_trans hsm.index (by omega))).mono ?_
  rintro e w1 ⟨rfl, hb1⟩
  cases hv : Rt.exFit pls pl.proc pl.form.index with
  | false =>
    have HE := hide (show Rt.exsFit pls pl = false by simp [Rt.exsFit, hv])
    have HB := hide (hb0.trans (hb1.mono (B' := w.heap.size) (by simp)))
    clear h0 hL0 hb0 hb1 b1 b2 b3 b4 hv
    go_wp2_with fail
    go_ret
    exact ⟨by rw [unhide HE]; rfl, unhide HB⟩
  | true =>
    have hI : pl.form.values.all (Rt.exFit pls pl.proc) = Rt.exsFit pls pl := by simp [Rt.exsFit, hv]
    have h1 := h0.later hb1
    have hL1 := block_later hL0 hb1
    have b31 := own_later b3 hb1
    have b41 := (keeps_later (B := P + 1) hb1).exprs _ _ b4
    have hbe1 := hb0.trans (hb1.mono (B' := w.heap.size) (by simp))
    clear h0 hL0 hb0 hb1 b1 b2 b3 b4 hv
    go_wp2_with fail
    go_loopw [5] (fun i wr => ∃ k : Nat, k ≤ pl.form.values.length ∧ i = .int .i64 k ∧ (pl.form.values.drop k).all (Rt.exFit pls pl.proc) = Rt.exsFit pls pl ∧ ProgS wr P pls lv cs ∧
        wr.heap[w.heap.size]? = some (.cells #[.slice a0 pl.toks.length c0, .int .i64 pl.form.kind, .string pl.form.name, .int .i64 pl.form.cells, .slice a1 pl.form.params.length c1, .slice a2 pl.form.index.length c2, .slice a3 pl.form.values.length c3, .int .i64 pl.depth, .int .i64 pl.opener, .int .i64 xe, .int .i64 xf, .int .i64 pl.proc] 145 (0, 0)) ∧
        wr.ownsRow (P + 1) 140 1 (.slice a3 pl.form.values.length c3) pl.form.values.length vs ∧ ExprsR wr (P + 1) vs pl.form.values ∧ Below w.heap.size w wr)
      (fun i _ => pl.form.values.length - (intOf i).toNat)
    case atStart => exact ⟨0, Nat.zero_le _, rfl, hI, h1, hL1, b31, b41, hbe1⟩
    case round =>
      clear h1 hL1 b31 b41 hbe1 hI
      obtain ⟨k, hk, rfl, hT, hpr, hL, hvv, hvs, hbe⟩ := hrel
      have HT := hide hT
      clear hT
      have hsz := hbe.size
      obtain ⟨l0, l1, l2, l3, l4, l5, l6, l7, l8, l9, l10, l11⟩ := ten_block hL
      have hval := hsm.values
      by_cases hlt : k < pl.form.values.length
      · have hlt' : (k : Int) < (pl.form.values.length : Int) := by omega
        have hk0 : (0 : Int) ≤ (k : Int) := by omega
        obtain ⟨xv, hx1, hx2⟩ := ExprsR.get _ _ k hlt hvs
        obtain ⟨adx, capx, rfl⟩ := ownsRow_form hx2
        obtain ⟨g, cap', hg, _, hglt, cx⟩ := own_cell hvv hx1
        simp at hg
        obtain ⟨rfl, rfl⟩ := hg
        have hLlt := block_lt hL
        have hob : pl.form.values[k].length ≤ 1000 := Nat.le_trans (hsm.each _ (List.getElem_mem hlt)) (by omega)
        have HN := hide (vall_no (unhide HT) hlt)
        have HY := hide (vall_yes (unhide HT) hlt)
        have HX := hide (And.intro hpr (And.intro hL (And.intro hvv (And.intro hvs (And.intro hbe hx2)))))
        clear hpr hL hvv hvs hbe hx2 hx1
        generalize pl.form.values[k] = ov at *
        go_wp2_with fail
        go_region_with
          ((go_at_call 202; refine (expressionFits_any _ _ _ _ _ pl.proc adx capx ov (by exact (unhide HX).1.later (below_to_drew _)) hlen hpar (by exact own_later (unhide HX).2.2.2.2.2 (below_to_drew _)) hob).mono ?_; rintro e w2 ⟨rfl, hb2⟩))
        all_goals
          obtain ⟨q1, q2, q3, q4, q5, _⟩ := unhide HX
          have hb2' := below_of_drew hb2
          cases hv : Rt.exFit pls pl.proc ov with
          | true =>
            have HG := hide (And.intro (unhide HY hv) (And.intro (q1.later hb2') (And.intro (block_later q2 hb2') (And.intro (own_later q3 hb2') (And.intro ((keeps_later (B := P + 1) hb2').exprs _ _ q4) (q5.trans (hb2'.mono (B' := w.heap.size) hsz)))))))
            clear q1 q2 q3 q4 q5 hb2 hb2' hv HX
            go_wp2_with fail
            go_roundw
            case rel =>
              obtain ⟨r1, r2, r3, r4, r5, r6⟩ := unhide HG
              exact ⟨k + 1, by omega, by go_num, r1, r2, r3, r4, r5, r6⟩
            case measure => simp [intOf]; omega
          | false =>
            have HG := hide (And.intro (unhide HN hv) (q5.trans (hb2'.mono (B' := w.heap.size) hsz)))
            clear q1 q2 q3 q4 q5 hb2 hb2' hv HX
            go_wp2_with fail
            go_ret
            exact ⟨by rw [(unhide HG).1]; rfl, (unhide HG).2⟩
      · have HE := hide (vall_end (unhide HT) hlt)
        have hlt' : ¬ (k : Int) < (pl.form.values.length : Int) := by omega
        have HB := hide hbe
        clear hpr hL hvv hvs hbe
        go_wp2_with fail
        go_ret
        exact ⟨by rw [unhide HE]; rfl, unhide HB⟩
end Go.Proofs.YthleadfkfnnadaaGreat
namespace Go.Proofs.YthleadfkfnnadaaGreat
open Go.RowKit
set_option maxHeartbeats 1000000 in
set_option maxRecDepth 100000 in
theorem callFits_any (w : World) (P : Nat) (pls : List Rt.PL) (lv : Value) (cs : List (List Value)) (fm : Rt.PForm) (a1 a2 a3 : Option Addr) (c1 c2 c3 : Nat) (h : ProgS w P pls lv cs) (hlen : pls.length ≤ 101) :
    Calls Tryz.prog 172 #[.pointer (some ⟨P, 0, none⟩), .agg #[.int .i64 fm.kind, .string fm.name, .int .i64 fm.cells, .slice a1 fm.params.length c1, .slice a2 fm.index.length c2, .slice a3 fm.values.length c3]] w fun e w' => e = .returned (.bool (Rt.callFit pls fm)) ∧ Below w.heap.size w w' := by
  have hb0 := (Below.refl w.heap.size w).alloc (Nat.le_refl _) (.cells #[.int .i64 fm.kind, .string fm.name, .int .i64 fm.cells, .slice a1 fm.params.length c1, .slice a2 fm.index.length c2, .slice a3 fm.values.length c3] 143)
  have hN0 := heap_alloc_new w (.cells #[.int .i64 fm.kind, .string fm.name, .int .i64 fm.cells, .slice a1 fm.params.length c1, .slice a2 fm.index.length c2, .slice a3 fm.values.length c3] 143)
  have h0 := h.later hb0
  clear h
  go_enter Tryz.func172, Tryz.ntmps172
  go_wp2_with fail
  refine (declared_any _ _ _ _ _ fm.name h0 hlen).mono ?_
  rintro e w2 ⟨fv, rfl, ⟨pv, iv, vv, vs, rfl, b1, b2, b3, _⟩, hb2⟩
  obtain ⟨ad1, cap1, rfl⟩ := ownsRow_form b1
  obtain ⟨ad2, cap2, rfl⟩ := ownsRow_form b2
  obtain ⟨ad3, cap3, rfl⟩ := ownsRow_form b3
  obtain ⟨_, _, _, _, _, x5, _, _, _, _, _, _⟩ := six (block_later hN0 hb2)
  have hz := block_lt (block_later hN0 hb2)
  have HB := hide ((hb0.trans (hb2.mono (B' := w.heap.size) (by simp))).alloc (by omega) (.cells #[.int .i64 (Rt.declForm pls fm.name).kind, .string (Rt.declForm pls fm.name).name, .int .i64 (Rt.declForm pls fm.name).cells, .slice ad1 (Rt.declForm pls fm.name).params.length cap1, .slice ad2 (Rt.declForm pls fm.name).index.length cap2, .slice ad3 (Rt.declForm pls fm.name).values.length cap3] 143))
  have HE := hide (show Rt.callFit pls fm = (decide ((Rt.declForm pls fm.name).kind = 3) && decide ((Rt.declForm pls fm.name).params.length = fm.values.length)) from rfl)
  clear h0 hb0 hN0 hb2 b1 b2 b3
  generalize (Rt.declForm pls fm.name) = df at *
  by_cases hk : df.kind = 3
  · have hk' : (df.kind == 3) = true := by simpa using hk
    rw [hk] at HB
    have HE2 := hide ((unhide HE).trans (by rw [hk]; rfl : _ = decide (df.params.length = fm.values.length)))
    clear HE
    go_wp2_with fail
    go_ret
    refine ⟨?_, ?_⟩
    · rw [unhide HE2]
      refine ret_bool ?_
      rw [Bool.eq_iff_iff]
      simp
      omega
    · have := unhide HB
      first | exact this | (rw [hk]; exact this)
  · have hk' : (df.kind == 3) = false := by simpa using hk
    have HE2 := hide ((unhide HE).trans (by simp [hk] : _ = false))
    clear HE hk
    go_wp2_with fail
    go_ret
    exact ⟨by rw [unhide HE2]; rfl, unhide HB⟩
theorem below_drewN2 {B : Nat} (w : World) (q : Nat) : Below B w (w.drewN q) := ⟨rfl, rfl, rfl, Nat.le_refl _, fun _ _ => rfl⟩
set_option maxHeartbeats 2000000 in
set_option maxRecDepth 100000 in
theorem paramsFit_any (w : World) (B : Nat) (fm : Rt.PForm) (a1 a2 a3 : Option Addr) (c1 c2 c3 : Nat) (hp : w.ownsRow B 9 1 (.slice a1 fm.params.length c1) fm.params.length (fm.params.map Value.string)) (hsm : fm.params.length ≤ 1000) :
    Calls Tryz.prog 171 #[.agg #[.int .i64 fm.kind, .string fm.name, .int .i64 fm.cells, .slice a1 fm.params.length c1, .slice a2 fm.index.length c2, .slice a3 fm.values.length c3]] w fun e w' => e = .returned (.bool (Rt.parFit fm)) ∧ Below w.heap.size w w' := by
  have hb0 := (Below.refl w.heap.size w).alloc (Nat.le_refl _) (.cells #[.int .i64 fm.kind, .string fm.name, .int .i64 fm.cells, .slice a1 fm.params.length c1, .slice a2 fm.index.length c2, .slice a3 fm.values.length c3] 143)
  have hN0 := heap_alloc_new w (.cells #[.int .i64 fm.kind, .string fm.name, .int .i64 fm.cells, .slice a1 fm.params.length c1, .slice a2 fm.index.length c2, .slice a3 fm.values.length c3] 143)
  have hp0 := own_later hp hb0
  by_cases hm : (fm.name.toList == Rt.mainWord) = true ∧ 0 < fm.params.length
  · obtain ⟨hm1, hm2⟩ := hm
    have HE : Hid (Rt.parFit fm = false) := hide (by simp [Rt.parFit, hm1, hm2])
    unfold Rt.mainWord at hm1
    have hm2' : (0 : Int) < (fm.params.length : Int) := by omega
    have HB := hide hb0
    clear hb0 hN0 hp0 hp
    go_enter Tryz.func171, Tryz.ntmps171
    go_wp2_with fail
    go_ret
    exact ⟨by rw [unhide HE]; rfl, unhide HB⟩
  · have HE : Hid (∀ b : Prop, (Rt.NoDup fm.params fm.params.length ↔ b) → [Decidable b] → Rt.parFit fm = decide b) := by
      refine hide ?_
      intro b hb _
      have h1 : ((fm.name.toList == Rt.mainWord) && decide (0 < fm.params.length)) = false := by
        rw [Bool.eq_false_iff]
        intro e
        simp at e
        exact hm ⟨by simpa using e.1, by omega⟩
      rw [Rt.parFit, h1]
      simp [hb]
    have HE1 := hide ((unhide HE) True)
    have HE0 := hide ((unhide HE) False)
    clear HE
    have hcase : (fm.name.toList == [109, 97, 105, 110]) = true ∧ ¬ (0 : Int) < (fm.params.length : Int) ∨ (fm.name.toList == [109, 97, 105, 110]) = false := by
      cases e : (fm.name.toList == [109, 97, 105, 110]) with
      | true => exact Or.inl ⟨rfl, by have : ¬ 0 < fm.params.length := fun x => hm ⟨e, x⟩; omega⟩
      | false => exact Or.inr rfl
    clear hm hp
    have hNlt := block_lt hN0
    rcases hcase with ⟨hm1, hm2⟩ | hm1
    all_goals
      go_enter Tryz.func171, Tryz.ntmps171
      go_wp2_with fail
      go_loopw [3, 4] (fun i _ wr => ∃ k : Nat, k ≤ fm.params.length ∧ i = .int .i64 k ∧ Rt.NoDup fm.params k ∧ wr.heap[w.heap.size]? = some (.cells #[.int .i64 fm.kind, .string fm.name, .int .i64 fm.cells, .slice a1 fm.params.length c1, .slice a2 fm.index.length c2, .slice a3 fm.values.length c3] 143 (0, 0)) ∧
          wr.ownsRow B 9 1 (.slice a1 fm.params.length c1) fm.params.length (fm.params.map Value.string) ∧ Below w.heap.size w wr)
        (fun i _ _ => fm.params.length - (intOf i).toNat)
      case atStart => exact ⟨0, Nat.zero_le _, rfl, fun i j h1 h2 => by omega, hN0, hp0, hb0⟩
      case round =>
        clear hN0 hp0 hb0
        obtain ⟨k, hk, rfl, hT, hN, hp, hbe⟩ := hrel
        have HT := hide hT
        clear hT
        obtain ⟨_, _, _, x3, _, _, _, _, _, _, _, _⟩ := six hN
        by_cases hlt : k < fm.params.length
        · try (exfalso; omega)
          all_goals
            have hlt' : (k : Int) < (fm.params.length : Int) := by omega
            have HH := hide (And.intro hN (And.intro hp hbe))
            clear hN hp hbe
            go_wp2_with fail
            go_loopw [4] (fun j wr2 => ∃ m : Nat, m ≤ k ∧ j = .int .i64 m ∧ (∀ j, j < m → ¬ fm.params[k]? = fm.params[j]?) ∧ wr2.heap[w.heap.size]? = some (.cells #[.int .i64 fm.kind, .string fm.name, .int .i64 fm.cells, .slice a1 fm.params.length c1, .slice a2 fm.index.length c2, .slice a3 fm.values.length c3] 143 (0, 0)) ∧
                wr2.ownsRow B 9 1 (.slice a1 fm.params.length c1) fm.params.length (fm.params.map Value.string) ∧ Below w.heap.size w wr2)
              (fun j _ => k - (intOf j).toNat)
            case atStart => exact ⟨0, Nat.zero_le _, rfl, fun j h => by omega, (unhide HH).1, (unhide HH).2.1, (unhide HH).2.2⟩
            case round =>
              clear HH
              obtain ⟨m, hm, rfl, hT2, hN2, hp2, hbe2⟩ := hrel
              have HT2 := hide hT2
              clear hT2
              obtain ⟨_, _, _, y3, _, _, _, _, _, _, _, _⟩ := six hN2
              by_cases hlt2 : m < k
              · have hlt2' : (m : Int) < (k : Int) := by omega
                obtain ⟨g, cap', hg, _, _, ck⟩ := own_cell hp2 (j := k) (u := .string fm.params[k]) (by simp [hlt])
                obtain ⟨g', cap'', hg', _, _, cm⟩ := own_cell hp2 (j := m) (u := .string (fm.params[m]'(by omega))) (by rw [List.getElem?_map, List.getElem?_eq_getElem (by omega)]; rfl)
                simp at hg hg'
                obtain ⟨rfl, rfl⟩ := hg
                simp at hg'
                obtain ⟨rfl, rfl⟩ := hg'
                have hm3 : (m : Int) < (fm.params.length : Int) := by omega
                have hm0 : (0 : Int) ≤ (m : Int) := by omega
                have hk0 : (0 : Int) ≤ (k : Int) := by omega
                have HH := hide (And.intro hN2 (And.intro hp2 hbe2))
                clear hN2 hp2 hbe2
                by_cases heq : fm.params[k] = fm.params[m]'(by omega)
                · have heq' := Rt.str_same heq
                  have HR : Hid (Rt.parFit fm = false) := by
                    refine hide ?_
                    have := (unhide HE0) ⟨fun h => (h k m hlt2 hlt hlt (by rw [List.getElem?_eq_getElem hlt, List.getElem?_eq_getElem (by omega), heq])).elim, fun h => h.elim⟩
                    simpa using this
                  clear heq
                  go_wp2_with fail
                  go_quiet (fail)
                  go_wp2_with fail
                  go_ret
                  exact ⟨by rw [unhide HR]; rfl, (unhide HH).2.2.trans (below_drewN2 _ _)⟩
                · have heq' := Rt.str_ne heq
                  have HT3 : Hid (∀ j, j < m + 1 → ¬ fm.params[k]? = fm.params[j]?) := by
                    refine hide ?_
                    intro j hj
                    by_cases e : j = m
                    · subst e
                      rw [List.getElem?_eq_getElem hlt, List.getElem?_eq_getElem (by omega)]
                      simpa using heq
                    · exact unhide HT2 j (by omega)
                  clear heq
                  go_wp2_with fail
                  go_quiet (fail)
                  go_wp2_with fail
                  go_roundw
                  case rel => exact ⟨m + 1, by omega, by go_num, unhide HT3, (unhide HH).1, (unhide HH).2.1, (unhide HH).2.2.trans (below_drewN2 _ _)⟩
                  case measure => simp [intOf]; omega
              · have hlt2' : ¬ (m : Int) < (k : Int) := by omega
                have hmk : m = k := by omega
                have HT3 : Hid (Rt.NoDup fm.params (k + 1)) := by
                  refine hide ?_
                  intro i j h1 h2 h3
                  by_cases e : i = k
                  · subst e; exact unhide HT2 j (by omega)
                  · exact unhide HT i j h1 (by omega) h3
                have HH := hide (And.intro hN2 (And.intro hp2 hbe2))
                clear hN2 hp2 hbe2
                go_wp2_with fail
                go_roundw
                case rel => exact ⟨k + 1, by omega, by go_num, unhide HT3, (unhide HH).1, (unhide HH).2.1, (unhide HH).2.2⟩
                case measure => simp [intOf]; omega
        · have hlt' : ¬ (k : Int) < (fm.params.length : Int) := by omega
          have hkk : k = fm.params.length := by omega
          have HR : Hid (Rt.parFit fm = true) := by
            refine hide ?_
            have := (unhide HE1) ⟨fun _ => trivial, fun _ => by rw [← hkk]; exact unhide HT⟩
            simpa using this
          have HH := hide hbe
          clear hN hp hbe
          go_wp2_with fail
          go_ret
          exact ⟨by rw [unhide HR]; rfl, unhide HH⟩
end Go.Proofs.YthleadfkfnnadaaGreat
