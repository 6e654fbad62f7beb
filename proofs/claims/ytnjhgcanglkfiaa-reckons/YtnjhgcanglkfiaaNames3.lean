/- The names of a program: the expressions of a line. -/
import Derived.Test.YtnjhgcanglkfiaaNames1
namespace Go.Proofs.Ytnjhgcanglkfiaa
open Go.RowKit


theorem popsCells_get : ∀ (ts : List Pop) (i : Nat) (h : i < ts.length), (popsCells ts)[i * 3]? = some (.int .i64 ts[i].code) ∧ (popsCells ts)[i * 3 + 1]? = some (.int .i64 ts[i].number) ∧ (popsCells ts)[i * 3 + 2]? = some (.string ts[i].name)
  | [], i, h => by simp at h
  | t :: r, 0, _ => by simp [popsCells, popCells]
  | t :: r, i + 1, h => by
    have ih := popsCells_get r i (by simpa using h)
    have e : popsCells (t :: r) = [Value.int .i64 t.code, Value.int .i64 t.number, Value.string t.name] ++ popsCells r := by simp [popsCells, popCells]
    have e2 : (i + 1) * 3 = i * 3 + 3 := by omega
    rw [e, e2]
    simpa using ih

theorem own_three {w : World} {B : Nat} {ad : Option Addr} {cap : Nat} {ops : List Pop} (h : w.ownsRow B 120 3 (.slice ad ops.length cap) ops.length (popsCells ops)) {k : Nat} (hk : k < ops.length) :
    ∃ g, ad = some ⟨g, 0, none⟩ ∧ w.cell? ⟨g, k * 3, none⟩ = some (.int .i64 ops[k].code) ∧ w.cell? ⟨g, k * 3 + 1, none⟩ = some (.int .i64 ops[k].number) ∧ w.cell? ⟨g, k * 3 + 2, none⟩ = some (.string ops[k].name) := by
  obtain ⟨e0, e1, e2⟩ := popsCells_get ops k hk
  obtain ⟨g, c, hv, _, _, x0⟩ := own_cell h e0
  obtain ⟨g1, c1, hv1, _, _, x1⟩ := own_cell h e1
  obtain ⟨g2, c2, hv2, _, _, x2⟩ := own_cell h e2
  simp at hv hv1 hv2
  rw [hv.1] at hv1 hv2
  simp at hv1 hv2
  refine ⟨g, hv.1, x0, ?_, ?_⟩
  · rw [hv1.1]; exact x1
  · rw [hv2.1]; exact x2

theorem all_end {ops : List Pop} {f : Pop → Bool} {k : Nat} {b : Bool} (h : (ops.drop k).all f = b) (hk : ¬ k < ops.length) : b = true := by
  rw [List.drop_eq_nil_of_le (by omega)] at h
  exact h.symm
theorem all_no {ops : List Pop} {f : Pop → Bool} {k : Nat} {b : Bool} (h : (ops.drop k).all f = b) (hk : k < ops.length) (hd : f ops[k] = false) : b = false := by
  rw [List.drop_eq_getElem_cons hk, List.all_cons, hd] at h
  exact h.symm
theorem all_yes {ops : List Pop} {f : Pop → Bool} {k : Nat} {b : Bool} (h : (ops.drop k).all f = b) (hk : k < ops.length) (hd : f ops[k] = true) : (ops.drop (k + 1)).all f = b := by
  rw [List.drop_eq_getElem_cons hk, List.all_cons, hd] at h
  exact h

set_option maxHeartbeats 2000000 in
set_option maxRecDepth 100000 in
theorem expressionFits_any (w : World) (P : Nat) (pls : List Rt.PL) (lv : Value) (cs : List (List Value)) (n : Int) (ad : Option Addr) (cap : Nat) (ops : List Pop) (h : ProgS w P pls lv cs) (hlen : pls.length ≤ 101) (hpar : (Rt.formAt pls n).params.length ≤ 1000)
    (hx : w.ownsRow (P + 1) 120 3 (.slice ad ops.length cap) ops.length (popsCells ops)) (hops : ops.length ≤ 1000) :
    Calls Try.prog 73 #[.pointer (some ⟨P, 0, none⟩), .int .i64 n, .agg #[.slice ad ops.length cap]] w fun e w' => e = .returned (.bool (Rt.exFit pls n ops)) ∧ Below w.heap.size w w' := by
  have hb0 := (Below.refl w.heap.size w).alloc (Nat.le_refl _) (.cells #[.slice ad ops.length cap] 55)
  have hE0 := heap_alloc_new w (.cells #[.slice ad ops.length cap] 55)
  have h0 := h.later hb0
  have hx0 := own_later hx hb0
  clear h hx
  go_enter Try.func73, Try.ntmps73
  go_wp2_with fail
  go_loopw [7, 8] (fun i _ wr => ∃ k : Nat, k ≤ ops.length ∧ i = .int .i64 k ∧ (ops.drop k).all (Rt.opFit pls n) = Rt.exFit pls n ops ∧ ProgS wr P pls lv cs ∧ wr.heap[w.heap.size]? = some (.cells #[.slice ad ops.length cap] 55 (0, 0)) ∧
      wr.ownsRow (P + 1) 120 3 (.slice ad ops.length cap) ops.length (popsCells ops) ∧ Below w.heap.size w wr)
    (fun i _ _ => ops.length - (intOf i).toNat)
  case atStart => exact ⟨0, Nat.zero_le _, rfl, rfl, h0, hE0, hx0, hb0⟩
  case round =>
    clear h0 hE0 hx0 hb0
    obtain ⟨k, hk, rfl, hT, hpr, hE, hx, hbe⟩ := hrel
    have HT := hide hT
    clear hT
    have cE := cell_of_block hE 0 (by simp)
    simp at cE
    have hsz := hbe.size
    have hElt := block_lt hE
    by_cases hlt : k < ops.length
    · obtain ⟨g, rfl, o0, o1, o2⟩ := own_three hx hlt
      have hlt' : (k : Int) < (ops.length : Int) := by omega
      have hbA := (Below.refl wr.heap.size wr).alloc (Nat.le_refl _) (.cells #[.int .i64 ops[k].code, .int .i64 ops[k].number, .string ops[k].name] 120)
      have hprA := hpr.later hbA
      have hEA := block_later hE hbA
      have hxA := own_later hx hbA
      have hbeA := hbe.trans (hbA.mono (B' := w.heap.size) hsz)
      have hLA := heap_alloc_new wr (.cells #[.int .i64 ops[k].code, .int .i64 ops[k].number, .string ops[k].name] 120)
      have HN := hide (all_no (unhide HT) hlt)
      have HY := hide (all_yes (unhide HT) hlt)
      have HF := hide (show Rt.opFit pls n ops[k] = (if ops[k].code = 2 then Rt.isVar pls n ops[k].name else if ops[k].code = 3 then Rt.isArr pls n ops[k].name else true) from rfl)
      clear hpr hE hx hbe
      generalize ops[k] = o at *
      by_cases h2 : o.code = 2
      · have h2' : (o.code == 2) = true := by simpa using h2
        have h3' : (o.code == 3) = false := by rw [h2]; rfl
        have HF2 := hide ((unhide HF).trans (if_pos h2))
        clear h2
        go_wp2_with fail
        refine (isVariable_any _ _ _ _ _ _ o.name hprA hlen hpar).mono ?_
        rintro e w2 ⟨rfl, hb2⟩
        have hL2 := block_later hLA hb2
        have c0 := cell_of_block hL2 0 (by simp)
        simp at c0
        cases hv : Rt.isVar pls n o.name with
        | true =>
          have HG := hide (And.intro (unhide HY ((unhide HF2).trans hv)) (And.intro (hprA.later hb2) (And.intro (block_later hEA hb2) (And.intro (own_later hxA hb2) (hbeA.trans (hb2.mono (B' := w.heap.size) (by have := hbA.size; omega)))))))
          clear hprA hEA hxA hbeA hLA hL2 hb2 hv
          go_wp2_with fail
          go_roundw
          case rel =>
            obtain ⟨q1, q2, q3, q4, q5⟩ := unhide HG
            exact ⟨k + 1, by omega, by go_num, q1, q2, q3, q4, q5⟩
          case measure => simp [intOf]; omega
        | false =>
          have HG := hide (And.intro (unhide HN ((unhide HF2).trans hv)) (hbeA.trans (hb2.mono (B' := w.heap.size) (by have := hbA.size; omega))))
          clear hprA hEA hxA hbeA hLA hL2 hb2 hv
          go_wp2_with fail
          go_ret
          exact ⟨by rw [(unhide HG).1]; rfl, (unhide HG).2⟩
      have h2' : (o.code == 2) = false := by simpa using h2
      by_cases h3 : o.code = 3
      · have h3' : (o.code == 3) = true := by simpa using h3
        have HF2 := hide ((unhide HF).trans ((if_neg h2).trans (if_pos h3)))
        clear h2 h3
        go_wp2_with fail
        refine (isArray_any _ _ _ _ _ _ o.name hprA hlen hpar).mono ?_
        rintro e w2 ⟨rfl, hb2⟩
        cases hv : Rt.isArr pls n o.name with
        | true =>
          have HG := hide (And.intro (unhide HY ((unhide HF2).trans hv)) (And.intro (hprA.later hb2) (And.intro (block_later hEA hb2) (And.intro (own_later hxA hb2) (hbeA.trans (hb2.mono (B' := w.heap.size) (by have := hbA.size; omega)))))))
          clear hprA hEA hxA hbeA hLA hb2 hv
          go_wp2_with fail
          go_roundw
          case rel =>
            obtain ⟨q1, q2, q3, q4, q5⟩ := unhide HG
            exact ⟨k + 1, by omega, by go_num, q1, q2, q3, q4, q5⟩
          case measure => simp [intOf]; omega
        | false =>
          have HG := hide (And.intro (unhide HN ((unhide HF2).trans hv)) (hbeA.trans (hb2.mono (B' := w.heap.size) (by have := hbA.size; omega))))
          clear hprA hEA hxA hbeA hLA hb2 hv
          go_wp2_with fail
          go_ret
          exact ⟨by rw [(unhide HG).1]; rfl, (unhide HG).2⟩
      · have h3' : (o.code == 3) = false := by simpa using h3
        have HF2 := hide ((unhide HF).trans ((if_neg h2).trans (if_neg h3)))
        clear h2 h3
        have HG := hide (And.intro (unhide HY (unhide HF2)) (And.intro hprA (And.intro hEA (And.intro hxA hbeA))))
        clear hprA hEA hxA hbeA hLA
        go_wp2_with fail
        go_roundw
        case rel =>
          obtain ⟨q1, q2, q3, q4, q5⟩ := unhide HG
          exact ⟨k + 1, by omega, by go_num, q1, q2, q3, q4, q5⟩
        case measure => simp [intOf]; omega
    · have HE := hide (all_end (unhide HT) hlt)
      have hlt' : ¬ (k : Int) < (ops.length : Int) := by omega
      have HB := hide hbe
      clear hpr hE hx hbe
      go_wp2_with fail
      go_ret
      exact ⟨by rw [unhide HE]; rfl, unhide HB⟩

end Go.Proofs.Ytnjhgcanglkfiaa

namespace Go.Proofs.Ytnjhgcanglkfiaa
open Go.RowKit
attribute [local go_sem ↓] Go.wp_at_zero Go.wp_at_succ


theorem ExprsR.get {w : World} {B : Nat} : ∀ (vs : List Value) (os : List (List Pop)) (i : Nat) (h : i < os.length), ExprsR w B vs os → ∃ x, vs[i]? = some x ∧ w.ownsRow B 120 3 x os[i].length (popsCells os[i])
  | x :: _, o :: _, 0, _, ⟨h1, _⟩ => ⟨x, rfl, h1⟩
  | _ :: xs, _ :: os, i + 1, h, ⟨_, h2⟩ => by
    obtain ⟨y, hy, hr⟩ := ExprsR.get xs os i (by simpa using h) h2
    exact ⟨y, by simpa using hy, hr⟩
  | [], _ :: _, _, _, h => h.elim
  | _, [], _, h, _ => by simp at h

theorem vall_end {os : List (List Pop)} {f : List Pop → Bool} {k : Nat} {b : Bool} (h : (os.drop k).all f = b) (hk : ¬ k < os.length) : b = true := by
  rw [List.drop_eq_nil_of_le (by omega)] at h
  exact h.symm
theorem vall_no {os : List (List Pop)} {f : List Pop → Bool} {k : Nat} {b : Bool} (h : (os.drop k).all f = b) (hk : k < os.length) (hd : f os[k] = false) : b = false := by
  rw [List.drop_eq_getElem_cons hk, List.all_cons, hd] at h
  exact h.symm
theorem vall_yes {os : List (List Pop)} {f : List Pop → Bool} {k : Nat} {b : Bool} (h : (os.drop k).all f = b) (hk : k < os.length) (hd : f os[k] = true) : (os.drop (k + 1)).all f = b := by
  rw [List.drop_eq_getElem_cons hk, List.all_cons, hd] at h
  exact h

set_option maxHeartbeats 2000000 in
set_option maxRecDepth 100000 in
theorem expressionsFit_any (w : World) (P : Nat) (pls : List Rt.PL) (lv : Value) (cs : List (List Value)) (pl : Rt.PL) (a0 a1 a2 a3 : Option Addr) (c0 c1 c2 c3 : Nat) (xe xf : Int) (h : ProgS w P pls lv cs) (hlen : pls.length ≤ 101) (hpar : (Rt.formAt pls pl.proc).params.length ≤ 1000) (hsm : Rt.Small pl.form)
    (hf : FormV w (P + 1) #[.int .i64 pl.form.kind, .string pl.form.name, .int .i64 pl.form.cells, .slice a1 pl.form.params.length c1, .slice a2 pl.form.index.length c2, .slice a3 pl.form.values.length c3] pl.form) :
    Calls Try.prog 57 #[.pointer (some ⟨P, 0, none⟩), .agg #[.slice a0 pl.toks.length c0, .int .i64 pl.form.kind, .string pl.form.name, .int .i64 pl.form.cells, .slice a1 pl.form.params.length c1, .slice a2 pl.form.index.length c2, .slice a3 pl.form.values.length c3, .int .i64 pl.depth, .int .i64 pl.opener, .int .i64 xe, .int .i64 xf, .int .i64 pl.proc]] w fun e w' =>
      e = .returned (.bool (Rt.exsFit pls pl)) ∧ Below w.heap.size w w' := by
  have hb0 := (Below.refl w.heap.size w).alloc (Nat.le_refl _) (.cells #[.slice a0 pl.toks.length c0, .int .i64 pl.form.kind, .string pl.form.name, .int .i64 pl.form.cells, .slice a1 pl.form.params.length c1, .slice a2 pl.form.index.length c2, .slice a3 pl.form.values.length c3, .int .i64 pl.depth, .int .i64 pl.opener, .int .i64 xe, .int .i64 xf, .int .i64 pl.proc] 60)
  have hL0 := heap_alloc_new w (.cells #[.slice a0 pl.toks.length c0, .int .i64 pl.form.kind, .string pl.form.name, .int .i64 pl.form.cells, .slice a1 pl.form.params.length c1, .slice a2 pl.form.index.length c2, .slice a3 pl.form.values.length c3, .int .i64 pl.depth, .int .i64 pl.opener, .int .i64 xe, .int .i64 xf, .int .i64 pl.proc] 60)
  have h0 := h.later hb0
  have hf0 := (keeps_later (B := P + 1) hb0).form hf
  obtain ⟨pv, iv, vv, vs, hfv, b1, b2, b3, b4⟩ := hf0
  simp at hfv
  obtain ⟨rfl, rfl, rfl⟩ := hfv
  clear h hf
  go_enter Try.func57, Try.ntmps57
  go_wp2_with fail
  refine (expressionFits_any _ _ _ _ _ pl.proc a2 c2 pl.form.index h0 hlen hpar b2 hsm.index).mono ?_
  rintro e w1 ⟨rfl, hb1⟩
  cases hv : Rt.exFit pls pl.proc pl.form.index with
  | false =>
    have HE := hide (show Rt.exsFit pls pl = false by simp [Rt.exsFit, hv])
    have HB := hide (hb0.trans (hb1.mono (B' := w.heap.size) (by simp)))
    clear h0 hL0 hb0 hb1 b1 b2 b3 b4 hv
    go_wp2_with fail
    go_ret
    exact ⟨by rw [unhide HE]; rfl, unhide HB⟩
  | true =>
    have hI : pl.form.values.all (Rt.exFit pls pl.proc) = Rt.exsFit pls pl := by simp [Rt.exsFit, hv]
    have h1 := h0.later hb1
    have hL1 := block_later hL0 hb1
    have b31 := own_later b3 hb1
    have b41 := (keeps_later (B := P + 1) hb1).exprs _ _ b4
    have hbe1 := hb0.trans (hb1.mono (B' := w.heap.size) (by simp))
    clear h0 hL0 hb0 hb1 b1 b2 b3 b4 hv
    go_wp2_with fail
    go_loopw [5] (fun i wr => ∃ k : Nat, k ≤ pl.form.values.length ∧ i = .int .i64 k ∧ (pl.form.values.drop k).all (Rt.exFit pls pl.proc) = Rt.exsFit pls pl ∧ ProgS wr P pls lv cs ∧
        wr.heap[w.heap.size]? = some (.cells #[.slice a0 pl.toks.length c0, .int .i64 pl.form.kind, .string pl.form.name, .int .i64 pl.form.cells, .slice a1 pl.form.params.length c1, .slice a2 pl.form.index.length c2, .slice a3 pl.form.values.length c3, .int .i64 pl.depth, .int .i64 pl.opener, .int .i64 xe, .int .i64 xf, .int .i64 pl.proc] 60 (0, 0)) ∧
        wr.ownsRow (P + 1) 55 1 (.slice a3 pl.form.values.length c3) pl.form.values.length vs ∧ ExprsR wr (P + 1) vs pl.form.values ∧ Below w.heap.size w wr)
      (fun i _ => pl.form.values.length - (intOf i).toNat)
    case atStart => exact ⟨0, Nat.zero_le _, rfl, hI, h1, hL1, b31, b41, hbe1⟩
    case round =>
      clear h1 hL1 b31 b41 hbe1 hI
      obtain ⟨k, hk, rfl, hT, hpr, hL, hvv, hvs, hbe⟩ := hrel
      have HT := hide hT
      clear hT
      have hsz := hbe.size
      obtain ⟨l0, l1, l2, l3, l4, l5, l6, l7, l8, l9, l10, l11⟩ := ten_block hL
      have hval := hsm.values
      by_cases hlt : k < pl.form.values.length
      · have hlt' : (k : Int) < (pl.form.values.length : Int) := by omega
        have hk0 : (0 : Int) ≤ (k : Int) := by omega
        obtain ⟨xv, hx1, hx2⟩ := ExprsR.get _ _ k hlt hvs
        obtain ⟨adx, capx, rfl⟩ := ownsRow_form hx2
        obtain ⟨g, cap', hg, _, hglt, cx⟩ := own_cell hvv hx1
        simp at hg
        obtain ⟨rfl, rfl⟩ := hg
        have hLlt := block_lt hL
        have hob : pl.form.values[k].length ≤ 1000 := hsm.each _ (List.getElem_mem hlt)
        have HN := hide (vall_no (unhide HT) hlt)
        have HY := hide (vall_yes (unhide HT) hlt)
        have HX := hide (And.intro hpr (And.intro hL (And.intro hvv (And.intro hvs (And.intro hbe hx2)))))
        clear hpr hL hvv hvs hbe hx2 hx1
        generalize pl.form.values[k] = ov at *
        go_wp2_with fail
        go_region_with
          ((go_at_call 73; refine (expressionFits_any _ _ _ _ _ pl.proc adx capx ov (by exact (unhide HX).1.later (below_to_drew _)) hlen hpar (by exact own_later (unhide HX).2.2.2.2.2 (below_to_drew _)) hob).mono ?_; rintro e w2 ⟨rfl, hb2⟩))
        all_goals
          obtain ⟨q1, q2, q3, q4, q5, _⟩ := unhide HX
          have hb2' := below_of_drew hb2
          cases hv : Rt.exFit pls pl.proc ov with
          | true =>
            have HG := hide (And.intro (unhide HY hv) (And.intro (q1.later hb2') (And.intro (block_later q2 hb2') (And.intro (own_later q3 hb2') (And.intro ((keeps_later (B := P + 1) hb2').exprs _ _ q4) (q5.trans (hb2'.mono (B' := w.heap.size) hsz)))))))
            clear q1 q2 q3 q4 q5 hb2 hb2' hv HX
            go_wp2_with fail
            go_roundw
            case rel =>
              obtain ⟨r1, r2, r3, r4, r5, r6⟩ := unhide HG
              exact ⟨k + 1, by omega, by go_num, r1, r2, r3, r4, r5, r6⟩
            case measure => simp [intOf]; omega
          | false =>
            have HG := hide (And.intro (unhide HN hv) (q5.trans (hb2'.mono (B' := w.heap.size) hsz)))
            clear q1 q2 q3 q4 q5 hb2 hb2' hv HX
            go_wp2_with fail
            go_ret
            exact ⟨by rw [(unhide HG).1]; rfl, (unhide HG).2⟩
      · have HE := hide (vall_end (unhide HT) hlt)
        have hlt' : ¬ (k : Int) < (pl.form.values.length : Int) := by omega
        have HB := hide hbe
        clear hpr hL hvv hvs hbe
        go_wp2_with fail
        go_ret
        exact ⟨by rw [unhide HE]; rfl, unhide HB⟩

end Go.Proofs.Ytnjhgcanglkfiaa

