/- The machine: the stack of values, the signs. -/
import Derived.Test.YthleadfkfnnadaaGreatRtMach
import Derived.Test.YthleadfkfnnadaaGreatRowA
namespace Go.Proofs.YthleadfkfnnadaaGreat
open Go.RowKit
structure ProgM (w : World) (P B : Nat) (pls : List Rt.PL) (lk : Rt.Lks) (lv : Value) (cs : List (List Value)) : Prop where
  lt : P < w.heap.size
  cell : w.cell? ⟨P, 0, none⟩ = some lv
  own : w.ownsRow B 145 12 lv pls.length cs.flatten
  lines : LinesV w B pls cs
  links : LkW w lv lk
  len : lk.length = pls.length
theorem ProgM.later {w w' : World} {P B : Nat} {pls : List Rt.PL} {lk : Rt.Lks} {lv : Value} {cs : List (List Value)} (h : ProgM w P B pls lk lv cs) (hb : Below w.heap.size w w') : ProgM w' P B pls lk lv cs :=
  ⟨Nat.lt_of_lt_of_le h.lt hb.size, cell_later hb h.cell, own_later h.own hb, (keeps_later hb).lines _ _ h.lines, h.links.later h.own hb, h.len⟩
theorem ProgM.get {w : World} {P B : Nat} {acc : List Rt.PL} {p : Rt.PL} {r : List Rt.PL} {lk : Rt.Lks} {lv : Value} {cs : List (List Value)} (h : ProgM w P B (acc ++ p :: r) lk lv cs) :
    ∃ g cap a0 a1 a2 a3 c0 c1 c2 c3 xe xf, lv = .slice (some ⟨g, 0, none⟩) (acc ++ p :: r).length cap ∧ g < w.heap.size ∧
      Ten w g (acc.length * 12) (.slice a0 p.toks.length c0) (.int .i64 p.form.kind) (.string p.form.name) (.int .i64 p.form.cells) (.slice a1 p.form.params.length c1) (.slice a2 p.form.index.length c2) (.slice a3 p.form.values.length c3) (.int .i64 p.depth) (.int .i64 p.opener) (.int .i64 xe) (.int .i64 xf) (.int .i64 p.proc) ∧ TenF w g (acc.length * 12) ∧
      w.ownsRow B 188 2 (.slice a0 p.toks.length c0) p.toks.length (Rt.toksCells p.toks) ∧
      FormV w B #[.int .i64 p.form.kind, .string p.form.name, .int .i64 p.form.cells, .slice a1 p.form.params.length c1, .slice a2 p.form.index.length c2, .slice a3 p.form.values.length c3] p.form := by
  obtain ⟨c1, c, c2, hcs, hl, _, hc, _⟩ := h.lines.part
  obtain ⟨tv, fv, xe, xf, hcc, ht, hf⟩ := hc
  have hf2 := hf
  obtain ⟨pv, iv, vv, vs, hfv, b1, b2, b3, _⟩ := hf
  obtain ⟨a0, k0, rfl⟩ := ownsRow_form ht
  obtain ⟨a1, k1, rfl⟩ := ownsRow_form b1
  obtain ⟨a2, k2, rfl⟩ := ownsRow_form b2
  obtain ⟨a3, k3, rfl⟩ := ownsRow_form b3
  subst hfv
  have hget : ∀ j u, c[j]? = some u → cs.flatten[acc.length * 12 + j]? = some u := by
    intro j u hj
    rw [hcs, List.flatten_append, List.getElem?_append_right (by omega), hl, Nat.add_sub_cancel_left, List.flatten_cons, List.getElem?_append_left (List.getElem?_eq_some_iff.1 hj).1]
    exact hj
  have hown := h.own
  obtain ⟨g, cap, hlv, hg, hglt, _⟩ := own_cell hown (hget 0 _ (by rw [hcc]; rfl))
  have hcell : ∀ j u, c[j]? = some u → w.cell? ⟨g, acc.length * 12 + j, none⟩ = some u := by
    intro j u hj
    obtain ⟨g', cap', hlv', _, _, hc'⟩ := own_cell hown (hget j u hj)
    rw [hlv] at hlv'
    simp at hlv'
    rw [hlv'.1]
    exact hc'
  have hfz : ∀ j, w.frozen? ⟨g, j, none⟩ = false := by
    intro j
    rw [hlv] at hown
    exact hown.frozenAt j
  refine ⟨g, cap, a0, a1, a2, a3, k0, k1, k2, k3, xe, xf, hlv, hglt, ⟨?_, ?_, ?_, ?_, ?_, ?_, ?_, ?_, ?_, ?_, ?_, ?_⟩, ⟨hfz _, hfz _, hfz _, hfz _, hfz _, hfz _, hfz _, hfz _, hfz _, hfz _, hfz _, hfz _⟩, ht, hf2⟩
  · exact hcell 0 _ (by rw [hcc]; rfl)
  · exact hcell 1 _ (by rw [hcc]; rfl)
  · exact hcell 2 _ (by rw [hcc]; rfl)
  · exact hcell 3 _ (by rw [hcc]; rfl)
  · exact hcell 4 _ (by rw [hcc]; rfl)
  · exact hcell 5 _ (by rw [hcc]; rfl)
  · exact hcell 6 _ (by rw [hcc]; rfl)
  · exact hcell 7 _ (by rw [hcc]; rfl)
  · exact hcell 8 _ (by rw [hcc]; rfl)
  · exact hcell 9 _ (by rw [hcc]; rfl)
  · exact hcell 10 _ (by rw [hcc]; rfl)
  · exact hcell 11 _ (by rw [hcc]; rfl)
theorem ProgM.at {w : World} {P B : Nat} {pls : List Rt.PL} {lk : Rt.Lks} {lv : Value} {cs : List (List Value)} (h : ProgM w P B pls lk lv cs) {i : Nat} (hi : i < pls.length) :
    ∃ g cap a0 a1 a2 a3 c0 c1 c2 c3 xe xf, lv = .slice (some ⟨g, 0, none⟩) pls.length cap ∧ g < w.heap.size ∧
      Ten w g (i * 12) (.slice a0 pls[i].toks.length c0) (.int .i64 pls[i].form.kind) (.string pls[i].form.name) (.int .i64 pls[i].form.cells) (.slice a1 pls[i].form.params.length c1) (.slice a2 pls[i].form.index.length c2) (.slice a3 pls[i].form.values.length c3) (.int .i64 pls[i].depth) (.int .i64 pls[i].opener) (.int .i64 xe) (.int .i64 xf) (.int .i64 pls[i].proc) ∧
      w.ownsRow B 188 2 (.slice a0 pls[i].toks.length c0) pls[i].toks.length (Rt.toksCells pls[i].toks) ∧
      FormV w B #[.int .i64 pls[i].form.kind, .string pls[i].form.name, .int .i64 pls[i].form.cells, .slice a1 pls[i].form.params.length c1, .slice a2 pls[i].form.index.length c2, .slice a3 pls[i].form.values.length c3] pls[i].form := by
  have hs := split_at hi
  have hl : (pls.take i).length = i := by simp; omega
  have h2 := h
  rw [hs] at h2
  obtain ⟨g, cap, a0, a1, a2, a3, c0, c1, c2, c3, xe, xf, hlv, h4, h5, _, h6, h7⟩ := h2.get
  rw [← hs] at hlv
  rw [hl] at h5
  exact ⟨g, cap, a0, a1, a2, a3, c0, c1, c2, c3, xe, xf, hlv, h4, h5, h6, h7⟩
theorem ProgM.lvForm {w : World} {P B : Nat} {pls : List Rt.PL} {lk : Rt.Lks} {lv : Value} {cs : List (List Value)} (h : ProgM w P B pls lk lv cs) : ∃ ad cap, lv = .slice ad pls.length cap ∧ w.cell? ⟨P, 0, none⟩ = some (.slice ad pls.length cap) := by
  obtain ⟨ad, cap, rfl⟩ := ownsRow_form h.own
  exact ⟨ad, cap, rfl, h.cell⟩
def PLineM (B : Nat) (pl : Rt.PL) (x : Int × Int) (w : World) (e : Ending) (w' : World) : Prop := ∃ a0 a1 a2 a3 c0 c1 c2 c3, e = .returned (.agg #[.slice a0 pl.toks.length c0, .int .i64 pl.form.kind, .string pl.form.name, .int .i64 pl.form.cells, .slice a1 pl.form.params.length c1, .slice a2 pl.form.index.length c2, .slice a3 pl.form.values.length c3, .int .i64 pl.depth, .int .i64 pl.opener, .int .i64 x.1, .int .i64 x.2, .int .i64 pl.proc]) ∧ w'.ownsRow B 188 2 (.slice a0 pl.toks.length c0) pl.toks.length (Rt.toksCells pl.toks) ∧ FormV w' B #[.int .i64 pl.form.kind, .string pl.form.name, .int .i64 pl.form.cells, .slice a1 pl.form.params.length c1, .slice a2 pl.form.index.length c2, .slice a3 pl.form.values.length c3] pl.form ∧ Below w.heap.size w w'
theorem linem_zero {B : Nat} {w w' : World} (hb : Below w.heap.size w w') : PLineM B Rt.zPL (0, 0) w (.returned (.agg #[.slice none 0 0, .int .i64 0, .string ⟨#[]⟩, .int .i64 0, .slice none 0 0, .slice none 0 0, .slice none 0 0, .int .i64 0, .int .i64 0, .int .i64 0, .int .i64 0, .int .i64 0])) w' :=
  ⟨none, none, none, none, 0, 0, 0, 0, rfl, World.ownsRow_nil _ _ _ _, FormV_plain _ _ _ _ _, hb⟩
theorem lkAt_out {lk : Rt.Lks} {n : Int} (h : n < 0 ∨ (lk.length : Int) ≤ n) : Rt.lkAt lk n = (0, 0) := by
  unfold Rt.lkAt
  split
  · rfl
  · rw [List.getElem?_eq_none (by omega)]
    rfl
set_option maxHeartbeats 1000000 in
set_option maxRecDepth 100000 in
theorem Line_m (w : World) (P B : Nat) (pls : List Rt.PL) (lk : Rt.Lks) (lv : Value) (cs : List (List Value)) (n : Int) (h : ProgM w P B pls lk lv cs) :
    Calls Tryz.prog 90 #[.pointer (some ⟨P, 0, none⟩), .int .i64 n] w (PLineM B (Rt.lineAtP pls n) (Rt.lkAt lk n) w) := by
  obtain ⟨ad, cap, hlv, cP⟩ := h.lvForm
  have hPlt := h.lt
  have HL2 := hide (And.intro h.links h.len)
  by_cases h0 : n < 0
  · have HE := hide (Rt.lineAtP_out (pls := pls) (Or.inl h0))
    have HX := hide (lkAt_out (lk := lk) (Or.inl h0))
    clear h
    go_enter Tryz.func90, Tryz.ntmps90
    go_wp2_with fail
    refine bodyPost_ret (v := .agg #[.slice none 0 0, .int .i64 0, .string ⟨#[]⟩, .int .i64 0, .slice none 0 0, .slice none 0 0, .slice none 0 0, .int .i64 0, .int .i64 0, .int .i64 0, .int .i64 0, .int .i64 0]) ?_ rfl (by rw [unhide HE, unhide HX]; exact linem_zero ((Below.refl _ _).alloc (Nat.le_refl _) _))
    simp [results, Tryz.results90, go_sem]
  by_cases h1 : (pls.length : Int) ≤ n
  · have HE := hide (Rt.lineAtP_out (pls := pls) (Or.inr h1))
    have HX := hide (lkAt_out (lk := lk) (Or.inr (by rw [(unhide HL2).2]; exact h1)))
    clear h
    go_enter Tryz.func90, Tryz.ntmps90
    go_wp2_with fail
    refine bodyPost_ret (v := .agg #[.slice none 0 0, .int .i64 0, .string ⟨#[]⟩, .int .i64 0, .slice none 0 0, .slice none 0 0, .slice none 0 0, .int .i64 0, .int .i64 0, .int .i64 0, .int .i64 0, .int .i64 0]) ?_ rfl (by rw [unhide HE, unhide HX]; exact linem_zero ((Below.refl _ _).alloc (Nat.le_refl _) _))
    simp [results, Tryz.results90, go_sem]
  obtain ⟨k, rfl⟩ := Int.eq_ofNat_of_zero_le (show 0 ≤ n by omega)
  have hlt : k < pls.length := by omega
  obtain ⟨g, cap', a0, a1, a2, a3, e0, e1, e2, e3, xe, xf, hlv', hglt, ⟨d0, d1, d2, d3, d4, d5, d6, d7, d8, d9, d10, d11⟩, htk, hfv⟩ := h.at hlt
  have hlv2 := hlv.symm.trans hlv'
  simp at hlv2
  obtain ⟨rfl, rfl⟩ := hlv2
  have HE := hide (Rt.lineAtP_in hlt)
  have hlk : k < lk.length := by rw [h.len]; exact hlt
  obtain ⟨k9, k10⟩ := h.links g _ cap hlv' k lk[k] (List.getElem?_eq_getElem hlk)
  rw [d9] at k9
  rw [d10] at k10
  injection k9 with k9
  injection k9 with _ k9
  injection k10 with k10
  injection k10 with _ k10
  have HX : Hid (Rt.lkAt lk (k : Int) = (xe, xf)) := by
    refine hide ?_
    unfold Rt.lkAt
    rw [if_neg (by omega)]
    simp only [Int.toNat_natCast]
    rw [List.getElem?_eq_getElem hlk, k9, k10]
    rfl
  have HF := hide (And.intro htk hfv)
  clear k9 k10
  clear h hfv htk hlv hlv'
  generalize pls[k] = pl at *
  go_enter Tryz.func90, Tryz.ntmps90
  go_wp2_with fail
  refine bodyPost_ret (v := .agg #[.slice a0 pl.toks.length e0, .int .i64 pl.form.kind, .string pl.form.name, .int .i64 pl.form.cells, .slice a1 pl.form.params.length e1, .slice a2 pl.form.index.length e2, .slice a3 pl.form.values.length e3, .int .i64 pl.depth, .int .i64 pl.opener, .int .i64 xe, .int .i64 xf, .int .i64 pl.proc]) ?_ rfl (by rw [unhide HE, unhide HX]; exact ⟨a0, a1, a2, a3, e0, e1, e2, e3, rfl, own_later (unhide HF).1 ((Below.refl _ _).alloc (Nat.le_refl _) _), (keeps_later (B := B) ((Below.refl _ _).alloc (Nat.le_refl _) _)).form (unhide HF).2, (Below.refl _ _).alloc (Nat.le_refl _) _⟩)
  simp [results, Tryz.results90, go_sem]
set_option maxHeartbeats 1000000 in
theorem declaration_m (w : World) (P B : Nat) (pls : List Rt.PL) (lk : Rt.Lks) (lv : Value) (cs : List (List Value)) (x : ByteArray) (h : ProgM w P B pls lk lv cs) (hlen : pls.length ≤ 101) :
    Calls Tryz.prog 143 #[.pointer (some ⟨P, 0, none⟩), .string x] w fun e w' => e = .returned (.int .i64 (Rt.declP pls x)) ∧ w' = w := by
  obtain ⟨ad, cap, hlv, cP⟩ := h.lvForm
  have HH := hide h
  have HLV := hide hlv
  clear h hlv
  go_enter Tryz.func143, Tryz.ntmps143
  go_wp2
  go_loop [5] (fun i => ∃ k : Nat, 1 ≤ k ∧ k ≤ pls.length + 1 ∧ i = .int .i64 k ∧ Rt.declFrom k (pls.drop k) x = Rt.declP pls x) (fun i => pls.length + 1 - (intOf i).toNat)
  case atStart => exact ⟨1, Nat.le_refl _, by omega, rfl, rfl⟩
  case round =>
    obtain ⟨k, hk1, hk, rfl, hT⟩ := hrel
    have HT := hide hT
    clear hT
    by_cases hlt : k < pls.length
    · obtain ⟨g, cap', a0, a1, a2, a3, e0, e1, e2, e3, xe, xf, hlv, _, ⟨_, d1, d2, _⟩, _, _⟩ := (unhide HH).at hlt
      have hlv2 := (unhide HLV).symm.trans hlv
      simp at hlv2
      obtain ⟨rfl, rfl⟩ := hlv2
      have hlt' : (k : Int) < (pls.length : Int) := by omega
      cases hd : Rt.isDecl pls[k] x with
      | true =>
        have HE := hide (declFrom_hit (unhide HT) hlt hd)
        unfold Rt.isDecl at hd
        simp only [Bool.and_eq_true, Bool.or_eq_true, decide_eq_true_eq] at hd
        obtain ⟨hk3, hnm⟩ := hd
        have hnm' := Rt.str_same hnm
        clear hnm hlv
        generalize pls[k].form.name = nm at *
        generalize pls[k].form.kind = kx at *
        rcases hk3 with (hk3 | hk3) | hk3
        all_goals
          subst hk3
          go_wp2
          go_ret
          exact ⟨by rw [unhide HE]; rfl, rfl⟩
      | false =>
        have HE := hide (declFrom_miss (unhide HT) hlt hd)
        unfold Rt.isDecl at hd
        clear hlv
        generalize pls[k].form.name = nm at *
        generalize pls[k].form.kind = kx at *
        by_cases hnm : nm = x
        · have hk3 : ¬ kx = 1 ∧ ¬ kx = 2 ∧ ¬ kx = 3 := by simpa [hnm, and_assoc] using hd
          have k1 : (kx == 1) = false := by simpa using hk3.1
          have k2 : (kx == 2) = false := by simpa using hk3.2.1
          have k3 : (kx == 3) = false := by simpa using hk3.2.2
          clear hk3 hd hnm
          go_wp2
          go_round
          case rel => exact ⟨k + 1, by omega, by omega, by go_num, unhide HE⟩
          case measure => simp [intOf]; omega
        · have hnm' := Rt.str_ne hnm
          clear hd hnm
          go_wp2
          all_goals
            go_round
            case rel => exact ⟨k + 1, by omega, by omega, by go_num, unhide HE⟩
            case measure => simp [intOf]; omega
    · have HE := hide (declFrom_end (unhide HT) hlt)
      have hlt' : ¬ (k : Int) < (pls.length : Int) := by omega
      go_wp2
      go_ret
      exact ⟨by rw [unhide HE]; simp, rfl⟩
set_option maxHeartbeats 2000000 in
set_option maxRecDepth 100000 in
theorem isStop_m (w : World) (P B : Nat) (pls : List Rt.PL) (lk : Rt.Lks) (lv : Value) (cs : List (List Value)) (n : Int) (h : ProgM w P B pls lk lv cs) :
    Calls Tryz.prog 85 #[.pointer (some ⟨P, 0, none⟩), .int .i64 n] w fun e w' => e = .returned (.bool (Rt.isStopP pls (Rt.lineAtP pls n))) ∧ Below w.heap.size w w' := by
  go_enter Tryz.func85, Tryz.ntmps85
  go_wp2_with fail
  refine (Line_m _ _ _ _ _ _ _ n h).mono ?_
  rintro e w1 ⟨a0, a1, a2, a3, c0, c1, c2, c3, rfl, _, _, hb1⟩
  generalize (Rt.lkAt lk n).1 = xe at *
  generalize (Rt.lkAt lk n).2 = xf at *
  generalize HPL : Rt.lineAtP pls n = pl at *
  replace HPL := hide HPL
  have hb0 := hb1.alloc hb1.size (.cells #[.slice a0 pl.toks.length c0, .int .i64 pl.form.kind, .string pl.form.name, .int .i64 pl.form.cells, .slice a1 pl.form.params.length c1, .slice a2 pl.form.index.length c2, .slice a3 pl.form.values.length c3, .int .i64 pl.depth, .int .i64 pl.opener, .int .i64 xe, .int .i64 xf, .int .i64 pl.proc] 145)
  have h0 := h.later hb0
  have hsz0 := hb0.size
  clear h hb1
  cases hs : Rt.stopKind pl.form.kind with
  | true =>
    have HE := hide (show Rt.isStopP pls pl = true by simp [Rt.isStopP, hs])
    have HB := hide hb0
    have hs' : pl.form.kind = 8 ∨ pl.form.kind = 9 ∨ pl.form.kind = 10 ∨ pl.form.kind = 11 ∨ pl.form.kind = 5 ∨ pl.form.kind = 7 ∨ pl.form.kind = 12 ∨ pl.form.kind = 13 := by
      simp [Rt.stopKind] at hs
      omega
    clear hs h0 hb0 hsz0
    generalize pl.form.kind = kx at *
    rcases hs' with rfl | rfl | rfl | rfl | rfl | rfl | rfl | rfl
    all_goals
      go_wp2_with fail
      go_ret
      exact ⟨by rw [unhide HPL, unhide HE] <;> rfl, unhide HB⟩
  | false =>
    have hs' : ¬ pl.form.kind = 8 ∧ ¬ pl.form.kind = 9 ∧ ¬ pl.form.kind = 10 ∧ ¬ pl.form.kind = 11 ∧ ¬ pl.form.kind = 5 ∧ ¬ pl.form.kind = 7 ∧ ¬ pl.form.kind = 12 ∧ ¬ pl.form.kind = 13 := by
      simp [Rt.stopKind] at hs
      omega
    obtain ⟨n8, n9, n10, n11, n5, n7, n12, n13⟩ := hs'
    have b8 : (pl.form.kind == 8) = false := by simpa using n8
    have b9 : (pl.form.kind == 9) = false := by simpa using n9
    have b10 : (pl.form.kind == 10) = false := by simpa using n10
    have b11 : (pl.form.kind == 11) = false := by simpa using n11
    have b5 : (pl.form.kind == 5) = false := by simpa using n5
    have b7 : (pl.form.kind == 7) = false := by simpa using n7
    have b12 : (pl.form.kind == 12) = false := by simpa using n12
    have b13 : (pl.form.kind == 13) = false := by simpa using n13
    clear n8 n9 n10 n11 n5 n7 n12 n13
    by_cases n4 : pl.form.kind = 4
    · have b4 : (pl.form.kind == 4) = true := by simpa using n4
      have HE := hide (show Rt.isStopP pls pl = decide ((Rt.formAt pls pl.opener).kind = 3) by unfold Rt.isStopP; rw [if_neg (by rw [hs]; simp), if_pos n4])
      clear hs n4
      go_wp2_with fail
      refine (Line_m _ _ _ _ _ _ _ pl.opener h0).mono ?_
      rintro e w2 ⟨ad0, ad1, ad2, ad3, cap0, cap1, cap2, cap3, rfl, _, _, hb2⟩
      rw [Rt.lineAtP_form]
      generalize (Rt.lkAt lk pl.opener).1 = ye at *
      generalize (Rt.lkAt lk pl.opener).2 = yf at *
      generalize (Rt.lineAtP pls pl.opener).depth = dp at *
      generalize (Rt.lineAtP pls pl.opener).opener = opn at *
      generalize (Rt.lineAtP pls pl.opener).proc = pr at *
      generalize (Rt.lineAtP pls pl.opener).toks.length = tl at *
      have HB := hide (hb0.trans (hb2.mono (B' := w.heap.size) hsz0))
      clear h0 hb0 hb2
      generalize (Rt.formAt pls pl.opener) = fo at *
      have hf1 := Tryz.fieldL1 ad0 tl cap0 fo.kind fo.name fo.cells ad1 fo.params.length cap1 ad2 fo.index.length cap2 ad3 fo.values.length cap3 dp opn ye yf pr
      have hfl := Tryz.fieldF0 fo.kind (.string fo.name) (.int .i64 fo.cells) (.slice ad1 fo.params.length cap1) (.slice ad2 fo.index.length cap2) (.slice ad3 fo.values.length cap3)
      go_wp2_with fail
      go_ret
      exact ⟨by rw [unhide HPL, unhide HE]; exact ret_bool (by rw [beq_eq_decide]), unhide HB⟩
    · have b4 : (pl.form.kind == 4) = false := by simpa using n4
      have HE := hide (show Rt.isStopP pls pl = false by unfold Rt.isStopP; rw [if_neg (by rw [hs]; simp), if_neg n4])
      have HB := hide hb0
      clear hs n4 h0 hb0 hsz0
      go_wp2_with fail
      go_ret
      exact ⟨by rw [unhide HPL, unhide HE] <;> rfl, unhide HB⟩
end Go.Proofs.YthleadfkfnnadaaGreat
namespace Go.Proofs.YthleadfkfnnadaaGreat
open Go.RowKit
attribute [local go_sem ↓] Go.wp_at_zero Go.wp_at_succ
def intsV (l : List Int) : List Value := l.map (Value.int .i64)
structure McX where
  lv : Value
  iv : Value
  fv : Value
  vv : Value
  ov : Value
  fps : List Value
  vps : List Value
  cs : List (List Value)
def iRow (v : Value) (l : List Int) : Rw := ⟨3, 1, v, l.length, intsV l⟩
def fCells : List Value → List Rt.Fm → List Value
  | v :: vs, f :: fs => v :: .int .i64 f.call :: fCells vs fs
  | _, _ => []
def rowsOf (inp : List Int) (X : McX) (m : Rt.Mc) : List Rw :=
  [iRow X.iv inp, ⟨153, 2, X.fv, m.frames.length, fCells X.fps m.frames⟩, ⟨24, 1, X.vv, m.values.length, X.vps⟩, iRow X.ov m.output] ++ (List.zipWith iRow X.fps (m.frames.map Rt.Fm.params) ++ List.zipWith iRow X.vps m.values)
def TyOk (t : TypeId) : Prop := t ≠ 3 ∧ t ≠ 153 ∧ t ≠ 24 ∧ t ≠ 145 ∧ t ≠ 188 ∧ t ≠ 9 ∧ t ≠ 236 ∧ t ≠ 140
structure McS (w : World) (M B : Nat) (ty : TypeId) (tail : List Value) (S : Rt.Src) (m : Rt.Mc) (X : McX) : Prop where
  block : w.heap[M]? = some (.cells ([X.lv, X.iv, X.fv, X.vv, .int .i64 m.taken, X.ov, .int .i64 m.line, .int .i64 m.fin] ++ tail).toArray ty (0, 0))
  prog : ProgM w M B S.pls S.lk X.lv X.cs
  own : Own w (rowsOf S.input X m)
  fl : X.fps.length = m.frames.length
  vl : X.vps.length = m.values.length
  ty : TyOk ty
structure Mok (S : Rt.Src) (m : Rt.Mc) : Prop where
  pls : S.pls.length ≤ 101
  input : S.input.length ≤ 100
  frames : m.frames.length ≤ 1000
  values : m.values.length ≤ 101
  output : m.output.length ≤ 1000
  params : ∀ f ∈ m.frames, f.params.length ≤ 1000
  cells : ∀ l ∈ m.values, l.length ≤ 1000
  forms : ∀ p ∈ S.pls, Rt.Small p.form
theorem McS.later {w w' : World} {M B : Nat} {ty : TypeId} {tail : List Value} {S : Rt.Src} {m : Rt.Mc} {X : McX} (h : McS w M B ty tail S m X) (hb : Below w.heap.size w w') : McS w' M B ty tail S m X :=
  ⟨block_later h.block hb, h.prog.later hb, h.own.later hb, h.fl, h.vl, h.ty⟩
section
variable {w : World} {M B : Nat} {ty : TypeId} {tail : List Value} {S : Rt.Src} {m : Rt.Mc} {X : McX} (h : McS w M B ty tail S m X)
include h
theorem McS.c2 : w.cell? ⟨M, 2, none⟩ = some X.fv := by have := cell_of_block h.block 2 (by simp); simpa using this
theorem McS.c3 : w.cell? ⟨M, 3, none⟩ = some X.vv := by have := cell_of_block h.block 3 (by simp); simpa using this
theorem McS.c6 : w.cell? ⟨M, 6, none⟩ = some (.int .i64 m.line) := by have := cell_of_block h.block 6 (by simp); simpa using this
theorem McS.c7 : w.cell? ⟨M, 7, none⟩ = some (.int .i64 m.fin) := by have := cell_of_block h.block 7 (by simp); simpa using this
theorem McS.fz (i : Nat) : w.frozen? ⟨M, i, none⟩ = false := free_of_block h.block i
theorem McS.input : w.ownsRow 0 3 1 X.iv S.input.length (intsV S.input) := h.own.rows (iRow X.iv S.input) (by simp [rowsOf])
theorem McS.frames : w.ownsRow 0 153 2 X.fv m.frames.length (fCells X.fps m.frames) := h.own.rows ⟨153, 2, X.fv, m.frames.length, fCells X.fps m.frames⟩ (by simp [rowsOf])
theorem McS.vals : w.ownsRow 0 24 1 X.vv m.values.length X.vps := h.own.rows ⟨24, 1, X.vv, m.values.length, X.vps⟩ (by simp [rowsOf])
theorem McS.out : w.ownsRow 0 3 1 X.ov m.output.length (intsV m.output) := h.own.rows (iRow X.ov m.output) (by simp [rowsOf])
end
end Go.Proofs.YthleadfkfnnadaaGreat
namespace Go.Proofs.YthleadfkfnnadaaGreat
open Go.RowKit
def PTy (t : TypeId) : Prop := t = 145 ∨ t = 188 ∨ t = 9 ∨ t = 236 ∨ t = 140
theorem McS.next {w w' : World} {M B : Nat} {ty : TypeId} {tail tail' : List Value} {S : Rt.Src} {m m' : Rt.Mc} {X X' : McX} (h : McS w M B ty tail S m X)
    (hM : w'.heap[M]? = some (.cells ([X'.lv, X'.iv, X'.fv, X'.vv, .int .i64 m'.taken, X'.ov, .int .i64 m'.line, .int .i64 m'.fin] ++ tail').toArray ty (0, 0))) (hs : w.heap.size ≤ w'.heap.size)
    (hk : ∀ (k : Nat) (x : Obj), w.heap[k]? = some x → k ≠ M → (∃ c t, x = Obj.cells c t (0, 0) ∧ PTy t) → w'.heap[k]? = some x) (ho : Own w' (rowsOf S.input X' m')) (hl : X'.lv = X.lv) (hc : X'.cs = X.cs)
    (fl : X'.fps.length = m'.frames.length) (vl : X'.vps.length = m'.values.length) : McS w' M B ty tail' S m' X' := by
  have hr : ∀ (B : Nat) (t : TypeId) (size n : Nat) (v : Value) (xs : List Value), t ≠ ty → PTy t → w.ownsRow B t size v n xs → w'.ownsRow B t size v n xs := by
    intro B t size n v xs n0 n1 hv
    refine own_same hv (fun g hg => ?_)
    obtain ⟨c, hc⟩ := own_blk hv hg
    rw [hc]
    refine hk g _ hc ?_ ⟨_, _, rfl, n1⟩
    intro e
    rw [e, h.block] at hc
    injection hc with hc
    injection hc with _ hc
    exact n0 hc.symm
  obtain ⟨_, _, _, t1, t2, t3, t4, t5⟩ := h.ty
  have hK : ∀ {v : Array Value} {fm : Rt.PForm}, FormV w B v fm → FormV w' B v fm := by
    intro v fm hf
    obtain ⟨pv, iv, vv, vs, rfl, h1, h2, h3, h4⟩ := hf
    exact ⟨pv, iv, vv, vs, rfl, hr _ _ _ _ _ _ (Ne.symm t3) (Or.inr (Or.inr (Or.inl rfl))) h1, hr _ _ _ _ _ _ (Ne.symm t4) (Or.inr (Or.inr (Or.inr (Or.inl rfl)))) h2, hr _ _ _ _ _ _ (Ne.symm t5) (Or.inr (Or.inr (Or.inr (Or.inr rfl)))) h3, ExprsR.map (fun x o hh => hr _ _ _ _ _ _ (Ne.symm t4) (Or.inr (Or.inr (Or.inr (Or.inl rfl)))) hh) _ _ h4⟩
  have hlines : ∀ ps cs, LinesV w B ps cs → LinesV w' B ps cs := by
    intro ps
    induction ps with
    | nil => intro cs h; cases cs with
      | nil => trivial
      | cons _ _ => exact h.elim
    | cons p ps ih => intro cs h; cases cs with
      | nil => exact h.elim
      | cons c cs =>
        obtain ⟨⟨tv, fv, xe, xf, e, g1, g2⟩, h2⟩ := h
        exact ⟨⟨tv, fv, xe, xf, e, hr _ _ _ _ _ _ (Ne.symm t2) (Or.inr (Or.inl rfl)) g1, hK g2⟩, ih cs h2⟩
  have hcell : w'.cell? ⟨M, 0, none⟩ = some X'.lv := by have := cell_of_block hM 0 (by simp); simpa using this
  refine ⟨hM, ⟨Nat.lt_of_lt_of_le h.prog.lt hs, hcell, ?_, ?_, ?_, h.prog.len⟩, ho, fl, vl, h.ty⟩
  · rw [hl, hc]; exact hr _ _ _ _ _ _ (Ne.symm t1) (Or.inl rfl) h.prog.own
  · rw [hc]; exact hlines _ _ h.prog.lines
  · rw [hl]
    refine h.prog.links.same (fun g hg => ?_)
    obtain ⟨c, hc⟩ := own_blk h.prog.own hg
    rw [hc]
    refine hk g _ hc ?_ ⟨_, _, rfl, Or.inl rfl⟩
    intro e
    rw [e, h.block] at hc
    injection hc with hc
    injection hc with _ hc
    exact t1 hc
theorem rows_ty3 {inp : List Int} {X : McX} {m : Rt.Mc} {r : Rw} (h : r ∈ rowsOf inp X m) : r.t = 3 ∨ r.t = 153 ∨ r.t = 24 := by
  unfold rowsOf at h
  have hz : ∀ (a : List Value) (b : List (List Int)), r ∈ List.zipWith iRow a b → r.t = 3 := by
    intro a
    induction a with
    | nil => intro b hb; simp at hb
    | cons x a ih => intro b hb; cases b with
      | nil => simp at hb
      | cons y b =>
        rw [List.zipWith_cons_cons] at hb
        rcases List.mem_cons.mp hb with rfl | hb
        · rfl
        · exact ih b hb
  rcases List.mem_append.mp h with h | h
  · simp only [List.mem_cons, List.not_mem_nil, or_false] at h
    rcases h with rfl | rfl | rfl | rfl
    · exact Or.inl rfl
    · exact Or.inr (Or.inl rfl)
    · exact Or.inr (Or.inr rfl)
    · exact Or.inl rfl
  · rcases List.mem_append.mp h with h | h
    · exact Or.inl (hz _ _ h)
    · exact Or.inl (hz _ _ h)
theorem McS.aside {w : World} {M B : Nat} {ty : TypeId} {tail : List Value} {S : Rt.Src} {m : Rt.Mc} {X : McX} (h : McS w M B ty tail S m X) {N : Nat} {cs : Array Value} {t : TypeId} (hN : w.heap[N]? = some (.cells cs t (0, 0))) (hM : N ≠ M) (ht : ¬ PTy t ∧ t ≠ 3 ∧ t ≠ 153 ∧ t ≠ 24) (i : Nat) (v : Value) : McS (w.setCell ⟨N, i, none⟩ v) M B ty tail S m X := by
  have hother : ∀ k, k ≠ N → (w.setCell ⟨N, i, none⟩ v).heap[k]? = w.heap[k]? := fun k hk => Below.heap_setCell w ⟨N, i, none⟩ _ k hk
  have hrow : ∀ r ∈ rowsOf S.input X m, ∀ g, r.v.ownBlock = some g → g ≠ N := by
    intro r hr g hg e
    obtain ⟨c, hc⟩ := own_blk (h.own.rows r hr) hg
    rw [e, hN] at hc
    injection hc with hc
    injection hc with _ hc
    have := rows_ty3 hr
    rw [← hc] at this
    rcases this with e | e | e
    · exact ht.2.1 e
    · exact ht.2.2.1 e
    · exact ht.2.2.2 e
  refine h.next ?_ (by simp [World.setCell]) (fun k x hk _ hp => ?_) ⟨fun r hr => own_same (h.own.rows r hr) (fun g hg => hother g (hrow r hr g hg)), h.own.apart⟩ rfl rfl h.fl h.vl
  · rw [hother M (Ne.symm hM)]; exact h.block
  · rw [hother k (fun e => by
      rw [e, hN] at hk
      injection hk with hk
      obtain ⟨c', t', e2, hp⟩ := hp
      rw [← hk] at e2
      injection e2 with _ e2
      rw [← e2] at hp
      exact ht.1 hp)]
    exact hk
end Go.Proofs.YthleadfkfnnadaaGreat
namespace Go.Proofs.YthleadfkfnnadaaGreat
open Go.RowKit
attribute [local go_sem ↓] Go.wp_at_zero Go.wp_at_succ
theorem rows_not {w : World} {inp : List Int} {X : McX} {m : Rt.Mc} (h : Own w (rowsOf inp X m)) {N : Nat} {cs : Array Value} {t : TypeId} (hN : w.heap[N]? = some (.cells cs t (0, 0))) (ht : t ≠ 3 ∧ t ≠ 153 ∧ t ≠ 24) : N ∉ blks (rowsOf inp X m) := by
  intro e
  obtain ⟨r, hr, hg⟩ := List.mem_filterMap.mp e
  obtain ⟨c, hc⟩ := own_blk (h.rows r hr) hg
  rw [hN] at hc
  injection hc with hc
  injection hc with _ hc
  have := rows_ty3 hr
  rw [← hc] at this
  rcases this with e | e | e
  · exact ht.1 e
  · exact ht.2.1 e
  · exact ht.2.2 e
theorem Tryz.infoIntK : (Tryz.prog.info? 3).map (fun i => (i.zero, i.size, i.bytes)) = some (some (.int .i64 0), 1, 8) := by kernel_rfl
end Go.Proofs.YthleadfkfnnadaaGreat
