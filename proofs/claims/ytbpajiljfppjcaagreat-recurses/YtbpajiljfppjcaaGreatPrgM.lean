/- The program within a machine: its rows, its links; Line, Declaration, Param, IsVariable, IsArray, IsStop. -/
import Derived.Test.YtbpajiljfppjcaaGreatRead0
import Derived.Test.YtbpajiljfppjcaaGreatKit0
namespace Go.Proofs.YtbpajiljfppjcaaGreat
open Go.RowKit

/-- The program whose lines' row lies in the first cell of block P; its rows lie from block B on. -/
structure ProgM (w : World) (P B : Nat) (pls : List Rt.PL) (lk : Rt.Lks) (lv : Value) (cs : List (List Value)) : Prop where
  lt : P < w.heap.size
  cell : w.cell? ⟨P, 0, none⟩ = some lv
  own : w.ownsRow B 79 12 lv pls.length cs.flatten
  lines : LinesV w B pls cs
  links : LkW w lv lk
  len : lk.length = pls.length
theorem ProgM.later {w w' : World} {P B : Nat} {pls : List Rt.PL} {lk : Rt.Lks} {lv : Value} {cs : List (List Value)} (h : ProgM w P B pls lk lv cs) (hb : Below w.heap.size w w') : ProgM w' P B pls lk lv cs :=
  ⟨Nat.lt_of_lt_of_le h.lt hb.size, cell_later hb h.cell, own_later h.own hb, (keeps_later hb).lines _ _ h.lines, h.links.later h.own hb, h.len⟩
/-- A function that hands back a form. -/
def FormPM (B : Nat) (fm : Rt.PForm) (w : World) (e : Ending) (w' : World) : Prop := ∃ v, e = .returned (.agg v) ∧ FormV w' B v fm ∧ Below w.heap.size w w'

/-- A line of the program, read. -/
theorem ProgM.get {w : World} {P B : Nat} {acc : List Rt.PL} {p : Rt.PL} {r : List Rt.PL} {lk : Rt.Lks} {lv : Value} {cs : List (List Value)} (h : ProgM w P B (acc ++ p :: r) lk lv cs) :
    ∃ g cap a0 a1 a2 a3 c0 c1 c2 c3 xe xf, lv = .slice (some ⟨g, 0, none⟩) (acc ++ p :: r).length cap ∧ g < w.heap.size ∧
      Ten w g (acc.length * 12) (.slice a0 p.toks.length c0) (.int .i64 p.form.kind) (.string p.form.name) (.int .i64 p.form.cells) (.slice a1 p.form.params.length c1) (.slice a2 p.form.index.length c2) (.slice a3 p.form.values.length c3) (.int .i64 p.depth) (.int .i64 p.opener) (.int .i64 xe) (.int .i64 xf) (.int .i64 p.proc) ∧ TenF w g (acc.length * 12) ∧
      w.ownsRow B 127 2 (.slice a0 p.toks.length c0) p.toks.length (Rt.toksCells p.toks) ∧
      FormV w B #[.int .i64 p.form.kind, .string p.form.name, .int .i64 p.form.cells, .slice a1 p.form.params.length c1, .slice a2 p.form.index.length c2, .slice a3 p.form.values.length c3] p.form := by
  obtain ⟨c1, c, c2, hcs, hl, _, hc, _⟩ := h.lines.part
  obtain ⟨tv, fv, xe, xf, hcc, ht, hf⟩ := hc
  have hf2 := hf
  obtain ⟨pv, iv, vv, vs, hfv, b1, b2, b3, _⟩ := hf
  obtain ⟨a0, k0, rfl⟩ := ownsRow_form ht
  obtain ⟨a1, k1, rfl⟩ := ownsRow_form b1
  obtain ⟨a2, k2, rfl⟩ := ownsRow_form b2
  obtain ⟨a3, k3, rfl⟩ := ownsRow_form b3
  subst hfv
  have hget : ∀ j u, c[j]? = some u → cs.flatten[acc.length * 12 + j]? = some u := by
    intro j u hj
    rw [hcs, List.flatten_append, List.getElem?_append_right (by omega), hl, Nat.add_sub_cancel_left, List.flatten_cons, List.getElem?_append_left (List.getElem?_eq_some_iff.1 hj).1]
    exact hj
  have hown := h.own
  obtain ⟨g, cap, hlv, hg, hglt, _⟩ := own_cell hown (hget 0 _ (by rw [hcc]; rfl))
  have hcell : ∀ j u, c[j]? = some u → w.cell? ⟨g, acc.length * 12 + j, none⟩ = some u := by
    intro j u hj
    obtain ⟨g', cap', hlv', _, _, hc'⟩ := own_cell hown (hget j u hj)
    rw [hlv] at hlv'
    simp at hlv'
    rw [hlv'.1]
    exact hc'
  have hfz : ∀ j, w.frozen? ⟨g, j, none⟩ = false := by
    intro j
    rw [hlv] at hown
    exact hown.frozenAt j
  refine ⟨g, cap, a0, a1, a2, a3, k0, k1, k2, k3, xe, xf, hlv, hglt, ⟨?_, ?_, ?_, ?_, ?_, ?_, ?_, ?_, ?_, ?_, ?_, ?_⟩, ⟨hfz _, hfz _, hfz _, hfz _, hfz _, hfz _, hfz _, hfz _, hfz _, hfz _, hfz _, hfz _⟩, ht, hf2⟩
  · exact hcell 0 _ (by rw [hcc]; rfl)
  · exact hcell 1 _ (by rw [hcc]; rfl)
  · exact hcell 2 _ (by rw [hcc]; rfl)
  · exact hcell 3 _ (by rw [hcc]; rfl)
  · exact hcell 4 _ (by rw [hcc]; rfl)
  · exact hcell 5 _ (by rw [hcc]; rfl)
  · exact hcell 6 _ (by rw [hcc]; rfl)
  · exact hcell 7 _ (by rw [hcc]; rfl)
  · exact hcell 8 _ (by rw [hcc]; rfl)
  · exact hcell 9 _ (by rw [hcc]; rfl)
  · exact hcell 10 _ (by rw [hcc]; rfl)
  · exact hcell 11 _ (by rw [hcc]; rfl)

/-- A line of the program, read at its number. -/
theorem ProgM.at {w : World} {P B : Nat} {pls : List Rt.PL} {lk : Rt.Lks} {lv : Value} {cs : List (List Value)} (h : ProgM w P B pls lk lv cs) {i : Nat} (hi : i < pls.length) :
    ∃ g cap a0 a1 a2 a3 c0 c1 c2 c3 xe xf, lv = .slice (some ⟨g, 0, none⟩) pls.length cap ∧ g < w.heap.size ∧
      Ten w g (i * 12) (.slice a0 pls[i].toks.length c0) (.int .i64 pls[i].form.kind) (.string pls[i].form.name) (.int .i64 pls[i].form.cells) (.slice a1 pls[i].form.params.length c1) (.slice a2 pls[i].form.index.length c2) (.slice a3 pls[i].form.values.length c3) (.int .i64 pls[i].depth) (.int .i64 pls[i].opener) (.int .i64 xe) (.int .i64 xf) (.int .i64 pls[i].proc) ∧
      w.ownsRow B 127 2 (.slice a0 pls[i].toks.length c0) pls[i].toks.length (Rt.toksCells pls[i].toks) ∧
      FormV w B #[.int .i64 pls[i].form.kind, .string pls[i].form.name, .int .i64 pls[i].form.cells, .slice a1 pls[i].form.params.length c1, .slice a2 pls[i].form.index.length c2, .slice a3 pls[i].form.values.length c3] pls[i].form := by
  have hs := split_at hi
  have hl : (pls.take i).length = i := by simp; omega
  have h2 := h
  rw [hs] at h2
  obtain ⟨g, cap, a0, a1, a2, a3, c0, c1, c2, c3, xe, xf, hlv, h4, h5, _, h6, h7⟩ := h2.get
  rw [← hs] at hlv
  rw [hl] at h5
  exact ⟨g, cap, a0, a1, a2, a3, c0, c1, c2, c3, xe, xf, hlv, h4, h5, h6, h7⟩

theorem ProgM.lvForm {w : World} {P B : Nat} {pls : List Rt.PL} {lk : Rt.Lks} {lv : Value} {cs : List (List Value)} (h : ProgM w P B pls lk lv cs) : ∃ ad cap, lv = .slice ad pls.length cap ∧ w.cell? ⟨P, 0, none⟩ = some (.slice ad pls.length cap) := by
  obtain ⟨ad, cap, rfl⟩ := ownsRow_form h.own
  exact ⟨ad, cap, rfl, h.cell⟩

/-- A function that hands back a line. -/
def PLineM (B : Nat) (pl : Rt.PL) (x : Int × Int) (w : World) (e : Ending) (w' : World) : Prop := ∃ a0 a1 a2 a3 c0 c1 c2 c3, e = .returned (.agg #[.slice a0 pl.toks.length c0, .int .i64 pl.form.kind, .string pl.form.name, .int .i64 pl.form.cells, .slice a1 pl.form.params.length c1, .slice a2 pl.form.index.length c2, .slice a3 pl.form.values.length c3, .int .i64 pl.depth, .int .i64 pl.opener, .int .i64 x.1, .int .i64 x.2, .int .i64 pl.proc]) ∧ w'.ownsRow B 127 2 (.slice a0 pl.toks.length c0) pl.toks.length (Rt.toksCells pl.toks) ∧ FormV w' B #[.int .i64 pl.form.kind, .string pl.form.name, .int .i64 pl.form.cells, .slice a1 pl.form.params.length c1, .slice a2 pl.form.index.length c2, .slice a3 pl.form.values.length c3] pl.form ∧ Below w.heap.size w w'
theorem linem_zero {B : Nat} {w w' : World} (hb : Below w.heap.size w w') : PLineM B Rt.zPL (0, 0) w (.returned (.agg #[.slice none 0 0, .int .i64 0, .string ⟨#[]⟩, .int .i64 0, .slice none 0 0, .slice none 0 0, .slice none 0 0, .int .i64 0, .int .i64 0, .int .i64 0, .int .i64 0, .int .i64 0])) w' :=
  ⟨none, none, none, none, 0, 0, 0, 0, rfl, World.ownsRow_nil _ _ _ _, FormV_plain _ _ _ _ _, hb⟩
theorem lkAt_out {lk : Rt.Lks} {n : Int} (h : n < 0 ∨ (lk.length : Int) ≤ n) : Rt.lkAt lk n = (0, 0) := by
  unfold Rt.lkAt
  split
  · rfl
  · rw [List.getElem?_eq_none (by omega)]
    rfl

set_option maxHeartbeats 1000000 in
set_option maxRecDepth 100000 in
theorem Line_m (w : World) (P B : Nat) (pls : List Rt.PL) (lk : Rt.Lks) (lv : Value) (cs : List (List Value)) (n : Int) (h : ProgM w P B pls lk lv cs) :
    Calls Tryz.prog 37 #[.pointer (some ⟨P, 0, none⟩), .int .i64 n] w (PLineM B (Rt.lineAtP pls n) (Rt.lkAt lk n) w) := by
  obtain ⟨ad, cap, hlv, cP⟩ := h.lvForm
  have hPlt := h.lt
  have HL2 := hide (And.intro h.links h.len)
  by_cases h0 : n < 0
  · have HE := hide (Rt.lineAtP_out (pls := pls) (Or.inl h0))
    have HX := hide (lkAt_out (lk := lk) (Or.inl h0))
    clear h
    go_enter Tryz.func37, Tryz.ntmps37
    go_wp2_with fail
    refine bodyPost_ret (v := .agg #[.slice none 0 0, .int .i64 0, .string ⟨#[]⟩, .int .i64 0, .slice none 0 0, .slice none 0 0, .slice none 0 0, .int .i64 0, .int .i64 0, .int .i64 0, .int .i64 0, .int .i64 0]) ?_ rfl (by rw [unhide HE, unhide HX]; exact linem_zero ((Below.refl _ _).alloc (Nat.le_refl _) _))
    simp [results, Tryz.results37, go_sem]
  by_cases h1 : (pls.length : Int) ≤ n
  · have HE := hide (Rt.lineAtP_out (pls := pls) (Or.inr h1))
    have HX := hide (lkAt_out (lk := lk) (Or.inr (by rw [(unhide HL2).2]; exact h1)))
    clear h
    go_enter Tryz.func37, Tryz.ntmps37
    go_wp2_with fail
    refine bodyPost_ret (v := .agg #[.slice none 0 0, .int .i64 0, .string ⟨#[]⟩, .int .i64 0, .slice none 0 0, .slice none 0 0, .slice none 0 0, .int .i64 0, .int .i64 0, .int .i64 0, .int .i64 0, .int .i64 0]) ?_ rfl (by rw [unhide HE, unhide HX]; exact linem_zero ((Below.refl _ _).alloc (Nat.le_refl _) _))
    simp [results, Tryz.results37, go_sem]
  obtain ⟨k, rfl⟩ := Int.eq_ofNat_of_zero_le (show 0 ≤ n by omega)
  have hlt : k < pls.length := by omega
  obtain ⟨g, cap', a0, a1, a2, a3, e0, e1, e2, e3, xe, xf, hlv', hglt, ⟨d0, d1, d2, d3, d4, d5, d6, d7, d8, d9, d10, d11⟩, htk, hfv⟩ := h.at hlt
  have hlv2 := hlv.symm.trans hlv'
  simp at hlv2
  obtain ⟨rfl, rfl⟩ := hlv2
  have HE := hide (Rt.lineAtP_in hlt)
  have hlk : k < lk.length := by rw [h.len]; exact hlt
  obtain ⟨k9, k10⟩ := h.links g _ cap hlv' k lk[k] (List.getElem?_eq_getElem hlk)
  rw [d9] at k9
  rw [d10] at k10
  injection k9 with k9
  injection k9 with _ k9
  injection k10 with k10
  injection k10 with _ k10
  have HX : Hid (Rt.lkAt lk (k : Int) = (xe, xf)) := by
    refine hide ?_
    unfold Rt.lkAt
    rw [if_neg (by omega)]
    simp only [Int.toNat_natCast]
    rw [List.getElem?_eq_getElem hlk, k9, k10]
    rfl
  have HF := hide (And.intro htk hfv)
  clear k9 k10
  clear h hfv htk hlv hlv'
  generalize pls[k] = pl at *
  go_enter Tryz.func37, Tryz.ntmps37
  go_wp2_with fail
  refine bodyPost_ret (v := .agg #[.slice a0 pl.toks.length e0, .int .i64 pl.form.kind, .string pl.form.name, .int .i64 pl.form.cells, .slice a1 pl.form.params.length e1, .slice a2 pl.form.index.length e2, .slice a3 pl.form.values.length e3, .int .i64 pl.depth, .int .i64 pl.opener, .int .i64 xe, .int .i64 xf, .int .i64 pl.proc]) ?_ rfl (by rw [unhide HE, unhide HX]; exact ⟨a0, a1, a2, a3, e0, e1, e2, e3, rfl, own_later (unhide HF).1 ((Below.refl _ _).alloc (Nat.le_refl _) _), (keeps_later (B := B) ((Below.refl _ _).alloc (Nat.le_refl _) _)).form (unhide HF).2, (Below.refl _ _).alloc (Nat.le_refl _) _⟩)
  simp [results, Tryz.results37, go_sem]

set_option maxHeartbeats 1000000 in
theorem declaration_m (w : World) (P B : Nat) (pls : List Rt.PL) (lk : Rt.Lks) (lv : Value) (cs : List (List Value)) (x : ByteArray) (h : ProgM w P B pls lk lv cs) (hlen : pls.length ≤ 101) :
    Calls Tryz.prog 52 #[.pointer (some ⟨P, 0, none⟩), .string x] w fun e w' => e = .returned (.int .i64 (Rt.declP pls x)) ∧ w' = w := by
  obtain ⟨ad, cap, hlv, cP⟩ := h.lvForm
  have HH := hide h
  have HLV := hide hlv
  clear h hlv
  go_enter Tryz.func52, Tryz.ntmps52
  go_wp2
  go_loop [5] (fun i => ∃ k : Nat, 1 ≤ k ∧ k ≤ pls.length + 1 ∧ i = .int .i64 k ∧ Rt.declFrom k (pls.drop k) x = Rt.declP pls x) (fun i => pls.length + 1 - (intOf i).toNat)
  case atStart => exact ⟨1, Nat.le_refl _, by omega, rfl, rfl⟩
  case round =>
    obtain ⟨k, hk1, hk, rfl, hT⟩ := hrel
    have HT := hide hT
    clear hT
    by_cases hlt : k < pls.length
    · obtain ⟨g, cap', a0, a1, a2, a3, e0, e1, e2, e3, xe, xf, hlv, _, ⟨_, d1, d2, _⟩, _, _⟩ := (unhide HH).at hlt
      have hlv2 := (unhide HLV).symm.trans hlv
      simp at hlv2
      obtain ⟨rfl, rfl⟩ := hlv2
      have hlt' : (k : Int) < (pls.length : Int) := by omega
      cases hd : Rt.isDecl pls[k] x with
      | true =>
        have HE := hide (declFrom_hit (unhide HT) hlt hd)
        unfold Rt.isDecl at hd
        simp only [Bool.and_eq_true, Bool.or_eq_true, decide_eq_true_eq] at hd
        obtain ⟨hk3, hnm⟩ := hd
        have hnm' := Rt.str_same hnm
        clear hnm hlv
        generalize pls[k].form.name = nm at *
        generalize pls[k].form.kind = kx at *
        rcases hk3 with (hk3 | hk3) | hk3
        all_goals
          subst hk3
          go_wp2
          go_ret
          exact ⟨by rw [unhide HE]; rfl, rfl⟩
      | false =>
        have HE := hide (declFrom_miss (unhide HT) hlt hd)
        unfold Rt.isDecl at hd
        clear hlv
        generalize pls[k].form.name = nm at *
        generalize pls[k].form.kind = kx at *
        by_cases hnm : nm = x
        · have hk3 : ¬ kx = 1 ∧ ¬ kx = 2 ∧ ¬ kx = 3 := by simpa [hnm, and_assoc] using hd
          have k1 : (kx == 1) = false := by simpa using hk3.1
          have k2 : (kx == 2) = false := by simpa using hk3.2.1
          have k3 : (kx == 3) = false := by simpa using hk3.2.2
          clear hk3 hd hnm
          go_wp2
          go_round
          case rel => exact ⟨k + 1, by omega, by omega, by go_num, unhide HE⟩
          case measure => simp [intOf]; omega
        · have hnm' := Rt.str_ne hnm
          clear hd hnm
          go_wp2
          all_goals
            go_round
            case rel => exact ⟨k + 1, by omega, by omega, by go_num, unhide HE⟩
            case measure => simp [intOf]; omega
    · have HE := hide (declFrom_end (unhide HT) hlt)
      have hlt' : ¬ (k : Int) < (pls.length : Int) := by omega
      go_wp2
      go_ret
      exact ⟨by rw [unhide HE]; simp, rfl⟩

set_option maxHeartbeats 1000000 in
theorem declared_m (w : World) (P B : Nat) (pls : List Rt.PL) (lk : Rt.Lks) (lv : Value) (cs : List (List Value)) (x : ByteArray) (h : ProgM w P B pls lk lv cs) (hlen : pls.length ≤ 101) :
    Calls Tryz.prog 64 #[.pointer (some ⟨P, 0, none⟩), .string x] w (FormPM B (Rt.declForm pls x) w) := by
  have hb0 := (Below.refl w.heap.size w).alloc (Nat.le_refl _) (.cells zForm 77)
  have h0 := h.later hb0
  have hN0 := heap_alloc_new w (.cells zForm 77)
  clear h
  go_enter Tryz.func64, Tryz.ntmps64
  go_wp2_with fail
  refine (declaration_m _ _ _ _ _ _ _ x h0 hlen).mono ?_
  rintro e w1 ⟨rfl, rfl⟩
  go_wp2_with fail
  refine (Line_m _ _ _ _ _ _ _ _ h0).mono ?_
  rintro e w2 ⟨ad0, ad1, ad2, ad3, cap0, cap1, cap2, cap3, rfl, _, hfv, hb2⟩
  rw [Rt.lineAtP_form] at hfv ⊢
  generalize (Rt.lkAt lk (Rt.declP pls x)).1 = xe at *
  generalize (Rt.lkAt lk (Rt.declP pls x)).2 = xf at *
  generalize (Rt.lineAtP pls (Rt.declP pls x)).depth = dp at *
  generalize (Rt.lineAtP pls (Rt.declP pls x)).opener = opn at *
  generalize (Rt.lineAtP pls (Rt.declP pls x)).proc = pr at *
  generalize (Rt.lineAtP pls (Rt.declP pls x)).toks.length = tl at *
  obtain ⟨c0, c1, c2, c3, c4, c5, f0, f1, f2, f3, f4, f5⟩ := six (block_later hN0 hb2)
  have hz := block_lt (block_later hN0 hb2)
  have HV := hide (FormV_set6_ty hfv (block_later hN0 hb2))
  have HB := hide (hb0.trans (hb2.mono (B' := w.heap.size) (by simp)))
  have hfl := Tryz.fieldL1 ad0 tl cap0 (Rt.formAt pls (Rt.declP pls x)).kind (Rt.formAt pls (Rt.declP pls x)).name (Rt.formAt pls (Rt.declP pls x)).cells ad1 (Rt.formAt pls (Rt.declP pls x)).params.length cap1 ad2 (Rt.formAt pls (Rt.declP pls x)).index.length cap2 ad3 (Rt.formAt pls (Rt.declP pls x)).values.length cap3 dp opn xe xf pr
  clear h0 hb0 hN0 hb2 hfv
  go_wp2_with fail
  refine bodyPost_ret (v := .agg #[.int .i64 (Rt.formAt pls (Rt.declP pls x)).kind, .string (Rt.formAt pls (Rt.declP pls x)).name, .int .i64 (Rt.formAt pls (Rt.declP pls x)).cells, .slice ad1 (Rt.formAt pls (Rt.declP pls x)).params.length cap1, .slice ad2 (Rt.formAt pls (Rt.declP pls x)).index.length cap2, .slice ad3 (Rt.formAt pls (Rt.declP pls x)).values.length cap3]) ?_ rfl ⟨_, rfl, unhide HV _ _ _ _ _ _, below_set6 (unhide HB) (Nat.le_refl _) _ _ _ _ _ _⟩
  simp [results, Tryz.results64, go_sem, c0, c1, c2, c3, c4, c5]

set_option maxHeartbeats 1000000 in
set_option maxRecDepth 100000 in
theorem Param_m (w : World) (P B : Nat) (pls : List Rt.PL) (lk : Rt.Lks) (lv : Value) (cs : List (List Value)) (n : Int) (x : ByteArray) (h : ProgM w P B pls lk lv cs) (hpar : (Rt.formAt pls n).params.length ≤ 1000) :
    Calls Tryz.prog 63 #[.pointer (some ⟨P, 0, none⟩), .int .i64 n, .string x] w fun e w' => e = .returned (.int .i64 (Rt.parIdx pls n x)) ∧ Below w.heap.size w w' := by
  go_enter Tryz.func63, Tryz.ntmps63
  go_wp2_with fail
  refine (Line_m _ _ _ _ _ _ _ _ h).mono ?_
  rintro e w2 ⟨ad0, ad1, ad2, ad3, cap0, cap1, cap2, cap3, rfl, _, hfv, hb2⟩
  rw [Rt.lineAtP_form] at hfv ⊢
  generalize (Rt.lkAt lk n).1 = xe at *
  generalize (Rt.lkAt lk n).2 = xf at *
  generalize (Rt.lineAtP pls n).depth = dp at *
  generalize (Rt.lineAtP pls n).opener = opn at *
  generalize (Rt.lineAtP pls n).proc = pr at *
  generalize (Rt.lineAtP pls n).toks.length = tl at *
  obtain ⟨pv, iv, vv, vs, hfe, b1, b2, b3, _⟩ := hfv
  have hpv : pv = .slice ad1 (Rt.formAt pls n).params.length cap1 := by simp at hfe; exact hfe.1.symm
  subst hpv
  have HB := hide hb2
  have HO := hide b1
  have HI := hide (show Rt.parIdx pls n x = Rt.parFrom 0 (Rt.formAt pls n).params x from rfl)
  clear h hb2 b1 b2 b3 hfe
  generalize (Rt.formAt pls n) = fm at *
  have hf1 := Tryz.fieldL1 ad0 tl cap0 fm.kind fm.name fm.cells ad1 fm.params.length cap1 ad2 fm.index.length cap2 ad3 fm.values.length cap3 dp opn xe xf pr
  have hfl := Tryz.fieldF3 (.int .i64 fm.kind) (.string fm.name) (.int .i64 fm.cells) ad1 fm.params.length cap1 (.slice ad2 fm.index.length cap2) (.slice ad3 fm.values.length cap3)
  go_wp2
  go_loop [8] (fun i => ∃ k : Nat, k ≤ fm.params.length ∧ i = .int .i64 k ∧ Rt.parFrom k (fm.params.drop k) x = Rt.parIdx pls n x) (fun i => fm.params.length - (intOf i).toNat)
  case atStart => exact ⟨0, Nat.zero_le _, rfl, (unhide HI).symm⟩
  case round =>
    obtain ⟨k, hk, rfl, hT⟩ := hrel
    have HT := hide hT
    clear hT
    by_cases hlt : k < fm.params.length
    · obtain ⟨g, cap', hv, _, _, cx⟩ := own_cell (unhide HO) (j := k) (u := .string fm.params[k]) (by simp [hlt])
      simp at hv
      obtain ⟨rfl, rfl⟩ := hv
      have hlt' : (k : Int) < (fm.params.length : Int) := by omega
      by_cases hx : fm.params[k] = x
      · have HE := hide (Rt.parFrom_hit (unhide HT) hlt hx)
        have hx' := Rt.str_same hx
        clear hx
        go_wp2
        go_ret
        exact ⟨by rw [unhide HE]; rfl, unhide HB⟩
      · have HE := hide (Rt.parFrom_miss (unhide HT) hlt hx)
        have hx' := Rt.str_ne hx
        clear hx
        go_wp2
        go_round
        case rel => exact ⟨k + 1, by omega, by go_num, unhide HE⟩
        case measure => simp [intOf]; omega
    · have HE := hide (Rt.parFrom_end (unhide HT) hlt)
      have hlt' : ¬ (k : Int) < (fm.params.length : Int) := by omega
      go_wp2
      go_ret
      exact ⟨by rw [unhide HE]; rfl, unhide HB⟩

set_option maxHeartbeats 1000000 in
set_option maxRecDepth 100000 in
theorem isVariable_m (w : World) (P B : Nat) (pls : List Rt.PL) (lk : Rt.Lks) (lv : Value) (cs : List (List Value)) (n : Int) (x : ByteArray) (h : ProgM w P B pls lk lv cs) (hlen : pls.length ≤ 101) (hpar : (Rt.formAt pls n).params.length ≤ 1000) :
    Calls Tryz.prog 42 #[.pointer (some ⟨P, 0, none⟩), .int .i64 n, .string x] w fun e w' => e = .returned (.bool (Rt.isVar pls n x)) ∧ Below w.heap.size w w' := by
  go_enter Tryz.func42, Tryz.ntmps42
  go_wp2_with fail
  refine (Param_m _ _ _ _ _ _ _ _ x h hpar).mono ?_
  rintro e w1 ⟨rfl, hb1⟩
  have hpi := Rt.parIdx_is pls n x
  generalize Rt.parIdx pls n x = R at *
  cases hp : Rt.isPar pls n x with
  | true =>
    have hR : 0 ≤ R := by rcases hpi with h | h; exact h.2; rw [hp] at h; cases h.1
    clear hpi
    have HE := hide (show Rt.isVar pls n x = true by simp [Rt.isVar, hp])
    have HB := hide hb1
    clear h hp hb1
    go_wp2_with fail
    go_ret
    exact ⟨by rw [unhide HE]; rfl, unhide HB⟩
  | false =>
    have hR : ¬ 0 ≤ R := by rcases hpi with h | h; rw [hp] at h; cases h.1; omega
    clear hpi
    have HE := hide (show Rt.isVar pls n x = decide ((Rt.declForm pls x).kind = 1) by simp [Rt.isVar, hp])
    have h1 := h.later hb1
    have hsz := hb1.size
    clear h hp
    go_wp2_with fail
    refine (declared_m _ _ _ _ _ _ _ x h1 hlen).mono ?_
    rintro e w2 ⟨fv, rfl, ⟨pv, iv, vv, vs, rfl, b1, b2, b3, _⟩, hb2⟩
    obtain ⟨ad1, cap1, rfl⟩ := ownsRow_form b1
    obtain ⟨ad2, cap2, rfl⟩ := ownsRow_form b2
    obtain ⟨ad3, cap3, rfl⟩ := ownsRow_form b3
    clear b1 b2 b3
    have hfl := Tryz.fieldF0 (Rt.declForm pls x).kind (.string (Rt.declForm pls x).name) (.int .i64 (Rt.declForm pls x).cells) (.slice ad1 (Rt.declForm pls x).params.length cap1) (.slice ad2 (Rt.declForm pls x).index.length cap2) (.slice ad3 (Rt.declForm pls x).values.length cap3)
    have HB := hide (hb1.trans (hb2.mono (B' := w.heap.size) hsz))
    clear h1 hb1 hb2
    go_wp2_with fail
    go_ret
    exact ⟨by rw [unhide HE]; exact ret_bool (by rw [beq_eq_decide]), unhide HB⟩

set_option maxHeartbeats 1000000 in
set_option maxRecDepth 100000 in
theorem isArray_m (w : World) (P B : Nat) (pls : List Rt.PL) (lk : Rt.Lks) (lv : Value) (cs : List (List Value)) (n : Int) (x : ByteArray) (h : ProgM w P B pls lk lv cs) (hlen : pls.length ≤ 101) (hpar : (Rt.formAt pls n).params.length ≤ 1000) :
    Calls Tryz.prog 89 #[.pointer (some ⟨P, 0, none⟩), .int .i64 n, .string x] w fun e w' => e = .returned (.bool (Rt.isArr pls n x)) ∧ Below w.heap.size w w' := by
  go_enter Tryz.func89, Tryz.ntmps89
  go_wp2_with fail
  refine (Param_m _ _ _ _ _ _ _ _ x h hpar).mono ?_
  rintro e w1 ⟨rfl, hb1⟩
  have hpi := Rt.parIdx_is pls n x
  generalize Rt.parIdx pls n x = R at *
  cases hp : Rt.isPar pls n x with
  | true =>
    have hR : 0 ≤ R := by rcases hpi with h | h; exact h.2; rw [hp] at h; cases h.1
    clear hpi
    have HE := hide (show Rt.isArr pls n x = false by simp [Rt.isArr, hp])
    have HB := hide hb1
    clear h hp hb1
    go_wp2_with fail
    go_ret
    exact ⟨by rw [unhide HE]; rfl, unhide HB⟩
  | false =>
    have hR : ¬ 0 ≤ R := by rcases hpi with h | h; rw [hp] at h; cases h.1; omega
    clear hpi
    have HE := hide (show Rt.isArr pls n x = decide ((Rt.declForm pls x).kind = 2) by simp [Rt.isArr, hp])
    have h1 := h.later hb1
    have hsz := hb1.size
    clear h hp
    go_wp2_with fail
    refine (declared_m _ _ _ _ _ _ _ x h1 hlen).mono ?_
    rintro e w2 ⟨fv, rfl, ⟨pv, iv, vv, vs, rfl, b1, b2, b3, _⟩, hb2⟩
    obtain ⟨ad1, cap1, rfl⟩ := ownsRow_form b1
    obtain ⟨ad2, cap2, rfl⟩ := ownsRow_form b2
    obtain ⟨ad3, cap3, rfl⟩ := ownsRow_form b3
    clear b1 b2 b3
    have hfl := Tryz.fieldF0 (Rt.declForm pls x).kind (.string (Rt.declForm pls x).name) (.int .i64 (Rt.declForm pls x).cells) (.slice ad1 (Rt.declForm pls x).params.length cap1) (.slice ad2 (Rt.declForm pls x).index.length cap2) (.slice ad3 (Rt.declForm pls x).values.length cap3)
    have HB := hide (hb1.trans (hb2.mono (B' := w.heap.size) hsz))
    clear h1 hb1 hb2
    go_wp2_with fail
    go_ret
    exact ⟨by rw [unhide HE]; exact ret_bool (by rw [beq_eq_decide]), unhide HB⟩

set_option maxHeartbeats 2000000 in
set_option maxRecDepth 100000 in
theorem isStop_m (w : World) (P B : Nat) (pls : List Rt.PL) (lk : Rt.Lks) (lv : Value) (cs : List (List Value)) (n : Int) (h : ProgM w P B pls lk lv cs) :
    Calls Tryz.prog 61 #[.pointer (some ⟨P, 0, none⟩), .int .i64 n] w fun e w' => e = .returned (.bool (Rt.isStopP pls (Rt.lineAtP pls n))) ∧ Below w.heap.size w w' := by
  go_enter Tryz.func61, Tryz.ntmps61
  go_wp2_with fail
  refine (Line_m _ _ _ _ _ _ _ n h).mono ?_
  rintro e w1 ⟨a0, a1, a2, a3, c0, c1, c2, c3, rfl, _, _, hb1⟩
  generalize (Rt.lkAt lk n).1 = xe at *
  generalize (Rt.lkAt lk n).2 = xf at *
  generalize HPL : Rt.lineAtP pls n = pl at *
  replace HPL := hide HPL
  have hb0 := hb1.alloc hb1.size (.cells #[.slice a0 pl.toks.length c0, .int .i64 pl.form.kind, .string pl.form.name, .int .i64 pl.form.cells, .slice a1 pl.form.params.length c1, .slice a2 pl.form.index.length c2, .slice a3 pl.form.values.length c3, .int .i64 pl.depth, .int .i64 pl.opener, .int .i64 xe, .int .i64 xf, .int .i64 pl.proc] 79)
  have h0 := h.later hb0
  have hsz0 := hb0.size
  clear h hb1
  cases hs : Rt.stopKind pl.form.kind with
  | true =>
    have HE := hide (show Rt.isStopP pls pl = true by simp [Rt.isStopP, hs])
    have HB := hide hb0
    have hs' : pl.form.kind = 8 ∨ pl.form.kind = 9 ∨ pl.form.kind = 10 ∨ pl.form.kind = 11 ∨ pl.form.kind = 5 ∨ pl.form.kind = 7 ∨ pl.form.kind = 12 ∨ pl.form.kind = 13 := by
      simp [Rt.stopKind] at hs
      omega
    clear hs h0 hb0 hsz0
    generalize pl.form.kind = kx at *
    rcases hs' with rfl | rfl | rfl | rfl | rfl | rfl | rfl | rfl
    all_goals
      go_wp2_with fail
      go_ret
      exact ⟨by rw [unhide HPL, unhide HE] <;> rfl, unhide HB⟩
  | false =>
    have hs' : ¬ pl.form.kind = 8 ∧ ¬ pl.form.kind = 9 ∧ ¬ pl.form.kind = 10 ∧ ¬ pl.form.kind = 11 ∧ ¬ pl.form.kind = 5 ∧ ¬ pl.form.kind = 7 ∧ ¬ pl.form.kind = 12 ∧ ¬ pl.form.kind = 13 := by
      simp [Rt.stopKind] at hs
      omega
    obtain ⟨n8, n9, n10, n11, n5, n7, n12, n13⟩ := hs'
    have b8 : (pl.form.kind == 8) = false := by simpa using n8
    have b9 : (pl.form.kind == 9) = false := by simpa using n9
    have b10 : (pl.form.kind == 10) = false := by simpa using n10
    have b11 : (pl.form.kind == 11) = false := by simpa using n11
    have b5 : (pl.form.kind == 5) = false := by simpa using n5
    have b7 : (pl.form.kind == 7) = false := by simpa using n7
    have b12 : (pl.form.kind == 12) = false := by simpa using n12
    have b13 : (pl.form.kind == 13) = false := by simpa using n13
    clear n8 n9 n10 n11 n5 n7 n12 n13
    by_cases n4 : pl.form.kind = 4
    · have b4 : (pl.form.kind == 4) = true := by simpa using n4
      have HE := hide (show Rt.isStopP pls pl = decide ((Rt.formAt pls pl.opener).kind = 3) by unfold Rt.isStopP; rw [if_neg (by rw [hs]; simp), if_pos n4])
      clear hs n4
      go_wp2_with fail
      refine (Line_m _ _ _ _ _ _ _ pl.opener h0).mono ?_
      rintro e w2 ⟨ad0, ad1, ad2, ad3, cap0, cap1, cap2, cap3, rfl, _, _, hb2⟩
      rw [Rt.lineAtP_form]
      generalize (Rt.lkAt lk pl.opener).1 = ye at *
      generalize (Rt.lkAt lk pl.opener).2 = yf at *
      generalize (Rt.lineAtP pls pl.opener).depth = dp at *
      generalize (Rt.lineAtP pls pl.opener).opener = opn at *
      generalize (Rt.lineAtP pls pl.opener).proc = pr at *
      generalize (Rt.lineAtP pls pl.opener).toks.length = tl at *
      have HB := hide (hb0.trans (hb2.mono (B' := w.heap.size) hsz0))
      clear h0 hb0 hb2
      generalize (Rt.formAt pls pl.opener) = fo at *
      have hf1 := Tryz.fieldL1 ad0 tl cap0 fo.kind fo.name fo.cells ad1 fo.params.length cap1 ad2 fo.index.length cap2 ad3 fo.values.length cap3 dp opn ye yf pr
      have hfl := Tryz.fieldF0 fo.kind (.string fo.name) (.int .i64 fo.cells) (.slice ad1 fo.params.length cap1) (.slice ad2 fo.index.length cap2) (.slice ad3 fo.values.length cap3)
      go_wp2_with fail
      go_ret
      exact ⟨by rw [unhide HPL, unhide HE]; exact ret_bool (by rw [beq_eq_decide]), unhide HB⟩
    · have b4 : (pl.form.kind == 4) = false := by simpa using n4
      have HE := hide (show Rt.isStopP pls pl = false by unfold Rt.isStopP; rw [if_neg (by rw [hs]; simp), if_neg n4])
      have HB := hide hb0
      clear hs n4 h0 hb0 hsz0
      go_wp2_with fail
      go_ret
      exact ⟨by rw [unhide HPL, unhide HE] <;> rfl, unhide HB⟩

end Go.Proofs.YtbpajiljfppjcaaGreat

