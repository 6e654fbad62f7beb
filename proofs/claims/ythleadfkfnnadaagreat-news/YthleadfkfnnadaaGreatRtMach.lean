/- The machine's run as plain functions: no program, no walk. -/
import Derived.Test.YthleadfkfnnadaaGreatNames5
import Derived.Test.YthleadfkfnnadaaGreatFlow1
namespace Go.Proofs.YthleadfkfnnadaaGreat
open Go.RowKit
set_option maxHeartbeats 2000000 in
set_option maxRecDepth 100000 in
theorem checkNames_any (w : World) (P : Nat) (pls : List Rt.PL) (lv : Value) (cs : List (List Value)) (h : ProgS w P pls lv cs) (hlen : pls.length ≤ 101) (hall : ∀ p ∈ pls, Rt.Small p.form) :
    Calls Tryz.prog 77 #[.pointer (some ⟨P, 0, none⟩)] w fun e w' => Below w.heap.size w w' ∧
      ((¬ Rt.nameErr pls 1 (pls.drop 1) = 0 ∧ e = .returned (.tuple #[.int .i64 4, .int .i64 (Rt.nameErr pls 1 (pls.drop 1))])) ∨
       (Rt.nameErr pls 1 (pls.drop 1) = 0 ∧ ¬ (Rt.declForm pls Rt.mainName).kind = 3 ∧ e = .returned (.tuple #[.int .i64 4, .int .i64 0])) ∨
       (Rt.nameErr pls 1 (pls.drop 1) = 0 ∧ (Rt.declForm pls Rt.mainName).kind = 3 ∧ e = .returned (.tuple #[.int .i64 0, .int .i64 0]))) := by
  have HALL := hide hall
  clear hall
  go_enter Tryz.func77, Tryz.ntmps77
  go_wp2_with fail
  go_loopw [4] (fun i wr => ∃ k : Nat, 1 ≤ k ∧ k ≤ pls.length + 1 ∧ i = .int .i64 k ∧ Rt.nameErr pls k (pls.drop k) = Rt.nameErr pls 1 (pls.drop 1) ∧ ProgS wr P pls lv cs ∧ Below w.heap.size w wr)
    (fun i _ => pls.length + 1 - (intOf i).toNat)
  case atStart => exact ⟨1, Nat.le_refl _, by omega, rfl, rfl, h, Below.refl _ _⟩
  case round =>
    clear h
    obtain ⟨k, hk1, hk, rfl, hT, hpr, hbe⟩ := hrel
    have HT := hide hT
    clear hT
    have hsz := hbe.size
    obtain ⟨ad, cap, hlv, cP⟩ := hpr.lvForm
    by_cases hlt : k < pls.length
    · have hlt' : (k : Int) < (pls.length : Int) := by omega
      have hk0 : (0 : Int) ≤ (k : Int) := by omega
      obtain ⟨g, cap', a0, a1, a2, a3, e0, e1, e2, e3, xe, xf, hlv', _, hglt, ⟨d0, d1, d2, d3, d4, d5, d6, d7, d8, d9, d10, d11⟩, htk, hfv⟩ := hpr.at hlt
      have hlv2 := hlv.symm.trans hlv'
      simp at hlv2
      obtain ⟨rfl, rfl⟩ := hlv2
      have hpar := Rt.small_formAt (unhide HALL) pls[k].proc
      have hsm := (unhide HALL) pls[k] (List.getElem_mem hlt)
      have hdrop : pls.drop k = pls[k] :: pls.drop (k + 1) := List.drop_eq_getElem_cons hlt
      have HN : Hid (∀ b, Rt.namFit pls k pls[k] = b → Rt.nameErr pls 1 (pls.drop 1) = if b = true then Rt.nameErr pls (k + 1) (pls.drop (k + 1)) else k) := by
        refine hide ?_
        intro b hb
        rw [← unhide HT, hdrop, Rt.nameErr, hb]
      clear hlv hlv' htk hdrop HT
      generalize pls[k] = p at *
      go_wp2_with fail
      refine (namesFit_any _ _ _ _ _ k p a0 a1 a2 a3 e0 e1 e2 e3 xe xf hpr hlen hpar hsm hfv).mono ?_
      rintro e w2 ⟨rfl, hb2⟩
      cases hv : Rt.namFit pls k p with
      | true =>
        have HE := hide ((unhide HN) true hv)
        have HP := hide (And.intro (hpr.later hb2) (hbe.trans (hb2.mono (B' := w.heap.size) hsz)))
        clear hpr hbe hb2 hv hfv HN
        go_wp2_with fail
        go_roundw
        case rel => exact ⟨k + 1, by omega, by omega, by go_num, by have := unhide HE; rw [if_pos trivial] at this; exact this.symm, (unhide HP).1, (unhide HP).2⟩
        case measure => simp [intOf]; omega
      | false =>
        have HE := hide ((unhide HN) false hv)
        have HP := hide (hbe.trans (hb2.mono (B' := w.heap.size) hsz))
        clear hpr hbe hb2 hv hfv HN
        go_wp2_with fail
        go_ret2
        have hE := unhide HE
        rw [if_neg (by decide)] at hE
        exact ⟨unhide HP, Or.inl ⟨by omega, by rw [hE]; simp⟩⟩
    · have HE : Hid (Rt.nameErr pls 1 (pls.drop 1) = 0) := by
        refine hide ?_
        rw [← unhide HT, List.drop_eq_nil_of_le (by omega), Rt.nameErr]
      have hlt' : ¬ (k : Int) < (pls.length : Int) := by omega
      clear hlv HT
      go_wp2_with fail
      refine (declared_any _ _ _ _ _ Rt.mainName hpr hlen).mono ?_
      rintro e w2 ⟨fv, rfl, ⟨pv, iv, vv, vs, rfl, b1, b2, b3, _⟩, hb2⟩
      obtain ⟨ad1, cap1, rfl⟩ := ownsRow_form b1
      obtain ⟨ad2, cap2, rfl⟩ := ownsRow_form b2
      obtain ⟨ad3, cap3, rfl⟩ := ownsRow_form b3
      have HP := hide (hbe.trans (hb2.mono (B' := w.heap.size) hsz))
      clear hpr hbe hb2 b1 b2 b3
      have hfl := Tryz.fieldF0 (Rt.declForm pls Rt.mainName).kind (.string (Rt.declForm pls Rt.mainName).name) (.int .i64 (Rt.declForm pls Rt.mainName).cells) (.slice ad1 (Rt.declForm pls Rt.mainName).params.length cap1) (.slice ad2 (Rt.declForm pls Rt.mainName).index.length cap2) (.slice ad3 (Rt.declForm pls Rt.mainName).values.length cap3)
      by_cases hm : (Rt.declForm pls Rt.mainName).kind = 3
      · have hm' : ((Rt.declForm pls Rt.mainName).kind != 3) = false := by simp [hm]
        have HM := hide hm
        clear hm
        go_wp2_with fail
        go_ret2
        exact ⟨unhide HP, Or.inr (Or.inr ⟨unhide HE, unhide HM, rfl⟩)⟩
      · have hm' : ((Rt.declForm pls Rt.mainName).kind != 3) = true := by simp [hm]
        have HM := hide hm
        clear hm
        go_wp2_with fail
        go_ret2
        exact ⟨unhide HP, Or.inr (Or.inl ⟨unhide HE, unhide HM, rfl⟩)⟩
def ReadL (s : ByteArray) (w : World) (e : Ending) (w' : World) : Prop :=
  Below w.heap.size w w' ∧ ∃ er ln pls, Rt.readS s = (er, ln, pls) ∧
    ((¬ er = 0 ∧ e = .returned (.tuple #[.agg #[noOps], .int .i64 er, .int .i64 ln])) ∨
     (er = 0 ∧ ln = 0 ∧ pls.length ≤ 101 ∧ ∃ lv cs, e = .returned (.tuple #[.agg #[lv], .int .i64 0, .int .i64 0]) ∧ w'.ownsRow w.heap.size 145 12 lv pls.length cs.flatten ∧ LinesV w' w.heap.size pls cs ∧ LkW w' lv (Rt.linksS s)))
theorem lk_zero {w : World} {P : Nat} {pls : List Rt.PL} {lv : Value} {cs : List (List Value)} (h : ProgS w P pls lv cs) (h0 : Lk0 cs) : LkW w lv (List.replicate pls.length (0, 0)) := by
  intro g n cap e i x hx
  have hi : i < pls.length := by
    by_cases hi : i < pls.length
    · exact hi
    · rw [List.getElem?_eq_none (by simp; omega)] at hx; cases hx
  rw [List.getElem?_eq_getElem (by simpa using hi)] at hx
  simp at hx
  subst hx
  have hs := split_at hi
  have hl : (pls.take i).length = i := by simp; omega
  have h2 := h.lines
  rw [hs] at h2
  obtain ⟨c1, c, c2, hcs, hfl, _, _, _⟩ := h2.part
  obtain ⟨k9, k10⟩ := h0 c (by rw [hcs]; simp)
  have hget : ∀ j u, c[j]? = some u → w.cell? ⟨g, i * 12 + j, none⟩ = some u := by
    intro j u hj
    have hf : cs.flatten[i * 12 + j]? = some u := by
      rw [hcs, List.flatten_append, List.getElem?_append_right (by omega), hfl, hl, Nat.add_sub_cancel_left, List.flatten_cons, List.getElem?_append_left (List.getElem?_eq_some_iff.1 hj).1]
      exact hj
    obtain ⟨g', cap', hlv', _, _, hc'⟩ := own_cell h.own hf
    rw [e] at hlv'
    simp at hlv'
    rw [hlv'.1]
    exact hc'
  exact ⟨hget 9 _ k9, hget 10 _ k10⟩
theorem block_later_below {w w' : World} {N B : Nat} {o : Obj} (h : w.heap[N]? = some o) (hb : Below B w w') (hN : N < B) : w'.heap[N]? = some o := by rw [hb.block N hN]; exact h
theorem tooLong_no {s : ByteArray} (h : Rt.tooLong s = false) : s.size ≤ 40000 ∧ (Rt.lines s).length ≤ 100 := by
  simp [Rt.tooLong] at h
  have := Rt.lines_len s
  omega
set_option maxHeartbeats 2000000 in
set_option maxRecDepth 100000 in
theorem read_link (s : ByteArray) (w : World) (hs : s.size ≤ maxLen) :
    Calls Tryz.prog 42 #[.string s] w (ReadL s w) := by
  have hb0 := (Below.refl w.heap.size w).alloc (Nat.le_refl _) (.cells #[noOps] 76)
  have hN0 := heap_alloc_new w (.cells #[noOps] 76)
  cases hl : Rt.tooLong s with
  | true =>
    have HE : Hid (Rt.readS s = (1, 0, [])) := hide (by unfold Rt.readS; rw [if_pos hl])
    have HB := hide hb0
    clear hb0 hN0
    go_enter Tryz.func42, Tryz.ntmps42
    go_wp2_with fail
    refine (tooLong_any s _ hs).mono ?_
    rintro e w1 ⟨rfl, rfl⟩
    rw [hl]
    clear hl
    go_wp2_with fail
    refine bodyPost_ret (v := .tuple #[.agg #[noOps], .int .i64 1, .int .i64 0]) ?_ rfl ⟨unhide HB, 1, 0, [], unhide HE, Or.inl ⟨by decide, rfl⟩⟩
    simp [results, Tryz.results42, go_sem]
  | false =>
    obtain ⟨hs1, hs2⟩ := tooLong_no hl
    have hb1 := hb0.alloc (by simp) (.cells #[noOps] 76)
    have hN1 := block_alloc hN0 (.cells #[noOps] 76)
    have hP1 := alloc2_plain w (.cells #[noOps] 76) (.cells #[noOps] 76)
    have HE1 := hide (show Rt.readS s = Rt.readForms (Rt.rForms 0 (Rt.lines s) [Rt.zPL]).1 (Rt.rForms 0 (Rt.lines s) [Rt.zPL]).2 (Rt.lines s).length by unfold Rt.readS; rw [if_neg (by rw [hl]; simp)])
    clear hb0 hN0
    go_enter Tryz.func42, Tryz.ntmps42
    go_wp2_with fail
    refine (tooLong_any s _ hs).mono ?_
    rintro e w1 ⟨rfl, rfl⟩
    rw [hl]
    clear hl
    go_wp2_with fail
    refine (readForms_any _ _ _ s hP1 hs1 hs2).mono ?_
    rintro e w2 ⟨hb2, (⟨hf, rfl, lv, cs, hpr, hlk0⟩ | ⟨hf, rfl, _⟩)⟩
    · have hN2 := block_later_below hN1 hb2 (by omega)
      have hbe2 := hb1.trans (hb2.mono (B' := w.heap.size) (by omega))
      have HE2 := hide ((unhide HE1).trans (show Rt.readForms (Rt.rForms 0 (Rt.lines s) [Rt.zPL]).1 (Rt.rForms 0 (Rt.lines s) [Rt.zPL]).2 (Rt.lines s).length = _ from if_neg (by rw [hf]; simp)))
      obtain ⟨hL1, hL2, rest, hL3⟩ := Rt.rForms_facts (Rt.lines s) 0 [Rt.zPL] (Rt.rForms 0 (Rt.lines s) [Rt.zPL]).2 (Rt.lines_facts hs1) (by simp [Rt.zPL]; exact Rt.small_plain _ _ _ (by omega)) (Prod.ext hf rfl)
      have HLS := hide (show Rt.linksS s = Rt.linksOf ((Rt.rForms 0 (Rt.lines s) [Rt.zPL]).2.drop 1) from rfl)
      have HLK0 := hide (lk_zero hpr hlk0)
      clear HE1 hb1 hN1 hP1 hb2 hf hlk0
      generalize (Rt.rForms 0 (Rt.lines s) [Rt.zPL]).2 = pls at *
      subst hL3
      simp only [List.singleton_append] at hpr hL2
      simp only [List.singleton_append, List.drop_one, List.tail_cons, List.length_cons] at HLS HLK0
      have hrl : rest.length = (Rt.lines s).length := by simp at hL1; omega
      have HE3 := hide (unhide HE2)
      simp only [List.singleton_append, List.drop_one, List.tail_cons] at HE3
      have hPlt := block_lt hpr.block
      have hlvg : ∀ k, lv.ownBlock = some k → w.heap.size + 1 < k := fun k hk => by have := (hpr.own.lt k hk).1; omega
      clear HE2
      go_wp2_with fail
      refine (nestBlocks_any _ _ _ _ _ _ hpr (by omega) _ (unhide HLK0) (by simp)).mono ?_
      rintro e w3 ⟨hg3, er, ls, bs, hne, hcase⟩
      have hN3 : w3.heap[w.heap.size]? = some (.cells #[noOps] 76 (0, 0)) := by
        rw [hg3.block w.heap.size (by omega) (fun e => by have := hlvg _ e.symm; omega)]
        exact hN2
      have hbe3 : Below w.heap.size w w3 := hbe2.trans ⟨hg3.os, hg3.tape, hg3.output, hg3.size, fun k hk => hg3.block k (by omega) (fun e => by have := hlvg _ e.symm; omega)⟩
      rw [hne] at HE3
      simp only at HE3
      have hsm := Rt.nest_facts rest 1 [] [Rt.zPL] ls bs (by simp [Rt.zPL]; exact Rt.small_plain _ _ _ (by omega)) (fun p hp => hL2 p (by simp [hp]))
      clear hN2 hbe2 hpr hg3
      rcases hcase with ⟨rfl, rfl, rfl, ⟨cs3, hpr3⟩, hlk3⟩ | ⟨rfl, hbs, rfl⟩ | ⟨her, rfl⟩
      · obtain ⟨hl3, hs3⟩ := hsm hne (by omega)
        have HE4 := hide ((unhide HE3).trans (show Rt.readNest 0 ls [] (Rt.lines s).length = Rt.readNames ls from rfl))
        clear HE3 hne hsm hL2
        have hlen3 : ls.length ≤ 101 := by simp at hl3; omega
        clear hl3 hrl hL1
        go_wp2_with fail
        refine (checkNames_any _ _ _ _ _ hpr3 hlen3 hs3).mono ?_
        have HLK3 := hide hlk3
        clear hlk3
        rintro e w4 ⟨hb4, (⟨h4, rfl⟩ | ⟨h4, h5, rfl⟩ | ⟨h4, h5, rfl⟩)⟩
        · have HE5 := hide ((unhide HE4).trans (show Rt.readNames ls = (4, (Rt.nameErr ls 1 (ls.drop 1) : Int), []) by unfold Rt.readNames; rw [if_pos h4]))
          have hN4 := block_later hN3 hb4
          have c0 := cell_of_block hN4 0 (by simp)
          have f0 := free_of_block hN4 0
          simp at c0
          have HB := hide ((hbe3.trans (hb4.mono (B' := w.heap.size) hbe3.size)).setCell (p := ⟨w.heap.size, 0, none⟩) (Nat.le_refl _) noOps)
          clear HE4 h4 hN3 hN4 hb4 hbe3 hpr3
          go_wp2_with fail
          refine bodyPost_ret (v := .tuple #[.agg #[noOps], .int .i64 4, .int .i64 _]) ?_ rfl ⟨unhide HB, _, _, _, unhide HE5, Or.inl ⟨by decide, rfl⟩⟩
          simp [results, Tryz.results42, go_sem, c0]
        · have HE5 := hide ((unhide HE4).trans (show Rt.readNames ls = (4, 0, []) by unfold Rt.readNames; rw [if_neg (by rw [h4]; simp), if_pos h5]))
          have hN4 := block_later hN3 hb4
          have c0 := cell_of_block hN4 0 (by simp)
          have f0 := free_of_block hN4 0
          simp at c0
          have HB := hide ((hbe3.trans (hb4.mono (B' := w.heap.size) hbe3.size)).setCell (p := ⟨w.heap.size, 0, none⟩) (Nat.le_refl _) noOps)
          clear HE4 h4 h5 hN3 hN4 hb4 hbe3 hpr3
          go_wp2_with fail
          refine bodyPost_ret (v := .tuple #[.agg #[noOps], .int .i64 4, .int .i64 0]) ?_ rfl ⟨unhide HB, _, _, _, unhide HE5, Or.inl ⟨by decide, rfl⟩⟩
          simp [results, Tryz.results42, go_sem, c0]
        · have HE5 := hide ((unhide HE4).trans (show Rt.readNames ls = (0, 0, ls) by unfold Rt.readNames; rw [if_neg (by rw [h4]; simp), if_neg (by rw [h5]; simp)]))
          have hpr4 := hpr3.later hb4
          have hN4 := block_later hN3 hb4
          have c0 := cell_of_block hN4 0 (by simp)
          have f0 := free_of_block hN4 0
          have cP := cell_of_block hpr4.block 0 (by simp)
          simp at c0 cP
          obtain ⟨adl, capl, rfl⟩ := ownsRow_form hpr4.own
          have hK : Keeps w4 (w4.setCell ⟨w.heap.size, 0, none⟩ (.slice adl ls.length capl)) (w.heap.size + 1 + 1) w.heap.size := fun t size n v xs _ hv => ownsRow_mono (ownsRow_setCell_below hv (by show w.heap.size < _; omega) _) (by omega)
          have HF := hide (And.intro (ownsRow_mono (b' := w.heap.size) (ownsRow_setCell_below hpr4.own (a := ⟨w.heap.size, 0, none⟩) (by show w.heap.size < _; omega) (.slice adl ls.length capl)) (by omega)) (hK.lines _ _ hpr4.lines))
          have HB := hide ((hbe3.trans (hb4.mono (B' := w.heap.size) hbe3.size)).setCell (p := ⟨w.heap.size, 0, none⟩) (Nat.le_refl _) (.slice adl ls.length capl))
          have HLK4 : Hid (LkW (w4.setCell ⟨w.heap.size, 0, none⟩ (.slice adl ls.length capl)) (.slice adl ls.length capl) (Rt.linksS s)) := by
            refine hide ?_
            rw [unhide HLS]
            refine ((unhide HLK3).later hpr3.own hb4).same (fun g hg => Below.heap_setCell w4 ⟨w.heap.size, 0, none⟩ _ g ?_)
            have := (hpr4.own.lt g hg).1
            show g ≠ w.heap.size
            omega
          clear HE4 h4 h5 hN3 hN4 hb4 hbe3 hpr3 hpr4 hK hlvg
          go_wp2_with fail
          refine bodyPost_ret (v := .tuple #[.agg #[.slice adl ls.length capl], .int .i64 0, .int .i64 0]) ?_ rfl ⟨unhide HB, _, _, _, unhide HE5, Or.inr ⟨rfl, rfl, hlen3, _, _, rfl, (unhide HF).1, (unhide HF).2, unhide HLK4⟩⟩
          simp [results, Tryz.results42, go_sem, c0]
      · have HE4 := hide ((unhide HE3).trans (show Rt.readNest 0 ls bs (Rt.lines s).length = (3, ((Rt.lines s).length : Int), []) by unfold Rt.readNest; rw [if_neg (by simp), if_pos hbs]))
        have c0 := cell_of_block hN3 0 (by simp)
        have f0 := free_of_block hN3 0
        simp at c0
        have HB := hide (hbe3.setCell (p := ⟨w.heap.size, 0, none⟩) (Nat.le_refl _) noOps)
        have HR := hide hrl
        clear HE3 hN3 hbe3 hsm hne hL2 hbs hrl
        go_wp2_with fail
        refine bodyPost_ret (v := .tuple #[.agg #[noOps], .int .i64 3, .int .i64 rest.length]) ?_ rfl ⟨unhide HB, _, _, _, unhide HE4, Or.inl ⟨by decide, by rw [unhide HR]⟩⟩
        simp [results, Tryz.results42, go_sem, c0]
      · have HE4 := hide ((unhide HE3).trans (show Rt.readNest er ls bs (Rt.lines s).length = (3, (er : Int), []) by unfold Rt.readNest; rw [if_pos her]))
        have c0 := cell_of_block hN3 0 (by simp)
        have f0 := free_of_block hN3 0
        simp at c0
        have HB := hide (hbe3.setCell (p := ⟨w.heap.size, 0, none⟩) (Nat.le_refl _) noOps)
        clear HE3 hN3 hbe3 hsm hne hL2 her
        go_wp2_with fail
        refine bodyPost_ret (v := .tuple #[.agg #[noOps], .int .i64 3, .int .i64 er]) ?_ rfl ⟨unhide HB, _, _, _, unhide HE4, Or.inl ⟨by decide, rfl⟩⟩
        simp [results, Tryz.results42, go_sem, c0]
    · have hN2 := block_later_below hN1 hb2 (by omega)
      have HE2 := hide ((unhide HE1).trans (show Rt.readForms (Rt.rForms 0 (Rt.lines s) [Rt.zPL]).1 (Rt.rForms 0 (Rt.lines s) [Rt.zPL]).2 (Rt.lines s).length = _ from if_pos hf))
      have c0 := cell_of_block hN2 0 (by simp)
      have f0 := free_of_block hN2 0
      simp at c0
      have HB := hide ((hb1.trans (hb2.mono (B' := w.heap.size) (by omega))).setCell (p := ⟨w.heap.size, 0, none⟩) (Nat.le_refl _) noOps)
      clear HE1 hb1 hN1 hP1 hb2 hf hN2
      generalize (Rt.rForms 0 (Rt.lines s) [Rt.zPL]).1 = ln at *
      go_wp2_with fail
      refine bodyPost_ret (v := .tuple #[.agg #[noOps], .int .i64 2, .int .i64 ln]) ?_ rfl ⟨unhide HB, _, _, _, unhide HE2, Or.inl ⟨by decide, rfl⟩⟩
      simp [results, Tryz.results42, go_sem, c0]
namespace Rt
def parNo (i : Nat) : List ByteArray → ByteArray → Int
  | [], _ => -1
  | p :: r, x => if p = x then (i : Int) else parNo (i + 1) r x
def lnAt (pls : List PL) (n : Int) : PL := if n < 0 then zPL else (pls[n.toNat]?).getD zPL
def lkAt (lk : Lks) (n : Int) : Int × Int := if n < 0 then (0, 0) else (lk[n.toNat]?).getD (0, 0)
def goOn (pls : List PL) (lk : Lks) : Nat → Int → Int
  | 0, _ => 0
  | f + 1, n =>
    if 0 < n ∧ n < pls.length then
      if isStopP pls (lnAt pls n) = true then n
      else if (lnAt pls n).form.kind = 4 ∧ (formAt pls (lnAt pls n).opener).kind = 7 then (lnAt pls n).opener
      else if (lnAt pls n).form.kind = 6 then goOn pls lk f (wrap64 ((lkAt lk (lnAt pls n).opener).2 + 1))
      else goOn pls lk f (wrap64 (n + 1))
    else 0
def otherwise (lk : Lks) (n : Int) : Int := if 0 < (lkAt lk n).1 then wrap64 ((lkAt lk n).1 + 1) else wrap64 ((lkAt lk n).2 + 1)
structure Fm where
  params : List Int
  call : Int
structure Mc where
  frames : List Fm
  values : List (List Int)
  taken : Int
  output : List Int
  line : Int
  fin : Int
structure Src where
  pls : List PL
  lk : Lks
  input : List Int
structure Spot where
  line : Int
  cell : Int
def noFm : Fm := ⟨[], 0⟩
def cellsOf (m : Mc) (l : Int) : List Int :=
  if 0 < l ∧ l < m.values.length then (m.values[l.toNat]?).getD []
  else if l = 0 ∧ 0 < m.frames.length then (m.frames.getLastD noFm).params
  else []
def hasS (m : Mc) (s : Spot) : Bool := decide (0 ≤ s.cell ∧ s.cell < (cellsOf m s.line).length)
def getS (m : Mc) (s : Spot) : Int := if s.cell < 0 then 0 else ((cellsOf m s.line)[s.cell.toNat]?).getD 0
def putS (m : Mc) (s : Spot) (v : Int) : Mc :=
  if hasS m s = true then
    if 0 < s.line then { m with values := m.values.modify s.line.toNat (fun c => c.set s.cell.toNat v) }
    else { m with frames := m.frames.modify (m.frames.length - 1) (fun f => ⟨f.params.set s.cell.toNat v, f.call⟩) }
  else m
def procOf (S : Src) (m : Mc) : Int := (lnAt S.pls m.line).proc
def varS (S : Src) (m : Mc) (x : ByteArray) : Spot :=
  let i := parNo 0 (formAt S.pls (procOf S m)).params x
  if 0 ≤ i then ⟨0, i⟩ else ⟨declP S.pls x, 0⟩
def cellS (S : Src) (m : Mc) (x : ByteArray) (n : Int) : Option Spot :=
  if hasS m ⟨declP S.pls x, n⟩ = true then some ⟨declP S.pls x, n⟩ else none
def truthI (b : Bool) : Int := if b then 1 else 0
def combineI (code l r : Int) : Int × Int :=
  if code = 5 then (wrap64 (l + r), 0)
  else if code = 6 then (wrap64 (l - r), 0)
  else if code = 7 then (wrap64 (l * r), 0)
  else if code = 10 then (truthI (decide (l < r)), 0)
  else if code = 11 then (truthI (decide (l = r)), 0)
  else if r = 0 then (0, 2)
  else if code = 8 then (wrap64 (l.tdiv r), 0)
  else (l.tmod r, 0)
def workI (S : Src) (m : Mc) (st : List Int) (o : Pop) : List Int × Int :=
  if o.code = 1 then (st ++ [o.number], 0)
  else if o.code = 2 then (st ++ [getS m (varS S m o.name)], 0)
  else if o.code = 3 then
    match cellS S m o.name (st.getLastD 0) with
    | none => (st.dropLast, 3)
    | some s => (st.dropLast ++ [getS m s], 0)
  else if o.code = 4 then (st.dropLast ++ [wrap64 (-(st.getLastD 0))], 0)
  else
    let r := st.getLastD 0
    let st1 := st.dropLast
    let l := st1.getLastD 0
    let st2 := st1.dropLast
    if (combineI o.code l r).2 = 0 then (st2 ++ [(combineI o.code l r).1], 0) else (st2, (combineI o.code l r).2)
def evalI (S : Src) (m : Mc) : List Pop → List Int → Int × Int
  | [], st => (st.getLastD 0, 0)
  | o :: r, st => if (workI S m st o).2 = 0 then evalI S m r (workI S m st o).1 else (0, (workI S m st o).2)
def evalE (S : Src) (m : Mc) (e : List Pop) : Int × Int := evalI S m e []
def valueF (S : Src) (m : Mc) (f : PForm) : Int × Int := match f.values with
  | [] => (0, 0)
  | e :: _ => evalE S m e
structure Rec where
  kind : Int
  line : Int
  at_ : Spot
  value : Int
def recCells (r : Rec) : List Value := [.int .i64 r.kind, .int .i64 r.line, .int .i64 r.at_.line, .int .i64 r.at_.cell, .int .i64 r.value]
def stay (n : Int) : Rec := ⟨1, n, ⟨0, 0⟩, 0⟩
structure Out where
  fin : Int
  next : Int
  recs : List Rec
  m : Mc
def stored (m : Mc) (s : Spot) : Rec := ⟨4, 0, s, getS m s⟩
def argsI (S : Src) (m : Mc) : List (List Pop) → List Int → List Int × Int
  | [], acc => (acc, 0)
  | e :: r, acc => if (evalE S m e).2 = 0 then argsI S m r (acc ++ [(evalE S m e).1]) else (acc, (evalE S m e).2)
def ended (m : Mc) (t : Int) : Out := ⟨t, 0, [], m⟩
def perform (S : Src) (m : Mc) (f : PForm) : Out :=
  let v := valueF S m f
  let nx := wrap64 (m.line + 1)
  if f.kind = 8 then
    if v.2 = 0 then ⟨0, nx, [stay m.line, stored m (varS S m f.name)], putS m (varS S m f.name) v.1⟩ else ended m v.2
  else if f.kind = 9 then
    if (evalE S m f.index).2 = 0 then
      if v.2 = 0 then
        match cellS S m f.name (evalE S m f.index).1 with
        | none => ended m 3
        | some s => ⟨0, nx, [stay m.line, stored m s], putS m s v.1⟩
      else ended m v.2
    else ended m (evalE S m f.index).2
  else if f.kind = 10 then
    if v.2 = 0 then
      if 50 ≤ m.output.length then ended m 6 else ⟨0, nx, [stay m.line, ⟨5, 0, ⟨0, 0⟩, 0⟩], { m with output := m.output ++ [v.1] }⟩
    else ended m v.2
  else if f.kind = 11 then
    if m.taken < 0 ∨ S.input.length ≤ m.taken then ended m 4
    else ⟨0, nx, [stay m.line, stored m (varS S m f.name), ⟨6, 0, ⟨0, 0⟩, 0⟩], { putS m (varS S m f.name) ((S.input[m.taken.toNat]?).getD 0) with taken := wrap64 (m.taken + 1) }⟩
  else if f.kind = 5 ∨ f.kind = 7 then
    if v.2 = 0 then ⟨0, if v.1 = 0 then otherwise S.lk m.line else nx, [stay m.line], m⟩ else ended m v.2
  else if f.kind = 12 then
    if (argsI S m f.values []).2 = 0 then
      if 6 ≤ m.frames.length then ended m 5
      else ⟨0, wrap64 (declP S.pls f.name + 1), [⟨2, m.line, ⟨0, 0⟩, 0⟩], { m with frames := m.frames ++ [⟨(argsI S m f.values []).1, m.line⟩] }⟩
    else ended m (argsI S m f.values []).2
  else if m.frames.length < 2 then ended m 1
  else
    let g := m.frames.getLastD noFm
    ⟨0, wrap64 (g.call + 1), ⟨3, m.line, ⟨0, 0⟩, g.call⟩ :: g.params.map (fun v => ⟨7, 0, ⟨0, 0⟩, v⟩), { m with frames := m.frames.dropLast }⟩
def stepM (S : Src) (m : Mc) : Mc × List Rec :=
  if m.fin = 0 then
    let o := perform S m (formAt S.pls m.line)
    if o.fin = 0 then ({ o.m with line := goOn S.pls S.lk 102 o.next }, o.recs)
    else ({ m with fin := o.fin }, [stay m.line])
  else (m, [])
def zerosI (f : PForm) : List Int := List.replicate (if f.kind = 1 then 1 else f.cells.toNat) 0
def firstM (S : Src) : Mc := ⟨[noFm], S.pls.map (fun p => zerosI p.form), 0, [], goOn S.pls S.lk 102 (wrap64 (declP S.pls mainName + 1)), 0⟩
end Rt
end Go.Proofs.YthleadfkfnnadaaGreat
