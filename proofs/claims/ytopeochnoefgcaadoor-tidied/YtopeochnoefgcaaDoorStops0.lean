/- The walks of isStop and Stops. -/
import Derived.Test.YtopeochnoefgcaaDoorNames5
namespace Go.Proofs.YtopeochnoefgcaaDoor
open Go.RowKit


set_option maxHeartbeats 2000000 in
set_option maxRecDepth 100000 in
theorem isStop_any (w : World) (P : Nat) (pls : List Rt.PL) (lv : Value) (cs : List (List Value)) (n : Int) (h : ProgS w P pls lv cs) :
    Calls Tryd.prog 24 #[.pointer (some ⟨P, 0, none⟩), .int .i64 n] w fun e w' => e = .returned (.bool (Rt.isStopP pls (Rt.lineAtP pls n))) ∧ Below w.heap.size w w' := by
  go_enter Tryd.func24, Tryd.ntmps24
  go_wp2_with fail
  refine (Line_any _ _ _ _ _ n h).mono ?_
  rintro e w1 ⟨a0, a1, a2, a3, c0, c1, c2, c3, xe, xf, rfl, _, _, hb1⟩
  generalize HPL : Rt.lineAtP pls n = pl at *
  replace HPL := hide HPL
  have hb0 := hb1.alloc hb1.size (.cells #[.slice a0 pl.toks.length c0, .int .i64 pl.form.kind, .string pl.form.name, .int .i64 pl.form.cells, .slice a1 pl.form.params.length c1, .slice a2 pl.form.index.length c2, .slice a3 pl.form.values.length c3, .int .i64 pl.depth, .int .i64 pl.opener, .int .i64 xe, .int .i64 xf, .int .i64 pl.proc] 64)
  have h0 := h.later hb0
  have hsz0 := hb0.size
  clear h hb1
  cases hs : Rt.stopKind pl.form.kind with
  | true =>
    have HE := hide (show Rt.isStopP pls pl = true by simp [Rt.isStopP, hs])
    have HB := hide hb0
    have hs' : pl.form.kind = 8 ∨ pl.form.kind = 9 ∨ pl.form.kind = 10 ∨ pl.form.kind = 11 ∨ pl.form.kind = 5 ∨ pl.form.kind = 7 ∨ pl.form.kind = 12 ∨ pl.form.kind = 13 := by
      simp [Rt.stopKind] at hs
      omega
    clear hs h0 hb0 hsz0
    generalize pl.form.kind = kx at *
    rcases hs' with rfl | rfl | rfl | rfl | rfl | rfl | rfl | rfl
    all_goals
      go_wp2_with fail
      go_ret
      exact ⟨by rw [unhide HPL, unhide HE] <;> rfl, unhide HB⟩
  | false =>
    have hs' : ¬ pl.form.kind = 8 ∧ ¬ pl.form.kind = 9 ∧ ¬ pl.form.kind = 10 ∧ ¬ pl.form.kind = 11 ∧ ¬ pl.form.kind = 5 ∧ ¬ pl.form.kind = 7 ∧ ¬ pl.form.kind = 12 ∧ ¬ pl.form.kind = 13 := by
      simp [Rt.stopKind] at hs
      omega
    obtain ⟨n8, n9, n10, n11, n5, n7, n12, n13⟩ := hs'
    have b8 : (pl.form.kind == 8) = false := by simpa using n8
    have b9 : (pl.form.kind == 9) = false := by simpa using n9
    have b10 : (pl.form.kind == 10) = false := by simpa using n10
    have b11 : (pl.form.kind == 11) = false := by simpa using n11
    have b5 : (pl.form.kind == 5) = false := by simpa using n5
    have b7 : (pl.form.kind == 7) = false := by simpa using n7
    have b12 : (pl.form.kind == 12) = false := by simpa using n12
    have b13 : (pl.form.kind == 13) = false := by simpa using n13
    clear n8 n9 n10 n11 n5 n7 n12 n13
    by_cases n4 : pl.form.kind = 4
    · have b4 : (pl.form.kind == 4) = true := by simpa using n4
      have HE := hide (show Rt.isStopP pls pl = decide ((Rt.formAt pls pl.opener).kind = 3) by unfold Rt.isStopP; rw [if_neg (by rw [hs]; simp), if_pos n4])
      clear hs n4
      go_wp2_with fail
      refine (Line_any _ _ _ _ _ pl.opener h0).mono ?_
      rintro e w2 ⟨ad0, ad1, ad2, ad3, cap0, cap1, cap2, cap3, ye, yf, rfl, _, _, hb2⟩
      rw [Rt.lineAtP_form]
      generalize (Rt.lineAtP pls pl.opener).depth = dp at *
      generalize (Rt.lineAtP pls pl.opener).opener = opn at *
      generalize (Rt.lineAtP pls pl.opener).proc = pr at *
      generalize (Rt.lineAtP pls pl.opener).toks.length = tl at *
      have HB := hide (hb0.trans (hb2.mono (B' := w.heap.size) hsz0))
      clear h0 hb0 hb2
      generalize (Rt.formAt pls pl.opener) = fo at *
      have hf1 := Tryd.fieldL1 ad0 tl cap0 fo.kind fo.name fo.cells ad1 fo.params.length cap1 ad2 fo.index.length cap2 ad3 fo.values.length cap3 dp opn ye yf pr
      have hfl := Tryd.fieldF0 fo.kind (.string fo.name) (.int .i64 fo.cells) (.slice ad1 fo.params.length cap1) (.slice ad2 fo.index.length cap2) (.slice ad3 fo.values.length cap3)
      go_wp2_with fail
      go_ret
      exact ⟨by rw [unhide HPL, unhide HE]; exact ret_bool (by rw [beq_eq_decide]), unhide HB⟩
    · have b4 : (pl.form.kind == 4) = false := by simpa using n4
      have HE := hide (show Rt.isStopP pls pl = false by unfold Rt.isStopP; rw [if_neg (by rw [hs]; simp), if_neg n4])
      have HB := hide hb0
      clear hs n4 h0 hb0 hsz0
      go_wp2_with fail
      go_ret
      exact ⟨by rw [unhide HPL, unhide HE] <;> rfl, unhide HB⟩

/-- The program stays while a row of ints grows. -/
theorem prog_grown {w w1 : World} {o : Obj} {P : Nat} {pls : List Rt.PL} {lv : Value} {cs : List (List Value)} {row : Option Nat} {t : TypeId} (h : ProgS w P pls lv cs) (hg : (w.alloc o).grownBy w1 row) (hrow : ∀ x, row = some x → ∃ c, w.heap[x]? = some (.cells c t (0, 0)))
    (ht : t ≠ 41 ∧ t ≠ 64 ∧ t ≠ 81 ∧ t ≠ 9 ∧ t ≠ 124 ∧ t ≠ 59) : ProgS w1 P pls lv cs := by
  obtain ⟨t1, t2, t3, t4, t5, t6⟩ := ht
  have hblk : ∀ (k : Nat) (x : Obj), w.heap[k]? = some x → (∀ c, x ≠ .cells c t (0, 0)) → w1.heap[k]? = some x := by
    intro k x hk hx
    refine grown_keep hg hk (fun e => ?_)
    obtain ⟨c, hc⟩ := hrow k e
    rw [hk] at hc
    simp at hc
    exact hx c hc
  have hr : ∀ (B : Nat) (t' : TypeId) (size n : Nat) (v : Value) (xs : List Value), t' ≠ t → w.ownsRow B t' size v n xs → w1.ownsRow B t' size v n xs := by
    intro B t' size n v xs hne hv
    obtain ⟨h1, h2⟩ := hv
    refine ⟨h1, ?_⟩
    rcases h2 with h2 | ⟨g, cap, cur, hv', hg', hh, rr⟩
    · exact Or.inl h2
    · exact Or.inr ⟨g, cap, cur, hv', hg', hblk g _ hh (fun c e => by simp at e; exact hne e.2), rr⟩
  have hform : ∀ {v : Array Value} {fm : Rt.PForm}, FormV w (P + 1) v fm → FormV w1 (P + 1) v fm := by
    intro v fm hf
    obtain ⟨pv, iv, vv, vs, rfl, h1, h2, h3, h4⟩ := hf
    exact ⟨pv, iv, vv, vs, rfl, hr _ _ _ _ _ _ (Ne.symm t4) h1, hr _ _ _ _ _ _ (Ne.symm t5) h2, hr _ _ _ _ _ _ (Ne.symm t6) h3, ExprsR.map (fun x o hh => hr _ _ _ _ _ _ (Ne.symm t5) hh) _ _ h4⟩
  have hlines : ∀ ps cs, LinesV w (P + 1) ps cs → LinesV w1 (P + 1) ps cs := by
    intro ps
    induction ps with
    | nil => intro cs h; cases cs with
      | nil => trivial
      | cons _ _ => exact h.elim
    | cons p ps ih => intro cs h; cases cs with
      | nil => exact h.elim
      | cons c cs =>
        obtain ⟨⟨tv, fv, xe, xf, e, g1, g2⟩, h2⟩ := h
        exact ⟨⟨tv, fv, xe, xf, e, hr _ _ _ _ _ _ (Ne.symm t3) g1, hform g2⟩, ih cs h2⟩
  exact ⟨hblk P _ h.block (fun c e => by simp at e; exact t1 e.2.symm), hr _ _ _ _ _ _ (Ne.symm t2) h.own, hlines _ _ h.lines⟩

theorem Tryd.infoIntP : (Tryd.prog.info? 3).map (fun i => (i.zero, i.size, i.bytes)) = some (some (.int .i64 0), 1, 8) := by kernel_rfl

set_option maxHeartbeats 2000000 in
set_option maxRecDepth 100000 in
theorem progStops_any (w : World) (P : Nat) (pls : List Rt.PL) (lv : Value) (cs : List (List Value)) (h : ProgS w P pls lv cs) (hlen : pls.length ≤ 101) :
    Calls Tryd.prog 15 #[.pointer (some ⟨P, 0, none⟩)] w fun e w' => Below w.heap.size w w' ∧ ∃ v, e = .returned v ∧ w'.ownsRow w.heap.size 3 1 v (Rt.stopsP pls).length ((Rt.stopsP pls).map (Value.int .i64)) := by
  obtain ⟨i0, hi0, hz0, hz1, hz2⟩ := info_parts Tryd.infoIntP
  have hPlt := block_lt h.block
  go_enter Tryd.func15, Tryd.ntmps15
  go_wp2_with fail
  go_loopw [3, 4] (fun v i wr => ∃ (k : Nat) (acc : List Int), 1 ≤ k ∧ k ≤ pls.length + 1 ∧ i = .int .i64 k ∧ acc.length ≤ k ∧ Rt.stopsFrom pls k (pls.drop k) acc = Rt.stopsP pls ∧ ProgS wr P pls lv cs ∧ wr.ownsRow w.heap.size 3 1 v acc.length (acc.map (Value.int .i64)) ∧ Below w.heap.size w wr)
    (fun _ i _ => pls.length + 1 - (intOf i).toNat)
  case atStart => exact ⟨1, [], Nat.le_refl _, by omega, rfl, by simp, rfl, h, World.ownsRow_nil _ _ _ _, Below.refl _ _⟩
  case round =>
    clear h
    obtain ⟨k, acc, hk1, hk, rfl, hacc, hT, hpr, hown, hbe⟩ := hrel
    have HT := hide hT
    clear hT
    have hsz := hbe.size
    obtain ⟨adl, capl, hlv, cP⟩ := hpr.lvForm
    obtain ⟨adv, capv, rfl⟩ := ownsRow_form hown
    by_cases hlt : k < pls.length
    · have hlt' : (k : Int) < (pls.length : Int) := by omega
      have hk0 : (0 : Int) ≤ (k : Int) := by omega
      have HP := hide (Rt.lineAtP_in hlt)
      have HN : Hid (Rt.stopsFrom pls (k + 1) (pls.drop (k + 1)) (if Rt.isStopP pls pls[k] = true then acc ++ [(k : Int)] else acc) = Rt.stopsP pls) := by
        refine hide ?_
        rw [← unhide HT, List.drop_eq_getElem_cons hlt, Rt.stopsFrom]
      clear hlv HT
      generalize pls[k] = p at *
      go_wp2_with fail
      refine (isStop_any _ _ _ _ _ (k : Int) hpr).mono ?_
      rintro e w2 ⟨rfl, hb2⟩
      rw [unhide HP]
      have hpr2 := hpr.later hb2
      have hown2 := own_later hown hb2
      have hbe2 := hbe.trans (hb2.mono (B' := w.heap.size) hsz)
      have hsz2 := hbe2.size
      clear hpr hown hbe hb2
      cases hv : Rt.isStopP pls p with
      | true =>
        rw [hv] at HN
        clear hv
        go_wp2_with (at_builtin; refine wpList_append_own _ rfl _ _ 22 rfl w.heap.size 3 i0 _ 1 8 Tryd.underlying22 hi0 hz0 hz1 hz2 rfl (by decide) _ _ _ rfl (hown2.alloc _) ⟨_, 0, none⟩ 1 1 [.int .i64 k] rfl rfl (cell_one_new _ _ _) ?c2 ?c3 ?c4 ?c5 ?_)
        case c2 => intro u hu; simp at hu; rcases hu with rfl; rfl
        case c3 => unfold maxLen; omega
        case c4 => omega
        case c5 => simp; omega
        intro v' w3 hown3 hgrow _
        have hbe3 := below_append hbe2 hsz2 hown2 hgrow
        have hpr3 : ProgS w3 P pls lv cs := prog_grown (t := 3) hpr2 hgrow (fun x hx => by
          rcases hown2.2 with ⟨h', _⟩ | ⟨g', _, cur, h', _, hh, _⟩
          · rw [h'] at hx; cases hx
          · rw [h'] at hx; simp [Value.ownBlock] at hx; subst hx; exact ⟨_, hh⟩) (by decide)
        have HF := hide (And.intro hpr3 (And.intro hown3 hbe3))
        clear hpr3 hown3 hbe3 hgrow hpr2 hown2 hbe2
        go_wp2_with fail
        go_roundw
        case rel =>
          obtain ⟨q1, q2, q3⟩ := unhide HF
          exact ⟨k + 1, acc ++ [(k : Int)], by omega, by omega, by go_num, by simp; omega, by have := unhide HN; simpa using this, q1, by simpa using q2, q3⟩
        case measure => simp [intOf]; omega
      | false =>
        rw [hv] at HN
        clear hv
        have HF := hide (And.intro hpr2 (And.intro hown2 hbe2))
        clear hpr2 hown2 hbe2
        go_wp2_with fail
        go_roundw
        case rel =>
          obtain ⟨q1, q2, q3⟩ := unhide HF
          exact ⟨k + 1, acc, by omega, by omega, by go_num, by omega, by have := unhide HN; simpa using this, q1, q2, q3⟩
        case measure => simp [intOf]; omega
    · have hlt' : ¬ (k : Int) < (pls.length : Int) := by omega
      have HE : Hid (acc = Rt.stopsP pls) := by
        refine hide ?_
        have := unhide HT
        rw [List.drop_eq_nil_of_le (by omega), Rt.stopsFrom] at this
        exact this
      have HF := hide (And.intro hown hbe)
      clear hpr hown hbe HT hlv
      go_wp2_with fail
      go_ret
      exact ⟨(unhide HF).2, _, rfl, by rw [← unhide HE]; exact (unhide HF).1⟩

end Go.Proofs.YtopeochnoefgcaaDoor

namespace Go.Proofs.YtopeochnoefgcaaDoor
open Go.RowKit

structure ProgR (w : World) (P B : Nat) (pls : List Rt.PL) (lv : Value) (cs : List (List Value)) : Prop where
  block : w.heap[P]? = some (.cells #[lv] 41 (0, 0))
  own : w.ownsRow B 64 12 lv pls.length cs.flatten
  lines : LinesV w B pls cs
theorem ProgR.later {w w' : World} {P B : Nat} {pls : List Rt.PL} {lv : Value} {cs : List (List Value)} (h : ProgR w P B pls lv cs) (hb : Below w.heap.size w w') : ProgR w' P B pls lv cs :=
  ⟨block_later h.block hb, own_later h.own hb, (keeps_later hb).lines _ _ h.lines⟩

/-- A line of the program, read. -/
theorem ProgR.get {w : World} {P B : Nat} {acc : List Rt.PL} {p : Rt.PL} {r : List Rt.PL} {lv : Value} {cs : List (List Value)} (h : ProgR w P B (acc ++ p :: r) lv cs) :
    ∃ g cap a0 a1 a2 a3 c0 c1 c2 c3 xe xf, lv = .slice (some ⟨g, 0, none⟩) (acc ++ p :: r).length cap ∧ g < w.heap.size ∧
      Ten w g (acc.length * 12) (.slice a0 p.toks.length c0) (.int .i64 p.form.kind) (.string p.form.name) (.int .i64 p.form.cells) (.slice a1 p.form.params.length c1) (.slice a2 p.form.index.length c2) (.slice a3 p.form.values.length c3) (.int .i64 p.depth) (.int .i64 p.opener) (.int .i64 xe) (.int .i64 xf) (.int .i64 p.proc) ∧ TenF w g (acc.length * 12) ∧
      w.ownsRow B 81 2 (.slice a0 p.toks.length c0) p.toks.length (Rt.toksCells p.toks) ∧
      FormV w B #[.int .i64 p.form.kind, .string p.form.name, .int .i64 p.form.cells, .slice a1 p.form.params.length c1, .slice a2 p.form.index.length c2, .slice a3 p.form.values.length c3] p.form := by
  obtain ⟨c1, c, c2, hcs, hl, _, hc, _⟩ := h.lines.part
  obtain ⟨tv, fv, xe, xf, hcc, ht, hf⟩ := hc
  have hf2 := hf
  obtain ⟨pv, iv, vv, vs, hfv, b1, b2, b3, _⟩ := hf
  obtain ⟨a0, k0, rfl⟩ := ownsRow_form ht
  obtain ⟨a1, k1, rfl⟩ := ownsRow_form b1
  obtain ⟨a2, k2, rfl⟩ := ownsRow_form b2
  obtain ⟨a3, k3, rfl⟩ := ownsRow_form b3
  subst hfv
  have hget : ∀ j u, c[j]? = some u → cs.flatten[acc.length * 12 + j]? = some u := by
    intro j u hj
    rw [hcs, List.flatten_append, List.getElem?_append_right (by omega), hl, Nat.add_sub_cancel_left, List.flatten_cons, List.getElem?_append_left (List.getElem?_eq_some_iff.1 hj).1]
    exact hj
  have hown := h.own
  obtain ⟨g, cap, hlv, hg, hglt, _⟩ := own_cell hown (hget 0 _ (by rw [hcc]; rfl))
  have hcell : ∀ j u, c[j]? = some u → w.cell? ⟨g, acc.length * 12 + j, none⟩ = some u := by
    intro j u hj
    obtain ⟨g', cap', hlv', _, _, hc'⟩ := own_cell hown (hget j u hj)
    rw [hlv] at hlv'
    simp at hlv'
    rw [hlv'.1]
    exact hc'
  have hfz : ∀ j, w.frozen? ⟨g, j, none⟩ = false := by
    intro j
    rw [hlv] at hown
    exact hown.frozenAt j
  refine ⟨g, cap, a0, a1, a2, a3, k0, k1, k2, k3, xe, xf, hlv, hglt, ⟨?_, ?_, ?_, ?_, ?_, ?_, ?_, ?_, ?_, ?_, ?_, ?_⟩, ⟨hfz _, hfz _, hfz _, hfz _, hfz _, hfz _, hfz _, hfz _, hfz _, hfz _, hfz _, hfz _⟩, ht, hf2⟩
  · exact hcell 0 _ (by rw [hcc]; rfl)
  · exact hcell 1 _ (by rw [hcc]; rfl)
  · exact hcell 2 _ (by rw [hcc]; rfl)
  · exact hcell 3 _ (by rw [hcc]; rfl)
  · exact hcell 4 _ (by rw [hcc]; rfl)
  · exact hcell 5 _ (by rw [hcc]; rfl)
  · exact hcell 6 _ (by rw [hcc]; rfl)
  · exact hcell 7 _ (by rw [hcc]; rfl)
  · exact hcell 8 _ (by rw [hcc]; rfl)
  · exact hcell 9 _ (by rw [hcc]; rfl)
  · exact hcell 10 _ (by rw [hcc]; rfl)
  · exact hcell 11 _ (by rw [hcc]; rfl)

/-- A line of the program, read at its number. -/
theorem ProgR.at {w : World} {P B : Nat} {pls : List Rt.PL} {lv : Value} {cs : List (List Value)} (h : ProgR w P B pls lv cs) {i : Nat} (hi : i < pls.length) :
    ∃ g cap a0 a1 a2 a3 c0 c1 c2 c3 xe xf, lv = .slice (some ⟨g, 0, none⟩) pls.length cap ∧ g < w.heap.size ∧
      Ten w g (i * 12) (.slice a0 pls[i].toks.length c0) (.int .i64 pls[i].form.kind) (.string pls[i].form.name) (.int .i64 pls[i].form.cells) (.slice a1 pls[i].form.params.length c1) (.slice a2 pls[i].form.index.length c2) (.slice a3 pls[i].form.values.length c3) (.int .i64 pls[i].depth) (.int .i64 pls[i].opener) (.int .i64 xe) (.int .i64 xf) (.int .i64 pls[i].proc) ∧
      w.ownsRow B 81 2 (.slice a0 pls[i].toks.length c0) pls[i].toks.length (Rt.toksCells pls[i].toks) ∧
      FormV w B #[.int .i64 pls[i].form.kind, .string pls[i].form.name, .int .i64 pls[i].form.cells, .slice a1 pls[i].form.params.length c1, .slice a2 pls[i].form.index.length c2, .slice a3 pls[i].form.values.length c3] pls[i].form := by
  have hs := split_at hi
  have hl : (pls.take i).length = i := by simp; omega
  have h2 := h
  rw [hs] at h2
  obtain ⟨g, cap, a0, a1, a2, a3, c0, c1, c2, c3, xe, xf, hlv, h4, h5, _, h6, h7⟩ := h2.get
  rw [← hs] at hlv
  rw [hl] at h5
  exact ⟨g, cap, a0, a1, a2, a3, c0, c1, c2, c3, xe, xf, hlv, h4, h5, h6, h7⟩

theorem ProgR.lvForm {w : World} {P B : Nat} {pls : List Rt.PL} {lv : Value} {cs : List (List Value)} (h : ProgR w P B pls lv cs) : ∃ ad cap, lv = .slice ad pls.length cap ∧ w.cell? ⟨P, 0, none⟩ = some (.slice ad pls.length cap) := by
  obtain ⟨ad, cap, rfl⟩ := ownsRow_form h.own
  exact ⟨ad, cap, rfl, cell_of_block h.block 0 (by simp)⟩

/-- A function that hands back a line. -/
def PLinePR (B : Nat) (pl : Rt.PL) (w : World) (e : Ending) (w' : World) : Prop := ∃ a0 a1 a2 a3 c0 c1 c2 c3 xe xf, e = .returned (.agg #[.slice a0 pl.toks.length c0, .int .i64 pl.form.kind, .string pl.form.name, .int .i64 pl.form.cells, .slice a1 pl.form.params.length c1, .slice a2 pl.form.index.length c2, .slice a3 pl.form.values.length c3, .int .i64 pl.depth, .int .i64 pl.opener, .int .i64 xe, .int .i64 xf, .int .i64 pl.proc]) ∧ w'.ownsRow B 81 2 (.slice a0 pl.toks.length c0) pl.toks.length (Rt.toksCells pl.toks) ∧ FormV w' B #[.int .i64 pl.form.kind, .string pl.form.name, .int .i64 pl.form.cells, .slice a1 pl.form.params.length c1, .slice a2 pl.form.index.length c2, .slice a3 pl.form.values.length c3] pl.form ∧ Below w.heap.size w w'

theorem linepr_zero {B : Nat} {w w' : World} (hb : Below w.heap.size w w') : PLinePR B Rt.zPL w (.returned (.agg #[.slice none 0 0, .int .i64 0, .string ⟨#[]⟩, .int .i64 0, .slice none 0 0, .slice none 0 0, .slice none 0 0, .int .i64 0, .int .i64 0, .int .i64 0, .int .i64 0, .int .i64 0])) w' :=
  ⟨none, none, none, none, 0, 0, 0, 0, 0, 0, rfl, World.ownsRow_nil _ _ _ _, FormV_plain _ _ _ _ _, hb⟩

set_option maxHeartbeats 1000000 in
set_option maxRecDepth 100000 in
theorem Line_r (w : World) (P B : Nat) (pls : List Rt.PL) (lv : Value) (cs : List (List Value)) (n : Int) (h : ProgR w P B pls lv cs) :
    Calls Tryd.prog 36 #[.pointer (some ⟨P, 0, none⟩), .int .i64 n] w (PLinePR B (Rt.lineAtP pls n) w) := by
  obtain ⟨ad, cap, hlv, cP⟩ := h.lvForm
  have hPlt := block_lt h.block
  by_cases h0 : n < 0
  · have HE := hide (Rt.lineAtP_out (pls := pls) (Or.inl h0))
    clear h
    go_enter Tryd.func36, Tryd.ntmps36
    go_wp2_with fail
    refine bodyPost_ret (v := .agg #[.slice none 0 0, .int .i64 0, .string ⟨#[]⟩, .int .i64 0, .slice none 0 0, .slice none 0 0, .slice none 0 0, .int .i64 0, .int .i64 0, .int .i64 0, .int .i64 0, .int .i64 0]) ?_ rfl (by rw [unhide HE]; exact linepr_zero ((Below.refl _ _).alloc (Nat.le_refl _) _))
    simp [results, Tryd.results36, go_sem]
  by_cases h1 : (pls.length : Int) ≤ n
  · have HE := hide (Rt.lineAtP_out (pls := pls) (Or.inr h1))
    clear h
    go_enter Tryd.func36, Tryd.ntmps36
    go_wp2_with fail
    refine bodyPost_ret (v := .agg #[.slice none 0 0, .int .i64 0, .string ⟨#[]⟩, .int .i64 0, .slice none 0 0, .slice none 0 0, .slice none 0 0, .int .i64 0, .int .i64 0, .int .i64 0, .int .i64 0, .int .i64 0]) ?_ rfl (by rw [unhide HE]; exact linepr_zero ((Below.refl _ _).alloc (Nat.le_refl _) _))
    simp [results, Tryd.results36, go_sem]
  obtain ⟨k, rfl⟩ := Int.eq_ofNat_of_zero_le (show 0 ≤ n by omega)
  have hlt : k < pls.length := by omega
  obtain ⟨g, cap', a0, a1, a2, a3, e0, e1, e2, e3, xe, xf, hlv', hglt, ⟨d0, d1, d2, d3, d4, d5, d6, d7, d8, d9, d10, d11⟩, htk, hfv⟩ := h.at hlt
  have hlv2 := hlv.symm.trans hlv'
  simp at hlv2
  obtain ⟨rfl, rfl⟩ := hlv2
  have HE := hide (Rt.lineAtP_in hlt)
  have HF := hide (And.intro htk hfv)
  clear h hfv htk hlv hlv'
  generalize pls[k] = pl at *
  go_enter Tryd.func36, Tryd.ntmps36
  go_wp2_with fail
  refine bodyPost_ret (v := .agg #[.slice a0 pl.toks.length e0, .int .i64 pl.form.kind, .string pl.form.name, .int .i64 pl.form.cells, .slice a1 pl.form.params.length e1, .slice a2 pl.form.index.length e2, .slice a3 pl.form.values.length e3, .int .i64 pl.depth, .int .i64 pl.opener, .int .i64 xe, .int .i64 xf, .int .i64 pl.proc]) ?_ rfl (by rw [unhide HE]; exact ⟨a0, a1, a2, a3, e0, e1, e2, e3, xe, xf, rfl, own_later (unhide HF).1 ((Below.refl _ _).alloc (Nat.le_refl _) _), (keeps_later (B := B) ((Below.refl _ _).alloc (Nat.le_refl _) _)).form (unhide HF).2, (Below.refl _ _).alloc (Nat.le_refl _) _⟩)
  simp [results, Tryd.results36, go_sem]

/-- The program stays while a row of ints grows. -/
theorem prog_grownr {w w1 : World} {o : Obj} {P B : Nat} {pls : List Rt.PL} {lv : Value} {cs : List (List Value)} {row : Option Nat} {t : TypeId} (h : ProgR w P B pls lv cs) (hg : (w.alloc o).grownBy w1 row) (hrow : ∀ x, row = some x → ∃ c, w.heap[x]? = some (.cells c t (0, 0)))
    (ht : t ≠ 41 ∧ t ≠ 64 ∧ t ≠ 81 ∧ t ≠ 9 ∧ t ≠ 124 ∧ t ≠ 59) : ProgR w1 P B pls lv cs := by
  obtain ⟨t1, t2, t3, t4, t5, t6⟩ := ht
  have hblk : ∀ (k : Nat) (x : Obj), w.heap[k]? = some x → (∀ c, x ≠ .cells c t (0, 0)) → w1.heap[k]? = some x := by
    intro k x hk hx
    refine grown_keep hg hk (fun e => ?_)
    obtain ⟨c, hc⟩ := hrow k e
    rw [hk] at hc
    simp at hc
    exact hx c hc
  have hr : ∀ (B : Nat) (t' : TypeId) (size n : Nat) (v : Value) (xs : List Value), t' ≠ t → w.ownsRow B t' size v n xs → w1.ownsRow B t' size v n xs := by
    intro B t' size n v xs hne hv
    obtain ⟨h1, h2⟩ := hv
    refine ⟨h1, ?_⟩
    rcases h2 with h2 | ⟨g, cap, cur, hv', hg', hh, rr⟩
    · exact Or.inl h2
    · exact Or.inr ⟨g, cap, cur, hv', hg', hblk g _ hh (fun c e => by simp at e; exact hne e.2), rr⟩
  have hform : ∀ {v : Array Value} {fm : Rt.PForm}, FormV w B v fm → FormV w1 B v fm := by
    intro v fm hf
    obtain ⟨pv, iv, vv, vs, rfl, h1, h2, h3, h4⟩ := hf
    exact ⟨pv, iv, vv, vs, rfl, hr _ _ _ _ _ _ (Ne.symm t4) h1, hr _ _ _ _ _ _ (Ne.symm t5) h2, hr _ _ _ _ _ _ (Ne.symm t6) h3, ExprsR.map (fun x o hh => hr _ _ _ _ _ _ (Ne.symm t5) hh) _ _ h4⟩
  have hlines : ∀ ps cs, LinesV w B ps cs → LinesV w1 B ps cs := by
    intro ps
    induction ps with
    | nil => intro cs h; cases cs with
      | nil => trivial
      | cons _ _ => exact h.elim
    | cons p ps ih => intro cs h; cases cs with
      | nil => exact h.elim
      | cons c cs =>
        obtain ⟨⟨tv, fv, xe, xf, e, g1, g2⟩, h2⟩ := h
        exact ⟨⟨tv, fv, xe, xf, e, hr _ _ _ _ _ _ (Ne.symm t3) g1, hform g2⟩, ih cs h2⟩
  exact ⟨hblk P _ h.block (fun c e => by simp at e; exact t1 e.2.symm), hr _ _ _ _ _ _ (Ne.symm t2) h.own, hlines _ _ h.lines⟩

set_option maxHeartbeats 2000000 in
set_option maxRecDepth 100000 in
theorem isStop_r (w : World) (P B : Nat) (pls : List Rt.PL) (lv : Value) (cs : List (List Value)) (n : Int) (h : ProgR w P B pls lv cs) :
    Calls Tryd.prog 24 #[.pointer (some ⟨P, 0, none⟩), .int .i64 n] w fun e w' => e = .returned (.bool (Rt.isStopP pls (Rt.lineAtP pls n))) ∧ Below w.heap.size w w' := by
  go_enter Tryd.func24, Tryd.ntmps24
  go_wp2_with fail
  refine (Line_r _ _ _ _ _ _ n h).mono ?_
  rintro e w1 ⟨a0, a1, a2, a3, c0, c1, c2, c3, xe, xf, rfl, _, _, hb1⟩
  generalize HPL : Rt.lineAtP pls n = pl at *
  replace HPL := hide HPL
  have hb0 := hb1.alloc hb1.size (.cells #[.slice a0 pl.toks.length c0, .int .i64 pl.form.kind, .string pl.form.name, .int .i64 pl.form.cells, .slice a1 pl.form.params.length c1, .slice a2 pl.form.index.length c2, .slice a3 pl.form.values.length c3, .int .i64 pl.depth, .int .i64 pl.opener, .int .i64 xe, .int .i64 xf, .int .i64 pl.proc] 64)
  have h0 := h.later hb0
  have hsz0 := hb0.size
  clear h hb1
  cases hs : Rt.stopKind pl.form.kind with
  | true =>
    have HE := hide (show Rt.isStopP pls pl = true by simp [Rt.isStopP, hs])
    have HB := hide hb0
    have hs' : pl.form.kind = 8 ∨ pl.form.kind = 9 ∨ pl.form.kind = 10 ∨ pl.form.kind = 11 ∨ pl.form.kind = 5 ∨ pl.form.kind = 7 ∨ pl.form.kind = 12 ∨ pl.form.kind = 13 := by
      simp [Rt.stopKind] at hs
      omega
    clear hs h0 hb0 hsz0
    generalize pl.form.kind = kx at *
    rcases hs' with rfl | rfl | rfl | rfl | rfl | rfl | rfl | rfl
    all_goals
      go_wp2_with fail
      go_ret
      exact ⟨by rw [unhide HPL, unhide HE] <;> rfl, unhide HB⟩
  | false =>
    have hs' : ¬ pl.form.kind = 8 ∧ ¬ pl.form.kind = 9 ∧ ¬ pl.form.kind = 10 ∧ ¬ pl.form.kind = 11 ∧ ¬ pl.form.kind = 5 ∧ ¬ pl.form.kind = 7 ∧ ¬ pl.form.kind = 12 ∧ ¬ pl.form.kind = 13 := by
      simp [Rt.stopKind] at hs
      omega
    obtain ⟨n8, n9, n10, n11, n5, n7, n12, n13⟩ := hs'
    have b8 : (pl.form.kind == 8) = false := by simpa using n8
    have b9 : (pl.form.kind == 9) = false := by simpa using n9
    have b10 : (pl.form.kind == 10) = false := by simpa using n10
    have b11 : (pl.form.kind == 11) = false := by simpa using n11
    have b5 : (pl.form.kind == 5) = false := by simpa using n5
    have b7 : (pl.form.kind == 7) = false := by simpa using n7
    have b12 : (pl.form.kind == 12) = false := by simpa using n12
    have b13 : (pl.form.kind == 13) = false := by simpa using n13
    clear n8 n9 n10 n11 n5 n7 n12 n13
    by_cases n4 : pl.form.kind = 4
    · have b4 : (pl.form.kind == 4) = true := by simpa using n4
      have HE := hide (show Rt.isStopP pls pl = decide ((Rt.formAt pls pl.opener).kind = 3) by unfold Rt.isStopP; rw [if_neg (by rw [hs]; simp), if_pos n4])
      clear hs n4
      go_wp2_with fail
      refine (Line_r _ _ _ _ _ _ pl.opener h0).mono ?_
      rintro e w2 ⟨ad0, ad1, ad2, ad3, cap0, cap1, cap2, cap3, ye, yf, rfl, _, _, hb2⟩
      rw [Rt.lineAtP_form]
      generalize (Rt.lineAtP pls pl.opener).depth = dp at *
      generalize (Rt.lineAtP pls pl.opener).opener = opn at *
      generalize (Rt.lineAtP pls pl.opener).proc = pr at *
      generalize (Rt.lineAtP pls pl.opener).toks.length = tl at *
      have HB := hide (hb0.trans (hb2.mono (B' := w.heap.size) hsz0))
      clear h0 hb0 hb2
      generalize (Rt.formAt pls pl.opener) = fo at *
      have hf1 := Tryd.fieldL1 ad0 tl cap0 fo.kind fo.name fo.cells ad1 fo.params.length cap1 ad2 fo.index.length cap2 ad3 fo.values.length cap3 dp opn ye yf pr
      have hfl := Tryd.fieldF0 fo.kind (.string fo.name) (.int .i64 fo.cells) (.slice ad1 fo.params.length cap1) (.slice ad2 fo.index.length cap2) (.slice ad3 fo.values.length cap3)
      go_wp2_with fail
      go_ret
      exact ⟨by rw [unhide HPL, unhide HE]; exact ret_bool (by rw [beq_eq_decide]), unhide HB⟩
    · have b4 : (pl.form.kind == 4) = false := by simpa using n4
      have HE := hide (show Rt.isStopP pls pl = false by unfold Rt.isStopP; rw [if_neg (by rw [hs]; simp), if_neg n4])
      have HB := hide hb0
      clear hs n4 h0 hb0 hsz0
      go_wp2_with fail
      go_ret
      exact ⟨by rw [unhide HPL, unhide HE] <;> rfl, unhide HB⟩

set_option maxHeartbeats 2000000 in
set_option maxRecDepth 100000 in
theorem progStops_r (w : World) (P B : Nat) (pls : List Rt.PL) (lv : Value) (cs : List (List Value)) (h : ProgR w P B pls lv cs) (hlen : pls.length ≤ 101) :
    Calls Tryd.prog 15 #[.pointer (some ⟨P, 0, none⟩)] w fun e w' => Below w.heap.size w w' ∧ ∃ v, e = .returned v ∧ w'.ownsRow w.heap.size 3 1 v (Rt.stopsP pls).length ((Rt.stopsP pls).map (Value.int .i64)) := by
  obtain ⟨i0, hi0, hz0, hz1, hz2⟩ := info_parts Tryd.infoIntP
  have hPlt := block_lt h.block
  go_enter Tryd.func15, Tryd.ntmps15
  go_wp2_with fail
  go_loopw [3, 4] (fun v i wr => ∃ (k : Nat) (acc : List Int), 1 ≤ k ∧ k ≤ pls.length + 1 ∧ i = .int .i64 k ∧ acc.length ≤ k ∧ Rt.stopsFrom pls k (pls.drop k) acc = Rt.stopsP pls ∧ ProgR wr P B pls lv cs ∧ wr.ownsRow w.heap.size 3 1 v acc.length (acc.map (Value.int .i64)) ∧ Below w.heap.size w wr)
    (fun _ i _ => pls.length + 1 - (intOf i).toNat)
  case atStart => exact ⟨1, [], Nat.le_refl _, by omega, rfl, by simp, rfl, h, World.ownsRow_nil _ _ _ _, Below.refl _ _⟩
  case round =>
    clear h
    obtain ⟨k, acc, hk1, hk, rfl, hacc, hT, hpr, hown, hbe⟩ := hrel
    have HT := hide hT
    clear hT
    have hsz := hbe.size
    obtain ⟨adl, capl, hlv, cP⟩ := hpr.lvForm
    obtain ⟨adv, capv, rfl⟩ := ownsRow_form hown
    by_cases hlt : k < pls.length
    · have hlt' : (k : Int) < (pls.length : Int) := by omega
      have hk0 : (0 : Int) ≤ (k : Int) := by omega
      have HP := hide (Rt.lineAtP_in hlt)
      have HN : Hid (Rt.stopsFrom pls (k + 1) (pls.drop (k + 1)) (if Rt.isStopP pls pls[k] = true then acc ++ [(k : Int)] else acc) = Rt.stopsP pls) := by
        refine hide ?_
        rw [← unhide HT, List.drop_eq_getElem_cons hlt, Rt.stopsFrom]
      clear hlv HT
      generalize pls[k] = p at *
      go_wp2_with fail
      refine (isStop_r _ _ _ _ _ _ (k : Int) hpr).mono ?_
      rintro e w2 ⟨rfl, hb2⟩
      rw [unhide HP]
      have hpr2 := hpr.later hb2
      have hown2 := own_later hown hb2
      have hbe2 := hbe.trans (hb2.mono (B' := w.heap.size) hsz)
      have hsz2 := hbe2.size
      clear hpr hown hbe hb2
      cases hv : Rt.isStopP pls p with
      | true =>
        rw [hv] at HN
        clear hv
        go_wp2_with (at_builtin; refine wpList_append_own _ rfl _ _ 22 rfl w.heap.size 3 i0 _ 1 8 Tryd.underlying22 hi0 hz0 hz1 hz2 rfl (by decide) _ _ _ rfl (hown2.alloc _) ⟨_, 0, none⟩ 1 1 [.int .i64 k] rfl rfl (cell_one_new _ _ _) ?c2 ?c3 ?c4 ?c5 ?_)
        case c2 => intro u hu; simp at hu; rcases hu with rfl; rfl
        case c3 => unfold maxLen; omega
        case c4 => omega
        case c5 => simp; omega
        intro v' w3 hown3 hgrow _
        have hbe3 := below_append hbe2 hsz2 hown2 hgrow
        have hpr3 : ProgR w3 P B pls lv cs := prog_grownr (t := 3) hpr2 hgrow (fun x hx => by
          rcases hown2.2 with ⟨h', _⟩ | ⟨g', _, cur, h', _, hh, _⟩
          · rw [h'] at hx; cases hx
          · rw [h'] at hx; simp [Value.ownBlock] at hx; subst hx; exact ⟨_, hh⟩) (by decide)
        have HF := hide (And.intro hpr3 (And.intro hown3 hbe3))
        clear hpr3 hown3 hbe3 hgrow hpr2 hown2 hbe2
        go_wp2_with fail
        go_roundw
        case rel =>
          obtain ⟨q1, q2, q3⟩ := unhide HF
          exact ⟨k + 1, acc ++ [(k : Int)], by omega, by omega, by go_num, by simp; omega, by have := unhide HN; simpa using this, q1, by simpa using q2, q3⟩
        case measure => simp [intOf]; omega
      | false =>
        rw [hv] at HN
        clear hv
        have HF := hide (And.intro hpr2 (And.intro hown2 hbe2))
        clear hpr2 hown2 hbe2
        go_wp2_with fail
        go_roundw
        case rel =>
          obtain ⟨q1, q2, q3⟩ := unhide HF
          exact ⟨k + 1, acc, by omega, by omega, by go_num, by omega, by have := unhide HN; simpa using this, q1, q2, q3⟩
        case measure => simp [intOf]; omega
    · have hlt' : ¬ (k : Int) < (pls.length : Int) := by omega
      have HE : Hid (acc = Rt.stopsP pls) := by
        refine hide ?_
        have := unhide HT
        rw [List.drop_eq_nil_of_le (by omega), Rt.stopsFrom] at this
        exact this
      have HF := hide (And.intro hown hbe)
      clear hpr hown hbe HT hlv
      go_wp2_with fail
      go_ret
      exact ⟨(unhide HF).2, _, rfl, by rw [← unhide HE]; exact (unhide HF).1⟩

end Go.Proofs.YtopeochnoefgcaaDoor

