/- The machine: a number read. -/
import Derived.Test.YtbpajiljfppjcaaGreatMcK
namespace Go.Proofs.YtbpajiljfppjcaaGreat
open Go.RowKit
attribute [local go_sem ↓] Go.wp_at_zero Go.wp_at_succ

theorem rows_plain (inp : List Int) (X : McX) (m m' : Rt.Mc) (h1 : m'.frames = m.frames) (h2 : m'.values = m.values) (h3 : m'.output = m.output) : rowsOf inp X m' = rowsOf inp X m := by unfold rowsOf; rw [h1, h2, h3]
/-- A number of the machine's own is stored. -/
theorem Aft.own {M B : Nat} {ty : TypeId} {tail : List Value} {S : Rt.Src} {m m' : Rt.Mc} {X X' : McX} {w w' : World} (h : Aft M B ty tail S X X' m w w') (i : Nat) (v : Value) (hb : (mcCells X' m tail).setIfInBounds i v = mcCells X' m' tail) (h1 : m'.frames = m.frames) (h2 : m'.values = m.values) (h3 : m'.output = m.output) : Aft M B ty tail S X X' m' w (w'.setCell ⟨M, i, none⟩ v) := by
  have hr := rows_plain S.input X' m m' h1 h2 h3
  have hmc := h.mc.step (m' := m') (X' := X') (Nat.le_refl _) rfl (fun _ _ hx _ => hx) i v hb (by rw [hr]; exact h.mc.own) rfl rfl (by rw [h1]; exact h.mc.fl) (by rw [h2]; exact h.mc.vl)
  exact ⟨hmc, h.frm.setM i v, h.grow, h.lt⟩

/-- A block of another type stays behind a store. -/
theorem read_keeps {M B : Nat} {ty : TypeId} {tail : List Value} {S : Rt.Src} {m m' : Rt.Mc} {X : McX} {w w' : World} (h : McS w M B ty tail S m X) {N : Nat} {c : Array Value} {t : TypeId} (hN : w.heap[N]? = some (.cells c t (0, 0))) (hp : PutP M B ty tail S m m' X w.drew w') (ht : t ≠ 3 ∧ t ≠ 68 ∧ t ≠ 24) : w'.heap[N]? = some (.cells c t (0, 0)) := by
  have h1 : w.drew.heap[N]? = some (.cells c t (0, 0)) := hN
  exact (hp.2.block N (block_lt h1) (rows_not (w := w.drew) (h.later (below_to_drew w)).own h1 ht)).trans h1
theorem put_taken (m : Rt.Mc) (s : Rt.Spot) (v : Int) : (Rt.putS m s v).taken = m.taken := by
  unfold Rt.putS
  split
  · split <;> rfl
  · rfl
theorem read_S {M B : Nat} {ty : TypeId} {tail : List Value} {S : Rt.Src} {m : Rt.Mc} {X : McX} {w w4 : World} {g cap k T : Nat} {sp : Rt.Spot} {v iv : Int} (h : McS w M B ty tail S m X) (hgv : X.iv = .slice (some ⟨g, 0, none⟩) S.input.length cap) (hk : m.taken = (k : Int)) (hin : S.input[k]? = some iv) (bT : w.heap[T]? = some (.cells #[.int .i64 sp.line, .int .i64 sp.cell] 85 (0, 0))) (hp : PutP M B ty tail S m (Rt.putS m sp v) X w.drew w4) :
    w4.cell? ⟨T, 0, none⟩ = some (.int .i64 sp.line) ∧ w4.cell? ⟨T, 1, none⟩ = some (.int .i64 sp.cell) ∧ w4.cell? ⟨M, 1, none⟩ = some (.slice (some ⟨g, 0, none⟩) S.input.length cap) ∧ w4.cell? ⟨M, 4, none⟩ = some (.int .i64 k) ∧ w4.cell? ⟨g, k, none⟩ = some (.int .i64 iv) := by
  have bT4 := read_keeps h bT hp (by decide)
  have q1 := hp.1.c1
  have q4 := hp.1.c4
  rw [hgv] at q1
  rw [put_taken, hk] at q4
  have hin4 := hp.1.input
  obtain ⟨g', cap', hv, _, _, ca⟩ := own_cell hin4 (j := k) (u := .int .i64 iv) (by simp [intsV, hin])
  rw [hgv] at hv
  injection hv with e1 _ _
  injection e1 with e1
  injection e1 with e1
  subst e1
  exact ⟨cell_of_block bT4 0 (by simp), cell_of_block bT4 1 (by simp), q1, q4, ca⟩
/-- What stands behind the store. -/
structure ReadF (M B : Nat) (ty : TypeId) (tail : List Value) (S : Rt.Src) (X : McX) (m : Rt.Mc) (sp : Rt.Spot) (iv : Int) (w : World) (O : Nat) (wy : World) : Prop where
  aft : Aft M B ty tail S X X (Rt.putS m sp iv) w wy
  old : wy.heap[O]? = some (.cells #[.int .i64 4, .int .i64 0, .int .i64 sp.line, .int .i64 sp.cell, .int .i64 (Rt.getS m sp)] 87 (0, 0))
  res : wy.heap[w.heap.size + 1]? = some (.cells #[.int .i64 0, .int .i64 0, .slice none 0 0] 82 (0, 0))
  ne : w.heap.size + 1 < O
theorem cutK {Goal : Prop} {F : Nat → World → Prop} {R : Code} {post : Exit → Act → World → Prop} {fr : Nat → Act} (main : (∀ (O : Nat) (wy : World), F O wy → Code.wp Tryz.prog R post (fr O) wy) → Goal) (pf : ∀ (O : Nat) (wy : World), F O wy → Code.wp Tryz.prog R post (fr O) wy) : Goal := main pf
/-- The record's block is new behind the store. -/
theorem ReadF.one {M B : Nat} {ty : TypeId} {tail : List Value} {S : Rt.Src} {X : McX} {m : Rt.Mc} {sp : Rt.Spot} {iv : Int} {w w3 w4 : World} (hh : McS w M B ty tail S m X) (h3 : McS w3 M B ty tail S m X ∧ Below w.heap.size w w3 ∧ w3.heap[w.heap.size + 1]? = some (.cells #[.int .i64 0, .int .i64 0, .slice none 0 0] 82 (0, 0))) (hp : PutP M B ty tail S m (Rt.putS m sp iv) X w3.drew w4) : ReadF M B ty tail S X m sp iv w w4.heap.size (w4.alloc (.cells #[.int .i64 4, .int .i64 0, .int .i64 sp.line, .int .i64 sp.cell, .int .i64 (Rt.getS m sp)] 87)) := by
  obtain ⟨h3, hB, bR⟩ := h3
  have bR4 := read_keeps h3 bR hp (by decide)
  have hbx := (Below.refl w4.heap.size w4).alloc (Nat.le_refl _) (.cells #[.int .i64 4, .int .i64 0, .int .i64 sp.line, .int .i64 sp.cell, .int .i64 (Rt.getS m sp)] 87)
  exact ⟨((Aft.start hh hB.drew).put hp).below hbx, heap_alloc_new _ _, block_later bR4 hbx, block_lt bR4⟩
/-- The record's block was laid ahead of the store. -/
theorem ReadF.two {M B : Nat} {ty : TypeId} {tail : List Value} {S : Rt.Src} {X : McX} {m : Rt.Mc} {sp : Rt.Spot} {iv : Int} {w w3 w4 : World} {O T : Nat} {bt : Array Value} (hh : McS w M B ty tail S m X) (h3 : McS w3 M B ty tail S m X ∧ Below w.heap.size w w3 ∧ w3.heap[w.heap.size + 1]? = some (.cells #[.int .i64 0, .int .i64 0, .slice none 0 0] 82 (0, 0)) ∧ w3.heap[O]? = some (.cells #[.int .i64 0, .int .i64 0, .int .i64 0, .int .i64 0, .int .i64 0] 87 (0, 0)) ∧ w3.heap[T]? = some (.cells bt 85 (0, 0))) (hO : w.heap.size + 1 < O) (hp : PutP M B ty tail S m (Rt.putS m sp iv) X w3.drew w4) : ReadF M B ty tail S X m sp iv w O (((((w4.setCell ⟨O, 0, none⟩ (.int .i64 4)).setCell ⟨O, 1, none⟩ (.int .i64 0)).setCell ⟨O, 2, none⟩ (.int .i64 sp.line)).setCell ⟨O, 3, none⟩ (.int .i64 sp.cell)).setCell ⟨O, 4, none⟩ (.int .i64 (Rt.getS m sp))) := by
  obtain ⟨h3, hB, bR, bO, _⟩ := h3
  have bR4 := read_keeps h3 bR hp (by decide)
  have bO4 := read_keeps h3 bO hp (by decide)
  have n1 := set_block bO4 0 (.int .i64 4)
  have n2 := set_block n1 1 (.int .i64 0)
  have n3 := set_block n2 2 (.int .i64 sp.line)
  have n4 := set_block n3 3 (.int .i64 sp.cell)
  have n5 := set_block n4 4 (.int .i64 (Rt.getS m sp))
  have ht : ¬ PTy 87 ∧ 87 ≠ 3 ∧ 87 ≠ 68 ∧ 87 ≠ 24 := by unfold PTy; decide
  have hl : w.heap.size ≤ O := by omega
  refine ⟨((((((Aft.start hh hB.drew).put hp).aside bO4 hl ht _ _).aside n1 hl ht _ _).aside n2 hl ht _ _).aside n3 hl ht _ _).aside n4 hl ht _ _, by simpa using n5, ?_, hO⟩
  repeat rw [Below.heap_setCell _ _ _ _ (by show w.heap.size + 1 ≠ O; omega)]
  exact bR4
set_option maxHeartbeats 2000000 in
set_option maxRecDepth 100000 in
theorem read_any_m (w : World) (M B : Nat) (ty : TypeId) (tail : List Value) (S : Rt.Src) (m : Rt.Mc) (X : McX) (fm : Rt.PForm) (a1 a2 a3 : Option Addr) (c1 c2 c3 : Nat) (h : McS w M B ty tail S m X) (hm : Mok S m) (hk : fm.kind = 11) :
    Calls Tryz.prog 57 #[.pointer (some ⟨M, 0, none⟩), .agg (fmA fm a1 a2 a3 c1 c2 c3)] w (OutP M B ty tail S X (Rt.perform S m fm) w) := by
  have hbA := ((Below.refl w.heap.size w).alloc (Nat.le_refl _) (.cells (fmA fm a1 a2 a3 c1 c2 c3) 77)).alloc (by simp) (.cells #[.int .i64 0, .int .i64 0, .slice none 0 0] 82)
  have bF := block_alloc (heap_alloc_new w (.cells (fmA fm a1 a2 a3 c1 c2 c3) 77)) (.cells #[.int .i64 0, .int .i64 0, .slice none 0 0] 82)
  have bR := alloc2_plain w (.cells (fmA fm a1 a2 a3 c1 c2 c3) 77) (.cells #[.int .i64 0, .int .i64 0, .slice none 0 0] 82)
  have hA := h.later hbA
  have HP := hide (show Rt.perform S m fm = if m.taken < 0 ∨ S.input.length ≤ m.taken then Rt.ended m 4 else ⟨0, wrap64 (m.line + 1), [Rt.stay m.line, Rt.stored m (Rt.varS S m fm.name), ⟨6, 0, ⟨0, 0⟩, 0⟩], { Rt.putS m (Rt.varS S m fm.name) ((S.input[m.taken.toNat]?).getD 0) with taken := wrap64 (m.taken + 1) }⟩ by unfold Rt.perform; simp only; rw [if_neg (by omega), if_neg (by omega), if_neg (by omega), if_pos hk])
  have HH := hide h
  have hMlt := block_lt h.block
  clear h hk
  go_enter Tryz.func57, Tryz.ntmps57
  go_wp2_with fail
  generalize (w.alloc (.cells (fmA fm a1 a2 a3 c1 c2 c3) 77)).alloc (.cells #[.int .i64 0, .int .i64 0, .slice none 0 0] 82) = wA at *
  have c4 := hA.c4
  have cI := hA.c1
  obtain ⟨iad, icap, hiv⟩ := ownsRow_form hA.input
  have hil := hm.input
  have k1 := cell_of_block bF 1 (by simp)
  simp at k1
  by_cases ht : m.taken < 0 ∨ S.input.length ≤ m.taken
  · replace HP := hide ((unhide HP).trans (if_pos ht))
    obtain ⟨r0, r1, r2⟩ := three_cells bR
    have z := free_of_block bR
    have HA := hide (And.intro (Aft.start (unhide HH) hbA) bR)
    rw [hiv] at cI
    clear hA hbA bF hm bR
    have fin : ∀ (wz : World), Below wA.heap.size wA wz → ∀ a b c, Aft M B ty tail S X X m w (W3 wz (w.heap.size + 1) a b c) := fun wz hb a b c => ((unhide HA).1.below hb).three (block_later (unhide HA).2 hb) (by omega) (by unfold PTy; decide) a b c
    have HFin := hide fin
    clear fin
    by_cases h0 : m.taken < 0
    · have h0' : decide (m.taken < 0) = true := by simpa using h0
      clear ht
      go_quiet (fail)
      go_wp2_with fail
      refine bodyPost_ret (v := .agg #[.int .i64 4, .int .i64 0, .slice none 0 0]) ?_ rfl ⟨_, _, by rw [unhide HP]; rfl, by rw [unhide HP]; exact unhide HFin _ (below_drewN _ _) _ _ _, by rw [unhide HP]; exact World.ownsRow_nil _ _ _ _⟩
      simp [results, Tryz.results57, go_sem, r0, r1, r2]
    · have h0' : decide (m.taken < 0) = false := by simpa using h0
      have h1' : (S.input.length : Int) ≤ m.taken := by omega
      clear ht
      go_quiet (fail)
      go_wp2_with fail
      refine bodyPost_ret (v := .agg #[.int .i64 4, .int .i64 0, .slice none 0 0]) ?_ rfl ⟨_, _, by rw [unhide HP]; rfl, by rw [unhide HP]; exact unhide HFin _ (below_drewN _ _) _ _ _, by rw [unhide HP]; exact World.ownsRow_nil _ _ _ _⟩
      simp [results, Tryz.results57, go_sem, r0, r1, r2]
  · replace HP := hide ((unhide HP).trans (if_neg ht))
    obtain ⟨k, hk⟩ := Int.eq_ofNat_of_zero_le (show 0 ≤ m.taken by omega)
    have hkl : k < S.input.length := by omega
    obtain ⟨g, gcap, hgv, _, hglt, ca⟩ := own_cell hA.input (j := k) (u := .int .i64 S.input[k]) (by simp [intsV, hkl])
    rw [hgv] at cI
    rw [hk] at c4
    have HIn := hide (show (S.input[m.taken.toNat]?).getD 0 = S.input[k] by rw [hk]; simp [hkl])
    rw [unhide HIn] at HP
    have h0' : decide ((k : Int) < 0) = false := by simp
    have h0'' : ¬ (k : Int) < 0 := by omega
    have h1' : ¬ (S.input.length : Int) ≤ (k : Int) := by omega
    have h2' : (k : Int) < (S.input.length : Int) := by omega
    have hk0 : (0 : Int) ≤ (k : Int) := by omega
    have HA := hide (And.intro hA (And.intro hbA (And.intro bR bF)))
    have HM := hide hm
    have HGV := hide hgv
    have HKK := hide hk
    have HIK := hide (List.getElem?_eq_getElem hkl)
    clear hA hbA bF hm bR ht hiv hgv hk
    generalize S.input[k] = iv at *
    go_quiet (fail)
    go_wp2_with fail
    obtain ⟨hA, hbA, bR, bF⟩ := unhide HA
    refine (mvar_any _ M B ty tail S m X fm.name (hA.later (below_drewN _ _)) (unhide HM)).mono ?_
    rintro e w2 ⟨rfl, hb2⟩
    have hb2' : Below wA.heap.size wA w2 := (below_drewN wA _).trans hb2
    clear hb2
    generalize Rt.varS S m fm.name = sp at *
    have hbF := (Below.refl w2.heap.size w2).alloc (Nat.le_refl _) (.cells #[.int .i64 sp.line, .int .i64 sp.cell] 85)
    have hb3 : Below wA.heap.size wA (w2.alloc (.cells #[.int .i64 sp.line, .int .i64 sp.cell] 85)) := hb2'.trans (hbF.mono (B' := wA.heap.size) hb2'.size)
    have h3 := hA.later hb3
    have hB3 := hbA.trans (hb3.mono (B' := w.heap.size) hbA.size)
    have bR3 := block_later bR hb3
    have x1 := cell_later hb3 cI
    have x4 := cell_later hb3 c4
    have xa := cell_later hb3 ca
    have bT := heap_alloc_new w2 (.cells #[.int .i64 sp.line, .int .i64 sp.cell] 85)
    have t0 := cell_of_block bT 0 (by simp)
    have t1 := cell_of_block bT 1 (by simp)
    simp only [List.getElem_toArray, List.getElem_cons_succ, List.getElem_cons_zero] at t0 t1
    clear hA hbA bR bF hb2' hbF hb3 cI c4 ca k1 HA
    go_wp2_with fail
    generalize w2.alloc (.cells #[.int .i64 sp.line, .int .i64 sp.cell] 85) = w3 at *
    generalize w2.heap.size = T at *
    have hwm : IntKind.i64.wrap (k : Int) = (k : Int) := by rw [IntWalk.i64_left, IntWalk.wrap64_in _ (by omega)]
    have hbB := (Below.refl w3.heap.size w3).alloc (Nat.le_refl _) (.cells #[.int .i64 0, .int .i64 0, .int .i64 0, .int .i64 0, .int .i64 0] 87)
    have H3 := hide (And.intro h3 (And.intro hB3 bR3))
    have HBT := hide bT
    have HQ := hide (And.intro (h3.later hbB) (And.intro (hB3.trans (hbB.mono (B' := w.heap.size) hB3.size)) (And.intro (block_later bR3 hbB) (And.intro (heap_alloc_new w3 (.cells #[.int .i64 0, .int .i64 0, .int .i64 0, .int .i64 0, .int .i64 0] 87)) (block_later bT hbB)))))
    have hTne : ¬ T = w3.heap.size := by have := block_lt bT; omega
    have hMne : ¬ M = w3.heap.size := by have := block_lt h3.block; omega
    have hgne : ¬ g = w3.heap.size := by
      have h4 := h3.input
      rw [unhide HGV] at h4
      have := (h4.lt g rfl).2
      omega
    have hRne : ¬ w.heap.size + 1 = w3.heap.size := by have := block_lt bR3; omega
    have hTlt := block_lt bT
    have hMlt3 := block_lt h3.block
    have hglt3 : g < w3.heap.size := by
      have h4 := h3.input
      rw [unhide HGV] at h4
      exact (h4.lt g rfl).2
    have hRlt3 := block_lt bR3
    clear h3 hB3 bR3 bT hbB
    have hOlt : w.heap.size + 1 < w3.heap.size := hRlt3
    apply cutK (F := ReadF M B ty tail S X m sp iv w)
    · intro HT
      have HT' := hide HT
      clear HT
      go_region_with (first | (go_at_call 77; refine (store_any _ M B ty tail S m X sp iv ((unhide H3).1.later (below_to_drew _)) (unhide HM)).mono ?_; rintro e w4 ⟨rfl, hp4⟩; have HR := hide (ReadF.one (unhide HH) (unhide H3) hp4); replace hp4 := hide hp4) | (go_at_call 77; refine (store_any _ M B ty tail S m X sp iv ((unhide HQ).1.later (below_to_drew _)) (unhide HM)).mono ?_; rintro e w4 ⟨rfl, hp4⟩; obtain ⟨y0, y1, y2, y3, y4⟩ := five_cells (read_keeps (unhide HQ).1 (unhide HQ).2.2.2.1 hp4 (by decide)); have yz := free_of_block (read_keeps (unhide HQ).1 (unhide HQ).2.2.2.1 hp4 (by decide)); have HR := hide (ReadF.two (unhide HH) (unhide HQ) hOlt hp4)))
      all_goals
        rename_i hKK
        refine hKK _ _ ?_
        have HR' := unhide HR
        revert HR'
        first
          | (generalize w4.alloc (.cells #[.int .i64 4, .int .i64 0, .int .i64 sp.line, .int .i64 sp.cell, .int .i64 (Rt.getS m sp)] 87) = wy; generalize w4.heap.size = O)
          | (generalize ((((w4.setCell ⟨w3.heap.size, 0, none⟩ (.int .i64 4)).setCell ⟨w3.heap.size, 1, none⟩ (.int .i64 0)).setCell ⟨w3.heap.size, 2, none⟩ (.int .i64 sp.line)).setCell ⟨w3.heap.size, 3, none⟩ (.int .i64 sp.cell)).setCell ⟨w3.heap.size, 4, none⟩ (.int .i64 (Rt.getS m sp)) = wy; generalize w3.heap.size = O)
        intro HR'
        exact unhide HT' _ _ HR'
    · intro O wy hR
      obtain ⟨hA4, bO, bR4, hOR⟩ := hR
      have c4 := hA4.mc.c4
      rw [put_taken, unhide HKK] at c4
      have f4 := hA4.mc.fz 4
      have hMO : M ≠ O := by have := hA4.lt; omega
      have hMR : M ≠ w.heap.size + 1 := by have := hA4.lt; omega
      have hA5 := hA4.own (m' := { Rt.putS m sp iv with taken := wrap64 (m.taken + 1) }) 4 (.int .i64 (wrap64 (m.taken + 1))) (by simp [mcCells]) rfl rfl rfl
      have hw1 : wrap64 ((k : Int) + 1) = (k : Int) + 1 := IntWalk.wrap64_in _ (by omega)
      rw [unhide HKK, hw1] at hA5 HP
      have bO5 := (Below.heap_setCell wy ⟨M, 4, none⟩ (.int .i64 ((k : Int) + 1)) O (Ne.symm hMO)).trans bO
      have bR5 := (Below.heap_setCell wy ⟨M, 4, none⟩ (.int .i64 ((k : Int) + 1)) _ (Ne.symm hMR)).trans bR4
      have HRc := hide (show Rt.stored m sp = ⟨4, 0, sp, Rt.getS m sp⟩ from rfl)
      generalize Rt.getS m sp = old at *
      obtain ⟨p0, p1, p2, p3, p4⟩ := five_cells bO5
      have c6 := hA5.mc.c6
      have HL := hide (put_line m sp iv)
      rw [show ({ Rt.putS m sp iv with taken := (k : Int) + 1 } : Rt.Mc).line = m.line from unhide HL] at c6
      have HA5 := hide (And.intro hA5 bR5)
      clear hw1 hA4 bO bR4 hA5 bR5 bO5 x1 x4 xa t0 t1 hTne hMne hgne hRne hTlt hMlt3 hglt3 hRlt3 hOlt
      go_wp2_with fail
      generalize wy.setCell ⟨M, 4, none⟩ (.int .i64 ((k : Int) + 1)) = w5 at *
      clear c4 f4
      go_region_held3 (fun w' => w'.cell? ⟨M, 6, none⟩ = some (.int .i64 m.line) ∧ w'.cell? ⟨O, 0, none⟩ = some (.int .i64 4) ∧ w'.cell? ⟨O, 1, none⟩ = some (.int .i64 0) ∧ w'.cell? ⟨O, 2, none⟩ = some (.int .i64 sp.line) ∧ w'.cell? ⟨O, 3, none⟩ = some (.int .i64 sp.cell) ∧ w'.cell? ⟨O, 4, none⟩ = some (.int .i64 old)) (go_keep) (fail)
      obtain ⟨hA5, bR5⟩ := unhide HA5
      have hb6 := ((Below.refl w5.heap.size w5).alloc (Nat.le_refl _) (.cells #[.int .i64 1, .int .i64 m.line, .int .i64 0, .int .i64 0, .int .i64 0, .int .i64 4, .int .i64 0, .int .i64 sp.line, .int .i64 sp.cell, .int .i64 old, .int .i64 6, .int .i64 0, .int .i64 0, .int .i64 0, .int .i64 0] 87)).drew
      have bQ : (w5.alloc (.cells #[.int .i64 1, .int .i64 m.line, .int .i64 0, .int .i64 0, .int .i64 0, .int .i64 4, .int .i64 0, .int .i64 sp.line, .int .i64 sp.cell, .int .i64 old, .int .i64 6, .int .i64 0, .int .i64 0, .int .i64 0, .int .i64 0] 87)).drew.heap[w5.heap.size]? = _ := heap_alloc_new w5 (.cells #[.int .i64 1, .int .i64 m.line, .int .i64 0, .int .i64 0, .int .i64 0, .int .i64 4, .int .i64 0, .int .i64 sp.line, .int .i64 sp.cell, .int .i64 old, .int .i64 6, .int .i64 0, .int .i64 0, .int .i64 0, .int .i64 0] 87)
      have hA6 := hA5.below hb6
      have bR6 := block_later bR5 hb6
      have c6' := hA6.mc.c6
      rw [show ({ Rt.putS m sp iv with taken := (k : Int) + 1 } : Rt.Mc).line = m.line from unhide HL] at c6'
      have hQ := hA5.frm.size
      have hQlt := block_lt bQ
      have hRlt := block_lt bR5
      clear hA5 bR5 hb6 HA5 c6 p0 p1 p2 p3 p4
      generalize (w5.alloc (.cells #[.int .i64 1, .int .i64 m.line, .int .i64 0, .int .i64 0, .int .i64 0, .int .i64 4, .int .i64 0, .int .i64 sp.line, .int .i64 sp.cell, .int .i64 old, .int .i64 6, .int .i64 0, .int .i64 0, .int .i64 0, .int .i64 0] 87)).drew = w6 at *
      generalize w5.heap.size = q at *
      obtain ⟨r0, r1, r2⟩ := three_cells bR6
      have z := free_of_block bR6
      have HF := hide (fun a b c => And.intro (hA6.three bR6 (by omega) (by unfold PTy; decide) a b c) (rec_row 3 bQ (show q ≠ w.heap.size + 1 by omega) hQ a b c rfl (by omega)))
      clear hA6 bR6 bQ
      go_wp2_with fail
      refine bodyPost_ret (v := .agg #[.int .i64 0, .int .i64 (wrap64 (m.line + 1)), .slice (some ⟨q, 0, none⟩) 3 3]) ?_ rfl ⟨_, _, by rw [unhide HP], by rw [unhide HP]; exact (unhide HF _ _ _).1, by rw [unhide HP, unhide HRc]; exact (unhide HF _ _ _).2⟩
      simp [results, Tryz.results57, go_sem, r0, r1, r2]
end Go.Proofs.YtbpajiljfppjcaaGreat

