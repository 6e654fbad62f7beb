/- The machine: put, has, store, variable, cell. -/
import Derived.Test.YtbpajiljfppjcaaGreatMcB
namespace Go.Proofs.YtbpajiljfppjcaaGreat
open Go.RowKit
attribute [local go_sem ↓] Go.wp_at_zero Go.wp_at_succ

theorem Mok.put {S : Rt.Src} {m : Rt.Mc} (h : Mok S m) (s : Rt.Spot) (v : Int) : Mok S (Rt.putS m s v) := by
  unfold Rt.putS
  split
  · split
    · refine ⟨h.pls, h.input, h.frames, by simpa using h.values, h.output, h.params, ?_, h.forms⟩
      intro l hl
      obtain ⟨i, hi, rfl⟩ := List.getElem_of_mem hl
      simp only [List.length_modify] at hi
      rw [List.getElem_modify]
      split
      · rw [List.length_set]; exact h.cells _ (List.getElem_mem hi)
      · exact h.cells _ (List.getElem_mem hi)
    · refine ⟨h.pls, h.input, by simpa using h.frames, h.values, h.output, ?_, h.cells, h.forms⟩
      intro l hl
      obtain ⟨i, hi, rfl⟩ := List.getElem_of_mem hl
      simp only [List.length_modify] at hi
      rw [List.getElem_modify]
      split
      · simp only [List.length_set]; exact h.params _ (List.getElem_mem hi)
      · exact h.params _ (List.getElem_mem hi)
  · exact h

/-- What a call says that leaves the machine's rows where they are. -/
def PutP (M B : Nat) (ty : TypeId) (tail : List Value) (S : Rt.Src) (m m' : Rt.Mc) (X : McX) (w w' : World) : Prop := McS w' M B ty tail S m' X ∧ Frm w w' (blks (rowsOf S.input X m))

set_option maxHeartbeats 1000000 in
theorem put_any (w : World) (M B : Nat) (ty : TypeId) (tail : List Value) (S : Rt.Src) (m : Rt.Mc) (X : McX) (s : Rt.Spot) (v : Int) (h : McS w M B ty tail S m X) (hm : Mok S m) :
    Calls Tryz.prog 82 #[.pointer (some ⟨M, 0, none⟩), .agg #[.int .i64 s.line, .int .i64 s.cell], .int .i64 v] w fun e w' => e = .returned (.tuple #[]) ∧ PutP M B ty tail S m (Rt.putS m s v) X w w' := by
  have hcl := cells_len hm s.line
  have hbA := (Below.refl w.heap.size w).alloc (Nat.le_refl _) (.cells #[.int .i64 s.line, .int .i64 s.cell] 85)
  have hA := h.later hbA
  clear h
  go_enter Tryz.func82, Tryz.ntmps82
  go_wp2_with fail
  refine (cells_any _ M B ty tail S m X s.line hA hm).mono ?_
  rintro e w1 ⟨rfl, hb⟩
  have h1 := hA.later hb
  have hrow := h1.cellsRow s.line
  have hB := hbA.trans (hb.mono (B' := w.heap.size) (by simp))
  have hS := block_later (heap_alloc_new w (.cells #[.int .i64 s.line, .int .i64 s.cell] 85)) hb
  have cS := cell_of_block hS 1 (by simp)
  simp at cS
  have HH := hide (And.intro h1 hB)
  by_cases hh : Rt.hasS m s = true
  · obtain ⟨g, cap, hgv, hglt, q1, q2⟩ := h1.stored s hh v
    have hin : 0 ≤ s.cell ∧ s.cell < (Rt.cellsOf m s.line).length := of_decide_eq_true hh
    rw [hgv] at hrow ⊢
    have hfr := hrow.frozenAt s.cell.toNat
    have HF : Hid (PutP M B ty tail S m (Rt.putS m s v) X w (w1.setCell ⟨g, s.cell.toNat, none⟩ (.int .i64 v))) := hide ⟨q1, (Frm.of_below _ hB).trans q2 (Grows.refl _ _)⟩
    obtain ⟨g2, cap2, hgv2, _, _, ca⟩ := own_cell hrow (j := s.cell.toNat) (u := .int .i64 ((Rt.cellsOf m s.line)[s.cell.toNat]'(by omega))) (by simp [intsV, List.getElem?_eq_getElem (show s.cell.toNat < (Rt.cellsOf m s.line).length by omega)])
    injection hgv2 with e1 _ e2
    injection e1 with e1
    injection e1 with e1
    subst e1
    have hgS : ¬ g = w.heap.size := by
      intro e
      obtain ⟨c, hc⟩ := own_blk hrow (g := g) rfl
      rw [e, hS] at hc
      injection hc with hc
      injection hc with _ hc
      exact absurd hc (by decide)
    clear hrow hb hA hbA hS h1 hB q1 q2 hm hgv hh e2
    generalize (Rt.cellsOf m s.line)[s.cell.toNat]'(by omega) = old at *
    generalize (Rt.cellsOf m s.line).length = n at *
    obtain ⟨k, hk⟩ := Int.eq_ofNat_of_zero_le hin.1
    rw [hk] at cS HF hfr ca hin
    simp only [Int.toNat_natCast] at HF hfr ca
    have k1 : ¬ (k : Int) < 0 := by omega
    have k2 : ¬ (n : Int) ≤ (k : Int) := by omega
    have k3 : (k : Int) < (n : Int) := by omega
    have k0 : (0 : Int) ≤ (k : Int) := by omega
    clear hin
    go_wp2_with fail
    go_end0
    exact ⟨rfl, unhide HF⟩
  · have hout : ¬ (0 ≤ s.cell ∧ s.cell < (Rt.cellsOf m s.line).length) := fun e => hh (decide_eq_true e)
    have HF : Hid (PutP M B ty tail S m (Rt.putS m s v) X w w1) := by
      refine hide ?_
      rw [show Rt.putS m s v = m by unfold Rt.putS; rw [if_neg hh]]
      exact ⟨h1, Frm.of_below _ hB⟩
    obtain ⟨ad, cap, hv⟩ := ownsRow_form hrow
    rw [hv]
    clear hrow hb hA hbA hS h1 hB hm hh hv
    generalize (Rt.cellsOf m s.line).length = n at *
    generalize s.cell = c at *
    by_cases hc : c < 0
    · clear hout
      go_wp2_with fail
      refine bodyPost_ret (results_none rfl _ _ _) rfl ?_
      exact ⟨rfl, unhide HF⟩
    · have hc2 : (n : Int) ≤ c := by omega
      clear hout
      go_wp2_with fail
      refine bodyPost_ret (results_none rfl _ _ _) rfl ?_
      exact ⟨rfl, unhide HF⟩

set_option maxHeartbeats 1000000 in
theorem has_any (w : World) (M B : Nat) (ty : TypeId) (tail : List Value) (S : Rt.Src) (m : Rt.Mc) (X : McX) (s : Rt.Spot) (h : McS w M B ty tail S m X) (hm : Mok S m) :
    Calls Tryz.prog 94 #[.pointer (some ⟨M, 0, none⟩), .agg #[.int .i64 s.line, .int .i64 s.cell]] w fun e w' => e = .returned (.bool (Rt.hasS m s)) ∧ Below w.heap.size w w' := by
  have hcl := cells_len hm s.line
  have hbA := (Below.refl w.heap.size w).alloc (Nat.le_refl _) (.cells #[.int .i64 s.line, .int .i64 s.cell] 85)
  have hA := h.later hbA
  clear h
  go_enter Tryz.func94, Tryz.ntmps94
  go_wp2_with fail
  refine (cells_any _ M B ty tail S m X s.line hA hm).mono ?_
  rintro e w1 ⟨rfl, hb⟩
  have hrow := own_later (hA.cellsRow s.line) hb
  have HB := hide (hbA.trans (hb.mono (B' := w.heap.size) (by simp)))
  have hS := block_later (heap_alloc_new w (.cells #[.int .i64 s.line, .int .i64 s.cell] 85)) hb
  have cS := cell_of_block hS 1 (by simp)
  simp at cS
  obtain ⟨ad, cap, hv⟩ := ownsRow_form hrow
  rw [hv]
  have HE := hide (show Rt.hasS m s = decide (0 ≤ s.cell ∧ s.cell < (Rt.cellsOf m s.line).length) from rfl)
  clear hrow hb hA hbA hS hm hv
  generalize (Rt.cellsOf m s.line).length = n at *
  generalize s.cell = c at *
  by_cases h1 : 0 ≤ c
  · by_cases h2 : c < (n : Int)
    · have HR := hide (show Rt.hasS m s = true by rw [unhide HE]; exact decide_eq_true ⟨h1, h2⟩)
      go_wp2_with fail
      go_ret
      exact ⟨by rw [unhide HR]; rfl, unhide HB⟩
    · have HR := hide (show Rt.hasS m s = false by rw [unhide HE]; exact decide_eq_false (fun e => h2 e.2))
      go_wp2_with fail
      go_ret
      exact ⟨by rw [unhide HR]; exact ret_bool (decide_eq_false (by omega)), unhide HB⟩
  · have HR := hide (show Rt.hasS m s = false by rw [unhide HE]; exact decide_eq_false (fun e => h1 e.1))
    go_wp2_with fail
    go_ret
    exact ⟨by rw [unhide HR]; rfl, unhide HB⟩

theorem rows_not {w : World} {inp : List Int} {X : McX} {m : Rt.Mc} (h : Own w (rowsOf inp X m)) {N : Nat} {cs : Array Value} {t : TypeId} (hN : w.heap[N]? = some (.cells cs t (0, 0))) (ht : t ≠ 3 ∧ t ≠ 68 ∧ t ≠ 24) : N ∉ blks (rowsOf inp X m) := by
  intro e
  obtain ⟨r, hr, hg⟩ := List.mem_filterMap.mp e
  obtain ⟨c, hc⟩ := own_blk (h.rows r hr) hg
  rw [hN] at hc
  injection hc with hc
  injection hc with _ hc
  have := rows_ty3 hr
  rw [← hc] at this
  rcases this with e | e | e
  · exact ht.1 e
  · exact ht.2.1 e
  · exact ht.2.2 e
theorem PutP.aside {M B : Nat} {ty : TypeId} {tail : List Value} {S : Rt.Src} {m m' : Rt.Mc} {X : McX} {w w' : World} (h : PutP M B ty tail S m m' X w w') (hMw : M < w.heap.size) {N : Nat} {cs : Array Value} {t : TypeId} (hN : w'.heap[N]? = some (.cells cs t (0, 0))) (hlt : w.heap.size ≤ N) (ht : ¬ PTy t ∧ t ≠ 3 ∧ t ≠ 68 ∧ t ≠ 24) (i : Nat) (v : Value) : PutP M B ty tail S m m' X w (w'.setCell ⟨N, i, none⟩ v) := by
  refine ⟨h.1.aside hN (by omega) ht i v, ⟨h.2.os, h.2.tape, h.2.output, Nat.le_trans h.2.size (by simp [World.setCell]), fun k hk hn => ?_⟩⟩
  rw [Below.heap_setCell w' ⟨N, i, none⟩ v k (by show k ≠ N; omega)]
  exact h.2.block k hk hn
abbrev W5 (w : World) (N : Nat) (a b c d e : Value) : World := ((((w.setCell ⟨N, 0, none⟩ a).setCell ⟨N, 1, none⟩ b).setCell ⟨N, 2, none⟩ c).setCell ⟨N, 3, none⟩ d).setCell ⟨N, 4, none⟩ e
theorem PutP.five {M B : Nat} {ty : TypeId} {tail : List Value} {S : Rt.Src} {m m' : Rt.Mc} {X : McX} {w w' : World} (h : PutP M B ty tail S m m' X w w') (hMw : M < w.heap.size) {N : Nat} {cs : Array Value} {t : TypeId} (hN : w'.heap[N]? = some (.cells cs t (0, 0))) (hlt : w.heap.size ≤ N) (ht : ¬ PTy t ∧ t ≠ 3 ∧ t ≠ 68 ∧ t ≠ 24) (a b c d e : Value) : PutP M B ty tail S m m' X w (W5 w' N a b c d e) := by
  have n1 := set_block hN 0 a
  have n2 := set_block n1 1 b
  have n3 := set_block n2 2 c
  have n4 := set_block n3 3 d
  exact ((((h.aside hMw hN hlt ht 0 a).aside hMw n1 hlt ht 1 b).aside hMw n2 hlt ht 2 c).aside hMw n3 hlt ht 3 d).aside hMw n4 hlt ht 4 e
theorem five_cells {w : World} {N : Nat} {t : TypeId} {v0 v1 v2 v3 v4 : Value} (h : w.heap[N]? = some (.cells #[v0, v1, v2, v3, v4] t (0, 0))) :
    w.cell? ⟨N, 0, none⟩ = some v0 ∧ w.cell? ⟨N, 1, none⟩ = some v1 ∧ w.cell? ⟨N, 2, none⟩ = some v2 ∧ w.cell? ⟨N, 3, none⟩ = some v3 ∧ w.cell? ⟨N, 4, none⟩ = some v4 :=
  ⟨cell_of_block h 0 (by simp), cell_of_block h 1 (by simp), cell_of_block h 2 (by simp), cell_of_block h 3 (by simp), cell_of_block h 4 (by simp)⟩
set_option maxHeartbeats 1000000 in
theorem store_any (w : World) (M B : Nat) (ty : TypeId) (tail : List Value) (S : Rt.Src) (m : Rt.Mc) (X : McX) (s : Rt.Spot) (v : Int) (h : McS w M B ty tail S m X) (hm : Mok S m) :
    Calls Tryz.prog 77 #[.pointer (some ⟨M, 0, none⟩), .agg #[.int .i64 s.line, .int .i64 s.cell], .int .i64 v] w fun e w' => e = .returned (.agg #[.int .i64 4, .int .i64 0, .int .i64 s.line, .int .i64 s.cell, .int .i64 (Rt.getS m s)]) ∧ PutP M B ty tail S m (Rt.putS m s v) X w w' := by
  have hMw := block_lt h.block
  have hbA := (Below.refl w.heap.size w).alloc (Nat.le_refl _) (.cells #[.int .i64 s.line, .int .i64 s.cell] 85)
  have hbB := hbA.alloc (by simp) (.cells #[.int .i64 0, .int .i64 0, .int .i64 0, .int .i64 0, .int .i64 0] 87)
  have hA := h.later hbB
  have bS := block_alloc (heap_alloc_new w (.cells #[.int .i64 s.line, .int .i64 s.cell] 85)) (.cells #[.int .i64 0, .int .i64 0, .int .i64 0, .int .i64 0, .int .i64 0] 87)
  have bR := alloc2_plain w (.cells #[.int .i64 s.line, .int .i64 s.cell] 85) (.cells #[.int .i64 0, .int .i64 0, .int .i64 0, .int .i64 0, .int .i64 0] 87)
  clear h hbA
  go_enter Tryz.func77, Tryz.ntmps77
  go_wp2_with fail
  refine (get_any _ M B ty tail S m X s hA hm).mono ?_
  rintro e w1 ⟨rfl, hb1⟩
  have h1 := hA.later hb1
  have hB1 := hbB.trans (hb1.mono (B' := w.heap.size) (by simp; omega))
  have bS1 := block_later bS hb1
  have bR1 := block_later bR hb1
  have k0 := cell_of_block bS1 0 (by simp)
  have k1 := cell_of_block bS1 1 (by simp)
  simp at k0 k1
  clear hA hbB bS bR hb1
  generalize HOLD : Rt.getS m s = old at *
  go_wp2_with fail
  refine (put_any _ M B ty tail S m X s v h1 hm).mono ?_
  rintro e w2 ⟨rfl, h2, hf2⟩
  have hnS := rows_not h1.own bS1 (by decide)
  have hnR := rows_not h1.own bR1 (by decide)
  have bS2 := (hf2.block _ (block_lt bS1) hnS).trans bS1
  have bR2 := (hf2.block _ (block_lt bR1) hnR).trans bR1
  have q0 := cell_of_block bS2 0 (by simp)
  have q1 := cell_of_block bS2 1 (by simp)
  simp at q0 q1
  obtain ⟨r0, r1, r2, r3, r4⟩ := five_cells bR2
  have z := free_of_block bR2
  have HF := hide (show PutP M B ty tail S m (Rt.putS m s v) X w w2 from ⟨h2, (Frm.of_below _ hB1).trans hf2 (Grows.refl _ _)⟩)
  have hMlt : M < w.heap.size := hMw
  have HF2 := hide (fun a b c d e => (unhide HF).five hMlt bR2 (by omega) (by unfold PTy; decide) a b c d e)
  clear h1 h2 hf2 hB1 hm bS1 bR1 hnS hnR k0 k1 HF bS2 bR2
  go_wp2_with fail
  refine bodyPost_ret (v := .agg #[.int .i64 4, .int .i64 0, .int .i64 s.line, .int .i64 s.cell, .int .i64 old]) ?_ rfl ⟨by rw [HOLD], unhide HF2 _ _ _ _ _⟩
  simp [results, Tryz.results77, go_sem, r0, r1, r2, r3, r4]

namespace Rt
theorem parNo_eq : ∀ (i : Nat) (l : List ByteArray) (x : ByteArray), parNo i l x = parFrom i l x
  | _, [], _ => rfl
  | i, p :: r, x => by rw [parNo, parFrom, parNo_eq (i + 1) r x]
theorem varS_eq (S : Src) (m : Mc) (x : ByteArray) : varS S m x = if 0 ≤ parIdx S.pls (procOf S m) x then ⟨0, parIdx S.pls (procOf S m) x⟩ else ⟨declP S.pls x, 0⟩ := by
  unfold varS parIdx
  rw [parNo_eq]
end Rt
set_option maxHeartbeats 1000000 in
theorem mvar_any (w : World) (M B : Nat) (ty : TypeId) (tail : List Value) (S : Rt.Src) (m : Rt.Mc) (X : McX) (x : ByteArray) (h : McS w M B ty tail S m X) (hm : Mok S m) :
    Calls Tryz.prog 43 #[.pointer (some ⟨M, 0, none⟩), .string x] w fun e w' => e = .returned (.agg #[.int .i64 (Rt.varS S m x).line, .int .i64 (Rt.varS S m x).cell]) ∧ Below w.heap.size w w' := by
  have hpar := Rt.small_formAt hm.forms (Rt.procOf S m)
  have hlen := hm.pls
  have hbA := (Below.refl w.heap.size w).alloc (Nat.le_refl _) (.cells #[.int .i64 0, .int .i64 0] 85)
  have hA := h.later hbA
  have bR := heap_alloc_new w (.cells #[.int .i64 0, .int .i64 0] 85)
  have HV := hide (Rt.varS_eq S m x)
  clear h hm
  go_enter Tryz.func43, Tryz.ntmps43
  go_wp2_with fail
  refine (proc_any _ M B ty tail S m X hA).mono ?_
  rintro e w1 ⟨rfl, hb1⟩
  have h1 := hA.prog.later hb1
  have hB1 := hbA.trans (hb1.mono (B' := w.heap.size) (by simp))
  have bR1 := block_later bR hb1
  clear hA hbA hb1 bR
  generalize Rt.procOf S m = pc at *
  go_wp2_with fail
  refine (Param_m _ _ _ _ _ _ _ pc x h1 hpar).mono ?_
  rintro e w2 ⟨rfl, hb2⟩
  have h2 := h1.later hb2
  have hB2 := hB1.trans (hb2.mono (B' := w.heap.size) hB1.size)
  have bR2 := block_later bR1 hb2
  clear h1 hB1 hb2 bR1
  generalize Rt.parIdx S.pls pc x = pi at *
  by_cases hpi : 0 ≤ pi
  · have HE := hide (show Rt.varS S m x = ⟨0, pi⟩ by rw [unhide HV, if_pos hpi])
    have q0 := cell_of_block bR2 0 (by simp)
    have q1 := cell_of_block bR2 1 (by simp)
    have z := free_of_block bR2
    simp at q0 q1
    have HB := hide (fun a b : Value => (hB2.setCell (p := ⟨w.heap.size, 0, none⟩) (Nat.le_refl _) a).setCell (p := ⟨w.heap.size, 1, none⟩) (Nat.le_refl _) b)
    clear h2 hB2 HV hpar bR2
    go_wp2_with fail
    refine bodyPost_ret (v := .agg #[.int .i64 0, .int .i64 pi]) ?_ rfl ⟨by rw [unhide HE], unhide HB _ _⟩
    simp [results, Tryz.results43, go_sem, q0, q1]
  · have HE := hide (show Rt.varS S m x = ⟨Rt.declP S.pls x, 0⟩ by rw [unhide HV, if_neg hpi])
    have hpi' : ¬ 0 ≤ pi := hpi
    clear HV hpar
    go_wp2_with fail
    refine (declaration_m _ _ _ _ _ _ _ x h2 hlen).mono ?_
    rintro e w3 ⟨rfl, rfl⟩
    have q0 := cell_of_block bR2 0 (by simp)
    have q1 := cell_of_block bR2 1 (by simp)
    have z := free_of_block bR2
    simp at q0 q1
    have HB := hide (fun a b : Value => (hB2.setCell (p := ⟨w.heap.size, 0, none⟩) (Nat.le_refl _) a).setCell (p := ⟨w.heap.size, 1, none⟩) (Nat.le_refl _) b)
    clear h2 hB2 bR2
    generalize Rt.declP S.pls x = dp at *
    go_wp2_with fail
    refine bodyPost_ret (v := .agg #[.int .i64 dp, .int .i64 0]) ?_ rfl ⟨by rw [unhide HE], unhide HB _ _⟩
    simp [results, Tryz.results43, go_sem, q0, q1]

/-- What looking for a cell says. -/
def cellR : Option Rt.Spot → Value
  | none => .tuple #[.agg #[.int .i64 0, .int .i64 0], .bool false]
  | some s => .tuple #[.agg #[.int .i64 s.line, .int .i64 s.cell], .bool true]
set_option maxHeartbeats 1000000 in
theorem mcell_any (w : World) (M B : Nat) (ty : TypeId) (tail : List Value) (S : Rt.Src) (m : Rt.Mc) (X : McX) (x : ByteArray) (n : Int) (h : McS w M B ty tail S m X) (hm : Mok S m) :
    Calls Tryz.prog 79 #[.pointer (some ⟨M, 0, none⟩), .string x, .int .i64 n] w fun e w' => e = .returned (cellR (Rt.cellS S m x n)) ∧ Below w.heap.size w w' := by
  have hlen := hm.pls
  have hbA := (Below.refl w.heap.size w).alloc (Nat.le_refl _) (.cells #[.int .i64 0, .int .i64 0] 85)
  have hA := h.later hbA
  clear h
  go_enter Tryz.func79, Tryz.ntmps79
  go_wp2_with fail
  refine (declaration_m _ _ _ _ _ _ _ x hA.prog hlen).mono ?_
  rintro e w1 ⟨rfl, rfl⟩
  have HC := hide (show Rt.cellS S m x n = if Rt.hasS m ⟨Rt.declP S.pls x, n⟩ = true then some ⟨Rt.declP S.pls x, n⟩ else none from rfl)
  generalize HDP : (Rt.declP S.pls x : Int) = dp at *
  have hbB := hbA.alloc (by simp) (.cells #[.int .i64 dp, .int .i64 n] 85)
  have hB := hA.later ((Below.refl _ _).alloc (Nat.le_refl _) (.cells #[.int .i64 dp, .int .i64 n] 85))
  have bR := block_alloc (heap_alloc_new w (.cells #[.int .i64 0, .int .i64 0] 85)) (.cells #[.int .i64 dp, .int .i64 n] 85)
  have bS := alloc2_plain w (.cells #[.int .i64 0, .int .i64 0] 85) (.cells #[.int .i64 dp, .int .i64 n] 85)
  clear hA hbA
  go_wp2_with fail
  refine (has_any _ M B ty tail S m X ⟨dp, n⟩ hB hm).mono ?_
  rintro e w2 ⟨rfl, hb2⟩
  have hB2 := hbB.trans (hb2.mono (B' := w.heap.size) (by simp; omega))
  have bR2 := block_later bR hb2
  have bS2 := block_later bS hb2
  have q0 := cell_of_block bR2 0 (by simp)
  have q1 := cell_of_block bR2 1 (by simp)
  have z := free_of_block bR2
  have s0 := cell_of_block bS2 0 (by simp)
  have s1 := cell_of_block bS2 1 (by simp)
  simp at q0 q1 s0 s1
  have HB := hide (fun a b : Value => (hB2.setCell (p := ⟨w.heap.size, 0, none⟩) (Nat.le_refl _) a).setCell (p := ⟨w.heap.size, 1, none⟩) (Nat.le_refl _) b)
  clear hbB hB hb2 hB2 bR bS bR2 bS2 hm
  cases hh : Rt.hasS m ⟨dp, n⟩ with
  | true =>
    have HE := hide (show Rt.cellS S m x n = some ⟨dp, n⟩ by rw [unhide HC, if_pos hh])
    clear HC hh
    go_wp2_with fail
    refine bodyPost_ret (v := .tuple #[.agg #[.int .i64 dp, .int .i64 n], .bool true]) ?_ rfl ⟨by rw [unhide HE]; rfl, unhide HB _ _⟩
    simp [results, Tryz.results79, go_sem, q0, q1]
  | false =>
    have HE := hide (show Rt.cellS S m x n = none by rw [unhide HC, if_neg (by rw [hh]; simp)])
    clear HC hh
    go_wp2_with fail
    refine bodyPost_ret (v := .tuple #[.agg #[.int .i64 0, .int .i64 0], .bool false]) ?_ rfl ⟨by rw [unhide HE]; rfl, unhide HB _ _⟩
    simp [results, Tryz.results79, go_sem, q0, q1]
end Go.Proofs.YtbpajiljfppjcaaGreat

