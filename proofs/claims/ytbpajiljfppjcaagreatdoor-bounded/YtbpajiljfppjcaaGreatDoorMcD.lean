/- The machine: the stack of values, the signs. -/
import Derived.Test.YtbpajiljfppjcaaGreatDoorMcB
namespace Go.Proofs.YtbpajiljfppjcaaGreatDoor
open Go.RowKit
attribute [local go_sem ↓] Go.wp_at_zero Go.wp_at_succ

theorem Mok.put {S : Rt.Src} {m : Rt.Mc} (h : Mok S m) (s : Rt.Spot) (v : Int) : Mok S (Rt.putS m s v) := by
  unfold Rt.putS
  split
  · split
    · refine ⟨h.pls, h.input, h.frames, by simpa using h.values, h.output, h.params, ?_, h.forms⟩
      intro l hl
      obtain ⟨i, hi, rfl⟩ := List.getElem_of_mem hl
      simp only [List.length_modify] at hi
      rw [List.getElem_modify]
      split
      · rw [List.length_set]; exact h.cells _ (List.getElem_mem hi)
      · exact h.cells _ (List.getElem_mem hi)
    · refine ⟨h.pls, h.input, by simpa using h.frames, h.values, h.output, ?_, h.cells, h.forms⟩
      intro l hl
      obtain ⟨i, hi, rfl⟩ := List.getElem_of_mem hl
      simp only [List.length_modify] at hi
      rw [List.getElem_modify]
      split
      · simp only [List.length_set]; exact h.params _ (List.getElem_mem hi)
      · exact h.params _ (List.getElem_mem hi)
  · exact h

/-- What a call says that leaves the machine's rows where they are. -/
def PutP (M B : Nat) (ty : TypeId) (tail : List Value) (S : Rt.Src) (m m' : Rt.Mc) (X : McX) (w w' : World) : Prop := McS w' M B ty tail S m' X ∧ Frm w w' (blks (rowsOf S.input X m))

set_option maxHeartbeats 1000000 in
theorem put_any (w : World) (M B : Nat) (ty : TypeId) (tail : List Value) (S : Rt.Src) (m : Rt.Mc) (X : McX) (s : Rt.Spot) (v : Int) (h : McS w M B ty tail S m X) (hm : Mok S m) :
    Calls Tryz.prog 127 #[.pointer (some ⟨M, 0, none⟩), .agg #[.int .i64 s.line, .int .i64 s.cell], .int .i64 v] w fun e w' => e = .returned (.tuple #[]) ∧ PutP M B ty tail S m (Rt.putS m s v) X w w' := by
  have hcl := cells_len hm s.line
  have hbA := (Below.refl w.heap.size w).alloc (Nat.le_refl _) (.cells #[.int .i64 s.line, .int .i64 s.cell] 131)
  have hA := h.later hbA
  clear h
  go_enter Tryz.func127, Tryz.ntmps127
  go_wp2_with fail
  refine (cells_any _ M B ty tail S m X s.line hA hm).mono ?_
  rintro e w1 ⟨rfl, hb⟩
  have h1 := hA.later hb
  have hrow := h1.cellsRow s.line
  have hB := hbA.trans (hb.mono (B' := w.heap.size) (by simp))
  have hS := block_later (heap_alloc_new w (.cells #[.int .i64 s.line, .int .i64 s.cell] 131)) hb
  have cS := cell_of_block hS 1 (by simp)
  simp at cS
  have HH := hide (And.intro h1 hB)
  by_cases hh : Rt.hasS m s = true
  · obtain ⟨g, cap, hgv, hglt, q1, q2⟩ := h1.stored s hh v
    have hin : 0 ≤ s.cell ∧ s.cell < (Rt.cellsOf m s.line).length := of_decide_eq_true hh
    rw [hgv] at hrow ⊢
    have hfr := hrow.frozenAt s.cell.toNat
    have HF : Hid (PutP M B ty tail S m (Rt.putS m s v) X w (w1.setCell ⟨g, s.cell.toNat, none⟩ (.int .i64 v))) := hide ⟨q1, (Frm.of_below _ hB).trans q2 (Grows.refl _ _)⟩
    obtain ⟨g2, cap2, hgv2, _, _, ca⟩ := own_cell hrow (j := s.cell.toNat) (u := .int .i64 ((Rt.cellsOf m s.line)[s.cell.toNat]'(by omega))) (by simp [intsV, List.getElem?_eq_getElem (show s.cell.toNat < (Rt.cellsOf m s.line).length by omega)])
    injection hgv2 with e1 _ e2
    injection e1 with e1
    injection e1 with e1
    subst e1
    have hgS : ¬ g = w.heap.size := by
      intro e
      obtain ⟨c, hc⟩ := own_blk hrow (g := g) rfl
      rw [e, hS] at hc
      injection hc with hc
      injection hc with _ hc
      exact absurd hc (by decide)
    clear hrow hb hA hbA hS h1 hB q1 q2 hm hgv hh e2
    generalize (Rt.cellsOf m s.line)[s.cell.toNat]'(by omega) = old at *
    generalize (Rt.cellsOf m s.line).length = n at *
    obtain ⟨k, hk⟩ := Int.eq_ofNat_of_zero_le hin.1
    rw [hk] at cS HF hfr ca hin
    simp only [Int.toNat_natCast] at HF hfr ca
    have k1 : ¬ (k : Int) < 0 := by omega
    have k2 : ¬ (n : Int) ≤ (k : Int) := by omega
    have k3 : (k : Int) < (n : Int) := by omega
    have k0 : (0 : Int) ≤ (k : Int) := by omega
    clear hin
    go_wp2_with fail
    go_end0
    exact ⟨rfl, unhide HF⟩
  · have hout : ¬ (0 ≤ s.cell ∧ s.cell < (Rt.cellsOf m s.line).length) := fun e => hh (decide_eq_true e)
    have HF : Hid (PutP M B ty tail S m (Rt.putS m s v) X w w1) := by
      refine hide ?_
      rw [show Rt.putS m s v = m by unfold Rt.putS; rw [if_neg hh]]
      exact ⟨h1, Frm.of_below _ hB⟩
    obtain ⟨ad, cap, hv⟩ := ownsRow_form hrow
    rw [hv]
    clear hrow hb hA hbA hS h1 hB hm hh hv
    generalize (Rt.cellsOf m s.line).length = n at *
    generalize s.cell = c at *
    by_cases hc : c < 0
    · clear hout
      go_wp2_with fail
      refine bodyPost_ret (results_none rfl _ _ _) rfl ?_
      exact ⟨rfl, unhide HF⟩
    · have hc2 : (n : Int) ≤ c := by omega
      clear hout
      go_wp2_with fail
      refine bodyPost_ret (results_none rfl _ _ _) rfl ?_
      exact ⟨rfl, unhide HF⟩

set_option maxHeartbeats 1000000 in
theorem has_any (w : World) (M B : Nat) (ty : TypeId) (tail : List Value) (S : Rt.Src) (m : Rt.Mc) (X : McX) (s : Rt.Spot) (h : McS w M B ty tail S m X) (hm : Mok S m) :
    Calls Tryz.prog 132 #[.pointer (some ⟨M, 0, none⟩), .agg #[.int .i64 s.line, .int .i64 s.cell]] w fun e w' => e = .returned (.bool (Rt.hasS m s)) ∧ Below w.heap.size w w' := by
  have hcl := cells_len hm s.line
  have hbA := (Below.refl w.heap.size w).alloc (Nat.le_refl _) (.cells #[.int .i64 s.line, .int .i64 s.cell] 131)
  have hA := h.later hbA
  clear h
  go_enter Tryz.func132, Tryz.ntmps132
  go_wp2_with fail
  refine (cells_any _ M B ty tail S m X s.line hA hm).mono ?_
  rintro e w1 ⟨rfl, hb⟩
  have hrow := own_later (hA.cellsRow s.line) hb
  have HB := hide (hbA.trans (hb.mono (B' := w.heap.size) (by simp)))
  have hS := block_later (heap_alloc_new w (.cells #[.int .i64 s.line, .int .i64 s.cell] 131)) hb
  have cS := cell_of_block hS 1 (by simp)
  simp at cS
  obtain ⟨ad, cap, hv⟩ := ownsRow_form hrow
  rw [hv]
  have HE := hide (show Rt.hasS m s = decide (0 ≤ s.cell ∧ s.cell < (Rt.cellsOf m s.line).length) from rfl)
  clear hrow hb hA hbA hS hm hv
  generalize (Rt.cellsOf m s.line).length = n at *
  generalize s.cell = c at *
  by_cases h1 : 0 ≤ c
  · by_cases h2 : c < (n : Int)
    · have HR := hide (show Rt.hasS m s = true by rw [unhide HE]; exact decide_eq_true ⟨h1, h2⟩)
      go_wp2_with fail
      go_ret
      exact ⟨by rw [unhide HR]; rfl, unhide HB⟩
    · have HR := hide (show Rt.hasS m s = false by rw [unhide HE]; exact decide_eq_false (fun e => h2 e.2))
      go_wp2_with fail
      go_ret
      exact ⟨by rw [unhide HR]; exact ret_bool (decide_eq_false (by omega)), unhide HB⟩
  · have HR := hide (show Rt.hasS m s = false by rw [unhide HE]; exact decide_eq_false (fun e => h1 e.1))
    go_wp2_with fail
    go_ret
    exact ⟨by rw [unhide HR]; rfl, unhide HB⟩

theorem rows_not {w : World} {inp : List Int} {X : McX} {m : Rt.Mc} (h : Own w (rowsOf inp X m)) {N : Nat} {cs : Array Value} {t : TypeId} (hN : w.heap[N]? = some (.cells cs t (0, 0))) (ht : t ≠ 3 ∧ t ≠ 124 ∧ t ≠ 22) : N ∉ blks (rowsOf inp X m) := by
  intro e
  obtain ⟨r, hr, hg⟩ := List.mem_filterMap.mp e
  obtain ⟨c, hc⟩ := own_blk (h.rows r hr) hg
  rw [hN] at hc
  injection hc with hc
  injection hc with _ hc
  have := rows_ty3 hr
  rw [← hc] at this
  rcases this with e | e | e
  · exact ht.1 e
  · exact ht.2.1 e
  · exact ht.2.2 e
theorem PutP.aside {M B : Nat} {ty : TypeId} {tail : List Value} {S : Rt.Src} {m m' : Rt.Mc} {X : McX} {w w' : World} (h : PutP M B ty tail S m m' X w w') (hMw : M < w.heap.size) {N : Nat} {cs : Array Value} {t : TypeId} (hN : w'.heap[N]? = some (.cells cs t (0, 0))) (hlt : w.heap.size ≤ N) (ht : ¬ PTy t ∧ t ≠ 3 ∧ t ≠ 124 ∧ t ≠ 22) (i : Nat) (v : Value) : PutP M B ty tail S m m' X w (w'.setCell ⟨N, i, none⟩ v) := by
  refine ⟨h.1.aside hN (by omega) ht i v, ⟨h.2.os, h.2.tape, h.2.output, Nat.le_trans h.2.size (by simp [World.setCell]), fun k hk hn => ?_⟩⟩
  rw [Below.heap_setCell w' ⟨N, i, none⟩ v k (by show k ≠ N; omega)]
  exact h.2.block k hk hn
abbrev W5 (w : World) (N : Nat) (a b c d e : Value) : World := ((((w.setCell ⟨N, 0, none⟩ a).setCell ⟨N, 1, none⟩ b).setCell ⟨N, 2, none⟩ c).setCell ⟨N, 3, none⟩ d).setCell ⟨N, 4, none⟩ e
theorem PutP.five {M B : Nat} {ty : TypeId} {tail : List Value} {S : Rt.Src} {m m' : Rt.Mc} {X : McX} {w w' : World} (h : PutP M B ty tail S m m' X w w') (hMw : M < w.heap.size) {N : Nat} {cs : Array Value} {t : TypeId} (hN : w'.heap[N]? = some (.cells cs t (0, 0))) (hlt : w.heap.size ≤ N) (ht : ¬ PTy t ∧ t ≠ 3 ∧ t ≠ 124 ∧ t ≠ 22) (a b c d e : Value) : PutP M B ty tail S m m' X w (W5 w' N a b c d e) := by
  have n1 := set_block hN 0 a
  have n2 := set_block n1 1 b
  have n3 := set_block n2 2 c
  have n4 := set_block n3 3 d
  exact ((((h.aside hMw hN hlt ht 0 a).aside hMw n1 hlt ht 1 b).aside hMw n2 hlt ht 2 c).aside hMw n3 hlt ht 3 d).aside hMw n4 hlt ht 4 e
theorem five_cells {w : World} {N : Nat} {t : TypeId} {v0 v1 v2 v3 v4 : Value} (h : w.heap[N]? = some (.cells #[v0, v1, v2, v3, v4] t (0, 0))) :
    w.cell? ⟨N, 0, none⟩ = some v0 ∧ w.cell? ⟨N, 1, none⟩ = some v1 ∧ w.cell? ⟨N, 2, none⟩ = some v2 ∧ w.cell? ⟨N, 3, none⟩ = some v3 ∧ w.cell? ⟨N, 4, none⟩ = some v4 :=
  ⟨cell_of_block h 0 (by simp), cell_of_block h 1 (by simp), cell_of_block h 2 (by simp), cell_of_block h 3 (by simp), cell_of_block h 4 (by simp)⟩
set_option maxHeartbeats 1000000 in
theorem store_any (w : World) (M B : Nat) (ty : TypeId) (tail : List Value) (S : Rt.Src) (m : Rt.Mc) (X : McX) (s : Rt.Spot) (v : Int) (h : McS w M B ty tail S m X) (hm : Mok S m) :
    Calls Tryz.prog 122 #[.pointer (some ⟨M, 0, none⟩), .agg #[.int .i64 s.line, .int .i64 s.cell], .int .i64 v] w fun e w' => e = .returned (.agg #[.int .i64 4, .int .i64 0, .int .i64 s.line, .int .i64 s.cell, .int .i64 (Rt.getS m s)]) ∧ PutP M B ty tail S m (Rt.putS m s v) X w w' := by
  have hMw := block_lt h.block
  have hbA := (Below.refl w.heap.size w).alloc (Nat.le_refl _) (.cells #[.int .i64 s.line, .int .i64 s.cell] 131)
  have hbB := hbA.alloc (by simp) (.cells #[.int .i64 0, .int .i64 0, .int .i64 0, .int .i64 0, .int .i64 0] 133)
  have hA := h.later hbB
  have bS := block_alloc (heap_alloc_new w (.cells #[.int .i64 s.line, .int .i64 s.cell] 131)) (.cells #[.int .i64 0, .int .i64 0, .int .i64 0, .int .i64 0, .int .i64 0] 133)
  have bR := alloc2_plain w (.cells #[.int .i64 s.line, .int .i64 s.cell] 131) (.cells #[.int .i64 0, .int .i64 0, .int .i64 0, .int .i64 0, .int .i64 0] 133)
  clear h hbA
  go_enter Tryz.func122, Tryz.ntmps122
  go_wp2_with fail
  refine (get_any _ M B ty tail S m X s hA hm).mono ?_
  rintro e w1 ⟨rfl, hb1⟩
  have h1 := hA.later hb1
  have hB1 := hbB.trans (hb1.mono (B' := w.heap.size) (by simp; omega))
  have bS1 := block_later bS hb1
  have bR1 := block_later bR hb1
  have k0 := cell_of_block bS1 0 (by simp)
  have k1 := cell_of_block bS1 1 (by simp)
  simp at k0 k1
  clear hA hbB bS bR hb1
  generalize HOLD : Rt.getS m s = old at *
  go_wp2_with fail
  refine (put_any _ M B ty tail S m X s v h1 hm).mono ?_
  rintro e w2 ⟨rfl, h2, hf2⟩
  have hnS := rows_not h1.own bS1 (by decide)
  have hnR := rows_not h1.own bR1 (by decide)
  have bS2 := (hf2.block _ (block_lt bS1) hnS).trans bS1
  have bR2 := (hf2.block _ (block_lt bR1) hnR).trans bR1
  have q0 := cell_of_block bS2 0 (by simp)
  have q1 := cell_of_block bS2 1 (by simp)
  simp at q0 q1
  obtain ⟨r0, r1, r2, r3, r4⟩ := five_cells bR2
  have z := free_of_block bR2
  have HF := hide (show PutP M B ty tail S m (Rt.putS m s v) X w w2 from ⟨h2, (Frm.of_below _ hB1).trans hf2 (Grows.refl _ _)⟩)
  have hMlt : M < w.heap.size := hMw
  have HF2 := hide (fun a b c d e => (unhide HF).five hMlt bR2 (by omega) (by unfold PTy; decide) a b c d e)
  clear h1 h2 hf2 hB1 hm bS1 bR1 hnS hnR k0 k1 HF bS2 bR2
  go_wp2_with fail
  refine bodyPost_ret (v := .agg #[.int .i64 4, .int .i64 0, .int .i64 s.line, .int .i64 s.cell, .int .i64 old]) ?_ rfl ⟨by rw [HOLD], unhide HF2 _ _ _ _ _⟩
  simp [results, Tryz.results122, go_sem, r0, r1, r2, r3, r4]

namespace Rt
theorem parNo_eq : ∀ (i : Nat) (l : List ByteArray) (x : ByteArray), parNo i l x = parFrom i l x
  | _, [], _ => rfl
  | i, p :: r, x => by rw [parNo, parFrom, parNo_eq (i + 1) r x]
theorem varS_eq (S : Src) (m : Mc) (x : ByteArray) : varS S m x = if 0 ≤ parIdx S.pls (procOf S m) x then ⟨0, parIdx S.pls (procOf S m) x⟩ else ⟨declP S.pls x, 0⟩ := by
  unfold varS parIdx
  rw [parNo_eq]
end Rt
set_option maxHeartbeats 1000000 in
theorem mvar_any (w : World) (M B : Nat) (ty : TypeId) (tail : List Value) (S : Rt.Src) (m : Rt.Mc) (X : McX) (x : ByteArray) (h : McS w M B ty tail S m X) (hm : Mok S m) :
    Calls Tryz.prog 110 #[.pointer (some ⟨M, 0, none⟩), .string x] w fun e w' => e = .returned (.agg #[.int .i64 (Rt.varS S m x).line, .int .i64 (Rt.varS S m x).cell]) ∧ Below w.heap.size w w' := by
  have hpar := Rt.small_formAt hm.forms (Rt.procOf S m)
  have hlen := hm.pls
  have hbA := (Below.refl w.heap.size w).alloc (Nat.le_refl _) (.cells #[.int .i64 0, .int .i64 0] 131)
  have hA := h.later hbA
  have bR := heap_alloc_new w (.cells #[.int .i64 0, .int .i64 0] 131)
  have HV := hide (Rt.varS_eq S m x)
  clear h hm
  go_enter Tryz.func110, Tryz.ntmps110
  go_wp2_with fail
  refine (proc_any _ M B ty tail S m X hA).mono ?_
  rintro e w1 ⟨rfl, hb1⟩
  have h1 := hA.prog.later hb1
  have hB1 := hbA.trans (hb1.mono (B' := w.heap.size) (by simp))
  have bR1 := block_later bR hb1
  clear hA hbA hb1 bR
  generalize Rt.procOf S m = pc at *
  go_wp2_with fail
  refine (Param_m _ _ _ _ _ _ _ pc x h1 hpar).mono ?_
  rintro e w2 ⟨rfl, hb2⟩
  have h2 := h1.later hb2
  have hB2 := hB1.trans (hb2.mono (B' := w.heap.size) hB1.size)
  have bR2 := block_later bR1 hb2
  clear h1 hB1 hb2 bR1
  generalize Rt.parIdx S.pls pc x = pi at *
  by_cases hpi : 0 ≤ pi
  · have HE := hide (show Rt.varS S m x = ⟨0, pi⟩ by rw [unhide HV, if_pos hpi])
    have q0 := cell_of_block bR2 0 (by simp)
    have q1 := cell_of_block bR2 1 (by simp)
    have z := free_of_block bR2
    simp at q0 q1
    have HB := hide (fun a b : Value => (hB2.setCell (p := ⟨w.heap.size, 0, none⟩) (Nat.le_refl _) a).setCell (p := ⟨w.heap.size, 1, none⟩) (Nat.le_refl _) b)
    clear h2 hB2 HV hpar bR2
    go_wp2_with fail
    refine bodyPost_ret (v := .agg #[.int .i64 0, .int .i64 pi]) ?_ rfl ⟨by rw [unhide HE], unhide HB _ _⟩
    simp [results, Tryz.results110, go_sem, q0, q1]
  · have HE := hide (show Rt.varS S m x = ⟨Rt.declP S.pls x, 0⟩ by rw [unhide HV, if_neg hpi])
    have hpi' : ¬ 0 ≤ pi := hpi
    clear HV hpar
    go_wp2_with fail
    refine (declaration_m _ _ _ _ _ _ _ x h2 hlen).mono ?_
    rintro e w3 ⟨rfl, rfl⟩
    have q0 := cell_of_block bR2 0 (by simp)
    have q1 := cell_of_block bR2 1 (by simp)
    have z := free_of_block bR2
    simp at q0 q1
    have HB := hide (fun a b : Value => (hB2.setCell (p := ⟨w.heap.size, 0, none⟩) (Nat.le_refl _) a).setCell (p := ⟨w.heap.size, 1, none⟩) (Nat.le_refl _) b)
    clear h2 hB2 bR2
    generalize Rt.declP S.pls x = dp at *
    go_wp2_with fail
    refine bodyPost_ret (v := .agg #[.int .i64 dp, .int .i64 0]) ?_ rfl ⟨by rw [unhide HE], unhide HB _ _⟩
    simp [results, Tryz.results110, go_sem, q0, q1]

/-- What looking for a cell says. -/
def cellR : Option Rt.Spot → Value
  | none => .tuple #[.agg #[.int .i64 0, .int .i64 0], .bool false]
  | some s => .tuple #[.agg #[.int .i64 s.line, .int .i64 s.cell], .bool true]
set_option maxHeartbeats 1000000 in
theorem mcell_any (w : World) (M B : Nat) (ty : TypeId) (tail : List Value) (S : Rt.Src) (m : Rt.Mc) (X : McX) (x : ByteArray) (n : Int) (h : McS w M B ty tail S m X) (hm : Mok S m) :
    Calls Tryz.prog 113 #[.pointer (some ⟨M, 0, none⟩), .string x, .int .i64 n] w fun e w' => e = .returned (cellR (Rt.cellS S m x n)) ∧ Below w.heap.size w w' := by
  have hlen := hm.pls
  have hbA := (Below.refl w.heap.size w).alloc (Nat.le_refl _) (.cells #[.int .i64 0, .int .i64 0] 131)
  have hA := h.later hbA
  clear h
  go_enter Tryz.func113, Tryz.ntmps113
  go_wp2_with fail
  refine (declaration_m _ _ _ _ _ _ _ x hA.prog hlen).mono ?_
  rintro e w1 ⟨rfl, rfl⟩
  have HC := hide (show Rt.cellS S m x n = if Rt.hasS m ⟨Rt.declP S.pls x, n⟩ = true then some ⟨Rt.declP S.pls x, n⟩ else none from rfl)
  generalize HDP : (Rt.declP S.pls x : Int) = dp at *
  have hbB := hbA.alloc (by simp) (.cells #[.int .i64 dp, .int .i64 n] 131)
  have hB := hA.later ((Below.refl _ _).alloc (Nat.le_refl _) (.cells #[.int .i64 dp, .int .i64 n] 131))
  have bR := block_alloc (heap_alloc_new w (.cells #[.int .i64 0, .int .i64 0] 131)) (.cells #[.int .i64 dp, .int .i64 n] 131)
  have bS := alloc2_plain w (.cells #[.int .i64 0, .int .i64 0] 131) (.cells #[.int .i64 dp, .int .i64 n] 131)
  clear hA hbA
  go_wp2_with fail
  refine (has_any _ M B ty tail S m X ⟨dp, n⟩ hB hm).mono ?_
  rintro e w2 ⟨rfl, hb2⟩
  have hB2 := hbB.trans (hb2.mono (B' := w.heap.size) (by simp; omega))
  have bR2 := block_later bR hb2
  have bS2 := block_later bS hb2
  have q0 := cell_of_block bR2 0 (by simp)
  have q1 := cell_of_block bR2 1 (by simp)
  have z := free_of_block bR2
  have s0 := cell_of_block bS2 0 (by simp)
  have s1 := cell_of_block bS2 1 (by simp)
  simp at q0 q1 s0 s1
  have HB := hide (fun a b : Value => (hB2.setCell (p := ⟨w.heap.size, 0, none⟩) (Nat.le_refl _) a).setCell (p := ⟨w.heap.size, 1, none⟩) (Nat.le_refl _) b)
  clear hbB hB hb2 hB2 bR bS bR2 bS2 hm
  cases hh : Rt.hasS m ⟨dp, n⟩ with
  | true =>
    have HE := hide (show Rt.cellS S m x n = some ⟨dp, n⟩ by rw [unhide HC, if_pos hh])
    clear HC hh
    go_wp2_with fail
    refine bodyPost_ret (v := .tuple #[.agg #[.int .i64 dp, .int .i64 n], .bool true]) ?_ rfl ⟨by rw [unhide HE]; rfl, unhide HB _ _⟩
    simp [results, Tryz.results113, go_sem, q0, q1]
  | false =>
    have HE := hide (show Rt.cellS S m x n = none by rw [unhide HC, if_neg (by rw [hh]; simp)])
    clear HC hh
    go_wp2_with fail
    refine bodyPost_ret (v := .tuple #[.agg #[.int .i64 0, .int .i64 0], .bool false]) ?_ rfl ⟨by rw [unhide HE]; rfl, unhide HB _ _⟩
    simp [results, Tryz.results113, go_sem, q0, q1]
end Go.Proofs.YtbpajiljfppjcaaGreatDoor

namespace Go.Proofs.YtbpajiljfppjcaaGreatDoor
open Go.RowKit
attribute [local go_sem ↓] Go.wp_at_zero Go.wp_at_succ

/-- The values at hand, at block K. -/
structure StkS (w : World) (K : Nat) (st : List Int) (sv : Value) : Prop where
  block : w.heap[K]? = some (.cells #[sv] 196 (0, 0))
  own : w.ownsRow (K + 1) 3 1 sv st.length (intsV st)
theorem StkS.later {w w' : World} {K : Nat} {st : List Int} {sv : Value} (h : StkS w K st sv) (hb : Below w.heap.size w w') : StkS w' K st sv := ⟨block_later h.block hb, own_later h.own hb⟩
/-- What a call leaves that writes to the stack alone. -/
structure StkF (K : Nat) (sv : Value) (w w' : World) : Prop where
  os : w'.os = w.os
  tape : w'.tape = w.tape
  output : w'.output = w.output
  size : w.heap.size ≤ w'.heap.size
  block : ∀ k, k < w.heap.size → k ≠ K → some k ≠ sv.ownBlock → w'.heap[k]? = w.heap[k]?
theorem StkF.below {K : Nat} {sv : Value} {w w' : World} {st : List Int} (h : StkF K sv w w') (hs : StkS w K st sv) : Below K w w' := by
  have hlt := block_lt hs.block
  exact ⟨h.os, h.tape, h.output, h.size, fun k hk => h.block k (by omega) (by omega) (fun e => by have := (hs.own.lt k e.symm).1; omega)⟩
theorem StkF.other {K : Nat} {sv : Value} {w w' : World} {st : List Int} (h : StkF K sv w w') (hs : StkS w K st sv) {N : Nat} {c : Array Value} {t : TypeId} (hN : w.heap[N]? = some (.cells c t (0, 0))) (h1 : t ≠ 3) (h2 : t ≠ 196) : w'.heap[N]? = some (.cells c t (0, 0)) := by
  rw [h.block N (block_lt hN) ?_ ?_]
  · exact hN
  · intro e
    rw [e, hs.block] at hN
    injection hN with hN
    injection hN with _ hN
    exact h2 hN.symm
  · intro e
    obtain ⟨c', hc⟩ := own_blk hs.own e.symm
    rw [hN] at hc
    injection hc with hc
    injection hc with _ hc
    exact h1 hc
theorem sdec (o : List Int) : o = [] ∨ ∃ pre x, o = pre ++ [x] := by
  rcases List.eq_nil_or_concat o with h | ⟨pre, b, h⟩
  · exact Or.inl h
  · exact Or.inr ⟨pre, b, by simpa using h⟩
theorem StkS.put {w w1 wx : World} {K : Nat} {st st' : List Int} {sv sv' : Value} (h : StkS w K st sv) (hb : Below w.heap.size w wx) (hg : wx.grownBy w1 sv.ownBlock)
    (hown : w1.ownsRow (K + 1) 3 1 sv' st'.length (intsV st')) : StkS (w1.setCell ⟨K, 0, none⟩ sv') K st' sv' ∧ StkF K sv w (w1.setCell ⟨K, 0, none⟩ sv') := by
  have hlt := block_lt h.block
  have hne : ∀ k, k ≤ K → some k ≠ sv.ownBlock := fun k hk e => by have := (h.own.lt k e.symm).1; omega
  have hkeep : ∀ k, k < w.heap.size → some k ≠ sv.ownBlock → w1.heap[k]? = w.heap[k]? := fun k hk hv => (hg.block k (Nat.lt_of_lt_of_le hk hb.size) hv).trans (hb.block k hk)
  have hset : ∀ k, k ≠ K → (w1.setCell ⟨K, 0, none⟩ sv').heap[k]? = w1.heap[k]? := fun k hk => Below.heap_setCell w1 ⟨K, 0, none⟩ _ k hk
  refine ⟨⟨?_, ownsRow_setCell_below hown (by show K < K + 1; omega) _⟩, ⟨hg.os.trans hb.os, hg.tape.trans hb.tape, hg.output.trans hb.output, ?_, fun k hk hk2 hk3 => ?_⟩⟩
  · have := set_block ((hkeep K hlt (hne K (Nat.le_refl _))).trans h.block) 0 sv'
    simpa using this
  · have := hg.size
    have := hb.size
    simp [World.setCell]
    omega
  · rw [hset k hk2, hkeep k hk hk3]
theorem stk_far {w w1 wx : World} {K : Nat} {st : List Int} {sv : Value} (h : StkS w K st sv) (hb : Below w.heap.size w wx) (hg : wx.grownBy w1 sv.ownBlock) : w1.cell? ⟨K, 0, none⟩ = some sv ∧ w1.frozen? ⟨K, 0, none⟩ = false := by
  have hlt := block_lt h.block
  have hk : w1.heap[K]? = some (.cells #[sv] 196 (0, 0)) := by
    rw [hg.block K (Nat.lt_of_lt_of_le hlt hb.size) (fun e => by have := (h.own.lt K e.symm).1; omega), hb.block K hlt]
    exact h.block
  exact ⟨cell_of_block hk 0 (by simp), free_of_block hk 0⟩
theorem Tryz.infoIntK : (Tryz.prog.info? 3).map (fun i => (i.zero, i.size, i.bytes)) = some (some (.int .i64 0), 1, 8) := by kernel_rfl

set_option maxHeartbeats 1000000 in
theorem push_any (w : World) (K : Nat) (st : List Int) (sv : Value) (v : Int) (h : StkS w K st sv) (hlen : st.length ≤ 2000) :
    Calls Tryz.prog 157 #[.pointer (some ⟨K, 0, none⟩), .int .i64 v] w fun e w' => e = .returned (.tuple #[]) ∧ (∃ sv', StkS w' K (st ++ [v]) sv') ∧ StkF K sv w w' := by
  obtain ⟨i0, hi0, hz0, hz1, hz2⟩ := info_parts Tryz.infoIntK
  have hown := h.own
  have c0 := cell_of_block h.block 0 (by simp)
  simp at c0
  have hKlt := block_lt h.block
  have HH := hide h
  obtain ⟨ad, cap, rfl⟩ := ownsRow_form h.own
  clear h
  go_enter Tryz.func157, Tryz.ntmps157
  go_wp2_with (at_builtin; refine wpList_append_lies _ rfl _ _ 22 rfl (K + 1) 3 i0 _ 1 8 Tryz.underlying22 hi0 hz0 hz1 hz2 rfl (by decide) _ _ _ rfl (hown.alloc _) ⟨w.heap.size, 0, none⟩ 1 1 [.int .i64 v] rfl rfl (cell_one_new _ _ _) (by simp [Value.oneCell']) (by omega) (by unfold maxLen; omega) (by omega) (by simp; omega) (w.heap.size + 1) (by simp) ?_)
  intro g cap' w4 hown4 hgrow hat hlt4
  obtain ⟨hfar, hfz⟩ := stk_far (unhide HH) ((Below.refl _ _).alloc (Nat.le_refl _) _) hgrow
  have HF := hide ((unhide HH).put (st' := st ++ [v]) ((Below.refl _ _).alloc (Nat.le_refl _) _) hgrow (by rw [List.length_append, intsV, List.map_append]; exact hown4))
  clear hown4 hgrow hat hown
  go_wp2_with fail
  go_end0
  exact ⟨rfl, ⟨_, (unhide HF).1⟩, (unhide HF).2⟩

set_option maxHeartbeats 1000000 in
theorem pop_any (w : World) (K : Nat) (st : List Int) (sv : Value) (h : StkS w K st sv) (hlen : st.length ≤ 2000) :
    Calls Tryz.prog 147 #[.pointer (some ⟨K, 0, none⟩)] w fun e w' => e = .returned (.int .i64 (st.getLastD 0)) ∧ (∃ sv', StkS w' K st.dropLast sv') ∧ StkF K sv w w' := by
  have c0 := cell_of_block h.block 0 (by simp)
  have f0 := free_of_block h.block 0
  simp at c0
  rcases sdec st with rfl | ⟨pre, x, rfl⟩
  · have HF := hide h
    obtain ⟨ad, cap, rfl⟩ := ownsRow_form h.own
    simp only [List.length_nil] at c0
    clear h
    go_enter Tryz.func147, Tryz.ntmps147
    go_wp2_with fail
    go_ret
    exact ⟨rfl, ⟨_, unhide HF⟩, ⟨rfl, rfl, rfl, Nat.le_refl _, fun _ _ _ _ => rfl⟩⟩
  · have hlen' : pre.length + 1 ≤ 3000 := by simp at hlen; omega
    have e0 : (intsV (pre ++ [x]))[pre.length]? = some (.int .i64 x) := by simp [intsV]
    obtain ⟨g, cap, hgv, hg, _, ca⟩ := own_cell h.own e0
    have hown := h.own
    have h2 := h
    subst hgv
    simp only [List.length_append, List.length_cons, List.length_nil, Nat.zero_add] at hown c0 h2 ⊢
    have hcap : pre.length + 1 ≤ cap := by
      rcases hown.2 with ⟨h', _⟩ | ⟨g', cap', cur, h', _, _, hn, _⟩
      · cases h'
      · simp at h'; omega
    have hpop : w.ownsRow (K + 1) 3 1 (.slice (some ⟨g, 0, none⟩) pre.length cap) pre.length (intsV pre) := by
      rw [intsV, List.map_append] at hown
      exact ownsRow_pop (by simp [intsV]) hown
    have HF := hide (fun q => h2.put (st' := pre) (below_drewN w q) ⟨rfl, rfl, rfl, Nat.le_refl _, fun _ _ _ => rfl⟩ (show (w.drewN q).ownsRow (K + 1) 3 1 (.slice (some ⟨g, 0, none⟩) pre.length cap) pre.length (intsV pre) from hpop))
    rw [show (pre ++ [x]).getLastD 0 = x by simp, show (pre ++ [x]).dropLast = pre by simp]
    clear h h2 hown hpop
    generalize HPL : pre.length = m at *
    replace HPL := hide HPL
    have hm0 : (0 : Int) ≤ (m : Int) := by omega
    have hm1 : (m : Int) < (m : Int) + 1 := by omega
    have hm2 : (m : Int) ≤ 3000 := by omega
    have hm3 : IntKind.i64.wrap ((m : Int) + 1 - 1) = (m : Int) := by rw [show (m : Int) + 1 - 1 = (m : Int) by omega, IntWalk.i64_left, IntWalk.wrap64_in _ (by omega)]
    have hm4 : IntKind.i64.wrap (m : Int) = (m : Int) := by rw [IntWalk.i64_left, IntWalk.wrap64_in _ (by omega)]
    have hm5 : ¬ (m : Int) < 0 := by omega
    have hm6 : (m : Int) ≤ (cap : Int) := by omega
    go_enter Tryz.func147, Tryz.ntmps147
    go_wp2_with fail
    go_ret
    exact ⟨rfl, ⟨_, (unhide HF 0).1⟩, (unhide HF 0).2⟩

theorem truth_any (w : World) (b : Bool) : Calls Tryz.prog 164 #[.bool b] w fun e w' => e = .returned (.int .i64 (Rt.truthI b)) ∧ w' = w := by
  cases b
  all_goals
    go_enter Tryz.func164, Tryz.ntmps164
    go_wp2_with fail
    go_ret
    exact ⟨rfl, rfl⟩

set_option maxHeartbeats 1000000 in
theorem combine_any (w : World) (code l r : Int) : Calls Tryz.prog 158 #[.int .i64 code, .int .i64 l, .int .i64 r] w fun e w' => e = .returned (.tuple #[.int .i64 (Rt.combineI code l r).1, .int .i64 (Rt.combineI code l r).2]) ∧ w' = w := by
  have n5 : ∀ k : Int, ¬ code = k → (code == k) = false := fun k h => by rw [beq_eq_false_iff_ne]; exact h
  by_cases h5 : code = 5
  · subst h5
    have HE := hide (show Rt.combineI 5 l r = (wrap64 (l + r), 0) from rfl)
    clear n5
    go_enter Tryz.func158, Tryz.ntmps158
    go_wp2_with fail
    go_ret2
    exact ⟨by rw [unhide HE]; rfl, rfl⟩
  by_cases h6 : code = 6
  · subst h6
    have HE := hide (show Rt.combineI 6 l r = (wrap64 (l - r), 0) from rfl)
    clear n5 h5
    go_enter Tryz.func158, Tryz.ntmps158
    go_wp2_with fail
    go_ret2
    exact ⟨by rw [unhide HE]; rfl, rfl⟩
  by_cases h7 : code = 7
  · subst h7
    have HE := hide (show Rt.combineI 7 l r = (wrap64 (l * r), 0) from rfl)
    clear n5 h5 h6
    go_enter Tryz.func158, Tryz.ntmps158
    go_wp2_with fail
    go_ret2
    exact ⟨by rw [unhide HE]; rfl, rfl⟩
  by_cases h10 : code = 10
  · subst h10
    have HE := hide (show Rt.combineI 10 l r = (Rt.truthI (decide (l < r)), 0) from rfl)
    clear n5 h5 h6 h7
    go_enter Tryz.func158, Tryz.ntmps158
    go_wp2_with fail
    refine (truth_any _ (decide (l < r))).mono ?_
    rintro e w1 ⟨rfl, rfl⟩
    go_wp2_with fail
    go_ret2
    exact ⟨by rw [unhide HE]; rfl, rfl⟩
  by_cases h11 : code = 11
  · subst h11
    have HE := hide (show Rt.combineI 11 l r = (Rt.truthI (decide (l = r)), 0) from rfl)
    clear n5 h5 h6 h7 h10
    go_enter Tryz.func158, Tryz.ntmps158
    go_wp2_with fail
    refine (truth_any _ _).mono ?_
    rintro e w1 ⟨rfl, rfl⟩
    go_wp2_with fail
    go_ret2
    exact ⟨by rw [unhide HE, beq_eq_decide]; rfl, rfl⟩
  have b5 := n5 5 h5
  have b6 := n5 6 h6
  have b7 := n5 7 h7
  have b10 := n5 10 h10
  have b11 := n5 11 h11
  have HC := hide (show Rt.combineI code l r = if r = 0 then (0, 2) else if code = 8 then (wrap64 (l.tdiv r), 0) else (l.tmod r, 0) by unfold Rt.combineI; rw [if_neg h5, if_neg h6, if_neg h7, if_neg h10, if_neg h11])
  clear n5 h5 h6 h7 h10 h11
  by_cases hr : r = 0
  · subst hr
    have HE := hide (show Rt.combineI code l 0 = (0, 2) by rw [unhide HC, if_pos rfl])
    clear HC
    go_enter Tryz.func158, Tryz.ntmps158
    go_wp2_with fail
    go_ret2
    exact ⟨by rw [unhide HE]; rfl, rfl⟩
  have hr' : (r == 0) = false := by rw [beq_eq_false_iff_ne]; exact hr
  by_cases h8 : code = 8
  · have HE := hide (show Rt.combineI code l r = (wrap64 (l.tdiv r), 0) by rw [unhide HC, if_neg hr, if_pos h8])
    have b8 : (code == 8) = true := by simpa using h8
    clear HC h8
    go_enter Tryz.func158, Tryz.ntmps158
    go_wp2_with fail
    go_ret2
    exact ⟨by rw [unhide HE]; rfl, rfl⟩
  · have HE := hide (show Rt.combineI code l r = (l.tmod r, 0) by rw [unhide HC, if_neg hr, if_neg h8])
    have b8 : (code == 8) = false := by simpa using h8
    clear HC h8
    go_enter Tryz.func158, Tryz.ntmps158
    go_wp2_with fail
    go_ret2
    exact ⟨by rw [unhide HE]; rfl, rfl⟩
end Go.Proofs.YtbpajiljfppjcaaGreatDoor

