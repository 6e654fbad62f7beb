/- The nesting of blocks: placed. -/
import Derived.Test.YtnjhgcanglkfiaaNest1
namespace Go.Proofs.Ytnjhgcanglkfiaa
open Go.RowKit
attribute [local go_sem ↓] Go.wp_at_zero Go.wp_at_succ


theorem NestS.first {w : World} {S : Nat} {bs : List Rt.Blk} {bv : Value} (h : NestS w S bs bv) (hne : ¬ bs = []) {g n cap : Nat} (hv : bv = .slice (some ⟨g, 0, none⟩) n cap) : w.cell? ⟨g, 0, none⟩ = some (.int .i64 (Rt.firstOr bs).line) := by
  have e0 : (Rt.blksCells bs)[0]? = some (.int .i64 (Rt.firstOr bs).line) := by
    cases bs with
    | nil => exact absurd rfl hne
    | cons b r => simp [Rt.blksCells, Rt.blkCells, Rt.firstOr]
  obtain ⟨g', cap', hv', _, _, c⟩ := own_cell h.own e0
  rw [hv] at hv'
  simp at hv'
  rw [hv'.1]
  exact c

set_option maxHeartbeats 2000000 in
set_option maxRecDepth 100000 in
theorem placed_any (w : World) (S : Nat) (bs : List Rt.Blk) (bv : Value) (pl : Rt.PL) (a0 a1 a2 a3 : Option Addr) (c0 c1 c2 c3 : Nat) (xe xf : Int) (h : NestS w S bs bv) (hlen : bs.length ≤ 1000) :
    Calls Try.prog 38 #[.pointer (some ⟨S, 0, none⟩), .agg (lineCells (.slice a0 pl.toks.length c0) #[.int .i64 pl.form.kind, .string pl.form.name, .int .i64 pl.form.cells, .slice a1 pl.form.params.length c1, .slice a2 pl.form.index.length c2, .slice a3 pl.form.values.length c3] xe xf pl).toArray] w fun e w' =>
      e = .returned (.agg (lineCells (.slice a0 pl.toks.length c0) #[.int .i64 pl.form.kind, .string pl.form.name, .int .i64 pl.form.cells, .slice a1 pl.form.params.length c1, .slice a2 pl.form.index.length c2, .slice a3 pl.form.values.length c3] xe xf (Rt.placed bs pl)).toArray) ∧ Below w.heap.size w w' := by
  have cs := cell_of_block h.block 0 (by simp)
  simp at cs
  have hSlt := block_lt h.block
  rcases Blk_dec bs with rfl | ⟨pre, b, rfl⟩
  · obtain ⟨ad, cap, rfl⟩ := ownsRow_form h.own
    simp only [List.length_nil] at cs
    clear h
    simp only [lineCells, List.cons_append, List.nil_append]
    go_enter Try.func38, Try.ntmps38
    go_wp2_with fail
    refine bodyPost_ret (v := .agg (lineCells (.slice a0 pl.toks.length c0) #[.int .i64 pl.form.kind, .string pl.form.name, .int .i64 pl.form.cells, .slice a1 pl.form.params.length c1, .slice a2 pl.form.index.length c2, .slice a3 pl.form.values.length c3] xe xf pl).toArray) ?_ rfl ⟨rfl, ((Below.refl _ _).alloc (Nat.le_refl _) _).alloc (by simp) _⟩
    simp [results, Try.results38, go_sem, lineCells]
  · obtain ⟨g, cap, rfl, hg, d0, d1, d2⟩ := h.last
    have d3 := h.first (by simp) rfl
    have hglt := World.block_lt_of_cell? w _ d0
    have hlen' : pre.length + 1 ≤ 1000 := by simpa using hlen
    simp at hglt
    have hm5 : (((pre.length : Int) + 1) == 0) = false := by rw [beq_eq_false_iff_ne]; omega
    have HL := hide (show ∀ pl', (.agg (lineCells (.slice a0 pl.toks.length c0) #[.int .i64 pl.form.kind, .string pl.form.name, .int .i64 pl.form.cells, .slice a1 pl.form.params.length c1, .slice a2 pl.form.index.length c2, .slice a3 pl.form.values.length c3] xe xf pl').toArray : Value) = .agg #[.slice a0 pl.toks.length c0, .int .i64 pl.form.kind, .string pl.form.name, .int .i64 pl.form.cells, .slice a1 pl.form.params.length c1, .slice a2 pl.form.index.length c2, .slice a3 pl.form.values.length c3, .int .i64 pl'.depth, .int .i64 pl'.opener, .int .i64 xe, .int .i64 xf, .int .i64 pl'.proc] from fun pl' => by simp [lineCells])
    rw [unhide HL pl]
    by_cases hk : pl.form.kind = 6 ∨ pl.form.kind = 4
    · have HE : Hid (Rt.placed (pre ++ [b]) pl = ⟨pl.toks, pl.form, (pre.length : Int), b.line, (Rt.firstOr (pre ++ [b])).line⟩) := by
        refine hide ?_
        rw [Rt.placed, if_neg (by simp), if_pos hk, lastOr_snoc]
        simp
      generalize (Rt.firstOr (pre ++ [b])).line = fl at *
      clear h
      generalize hm : pre.length = m at *
      have HM := hide hm
      clear hm
      have hm0 : (0 : Int) ≤ (m : Int) := by omega
      have hm1 : (m : Int) < (m : Int) + 1 := by omega
      have hm2 : (m : Int) ≤ 1000 := by omega
      have hm3 := wrapm1 m hlen'
      have hm4 := wrapm0 m hlen'
      have hm6 : (0 : Int) < (m : Int) + 1 := by omega
      have hfin : ∀ (e : Ending), e = .returned (.agg #[.slice a0 pl.toks.length c0, .int .i64 pl.form.kind, .string pl.form.name, .int .i64 pl.form.cells, .slice a1 pl.form.params.length c1, .slice a2 pl.form.index.length c2, .slice a3 pl.form.values.length c3, .int .i64 m, .int .i64 b.line, .int .i64 xe, .int .i64 xf, .int .i64 fl]) →
          e = .returned (.agg (lineCells (.slice a0 pl.toks.length c0) #[.int .i64 pl.form.kind, .string pl.form.name, .int .i64 pl.form.cells, .slice a1 pl.form.params.length c1, .slice a2 pl.form.index.length c2, .slice a3 pl.form.values.length c3] xe xf (Rt.placed (pre ++ [b]) pl)).toArray) := by
        intro e he
        rw [he, unhide HL, unhide HE]
      have HF := hide hfin
      clear hfin HL HE HM
      generalize pl.form.kind = kx at *
      rcases hk with hk | hk
      · have k6 : (kx == 6) = true := by simpa using hk
        clear hk
        go_enter Try.func38, Try.ntmps38
        go_wp2_with fail
        go_region_held3 (fun w' => w'.cell? ⟨S, 0, none⟩ = some (.slice (some ⟨g, 0, none⟩) (m + 1) cap) ∧ w'.cell? ⟨g, m * 3, none⟩ = some (.int .i64 b.line)) (go_keep) (fail)
        go_wp2_with fail
        refine bodyPost_ret (v := .agg #[.slice a0 pl.toks.length c0, .int .i64 kx, .string pl.form.name, .int .i64 pl.form.cells, .slice a1 pl.form.params.length c1, .slice a2 pl.form.index.length c2, .slice a3 pl.form.values.length c3, .int .i64 m, .int .i64 b.line, .int .i64 xe, .int .i64 xf, .int .i64 fl]) ?_ rfl ⟨unhide HF _ rfl, (((Below.refl _ _).alloc (Nat.le_refl _) _).alloc (by simp) _).drew⟩
        simp [results, Try.results38, go_sem]
      · have k6 : (kx == 6) = false := by rw [hk]; rfl
        have k4 : (kx == 4) = true := by simpa using hk
        clear hk
        go_enter Try.func38, Try.ntmps38
        go_wp2_with fail
        go_region_held3 (fun w' => w'.cell? ⟨S, 0, none⟩ = some (.slice (some ⟨g, 0, none⟩) (m + 1) cap) ∧ w'.cell? ⟨g, m * 3, none⟩ = some (.int .i64 b.line)) (go_keep) (fail)
        go_wp2_with fail
        refine bodyPost_ret (v := .agg #[.slice a0 pl.toks.length c0, .int .i64 kx, .string pl.form.name, .int .i64 pl.form.cells, .slice a1 pl.form.params.length c1, .slice a2 pl.form.index.length c2, .slice a3 pl.form.values.length c3, .int .i64 m, .int .i64 b.line, .int .i64 xe, .int .i64 xf, .int .i64 fl]) ?_ rfl ⟨unhide HF _ rfl, (((Below.refl _ _).alloc (Nat.le_refl _) _).alloc (by simp) _).drew⟩
        simp [results, Try.results38, go_sem]
    · have HE : Hid (Rt.placed (pre ++ [b]) pl = ⟨pl.toks, pl.form, (pre.length : Int) + 1, pl.opener, (Rt.firstOr (pre ++ [b])).line⟩) := by
        refine hide ?_
        rw [Rt.placed, if_neg (by simp), if_neg hk]
        simp
      generalize (Rt.firstOr (pre ++ [b])).line = fl at *
      clear h
      generalize pre.length = m at *
      have hfin : ∀ (e : Ending), e = .returned (.agg #[.slice a0 pl.toks.length c0, .int .i64 pl.form.kind, .string pl.form.name, .int .i64 pl.form.cells, .slice a1 pl.form.params.length c1, .slice a2 pl.form.index.length c2, .slice a3 pl.form.values.length c3, .int .i64 ((m : Int) + 1), .int .i64 pl.opener, .int .i64 xe, .int .i64 xf, .int .i64 fl]) →
          e = .returned (.agg (lineCells (.slice a0 pl.toks.length c0) #[.int .i64 pl.form.kind, .string pl.form.name, .int .i64 pl.form.cells, .slice a1 pl.form.params.length c1, .slice a2 pl.form.index.length c2, .slice a3 pl.form.values.length c3] xe xf (Rt.placed (pre ++ [b]) pl)).toArray) := by
        intro e he
        rw [he, unhide HL, unhide HE]
      have HF := hide hfin
      clear hfin HL HE
      have hm6 : (0 : Int) < (m : Int) + 1 := by omega
      generalize pl.form.kind = kx at *
      have k6 : (kx == 6) = false := by rw [beq_eq_false_iff_ne]; exact fun x => hk (Or.inl x)
      have k4 : (kx == 4) = false := by rw [beq_eq_false_iff_ne]; exact fun x => hk (Or.inr x)
      clear hk
      go_enter Try.func38, Try.ntmps38
      go_wp2_with fail
      refine bodyPost_ret (v := .agg #[.slice a0 pl.toks.length c0, .int .i64 kx, .string pl.form.name, .int .i64 pl.form.cells, .slice a1 pl.form.params.length c1, .slice a2 pl.form.index.length c2, .slice a3 pl.form.values.length c3, .int .i64 ((m : Int) + 1), .int .i64 pl.opener, .int .i64 xe, .int .i64 xf, .int .i64 fl]) ?_ rfl ⟨unhide HF _ rfl, ((Below.refl _ _).alloc (Nat.le_refl _) _).alloc (by simp) _⟩
      simp [results, Try.results38, go_sem]

end Go.Proofs.Ytnjhgcanglkfiaa

