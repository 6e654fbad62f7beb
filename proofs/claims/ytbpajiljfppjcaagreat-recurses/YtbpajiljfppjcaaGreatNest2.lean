/- The nesting of blocks: placed. -/
import Derived.Test.YtbpajiljfppjcaaGreatNest0
namespace Go.Proofs.YtbpajiljfppjcaaGreat
open Go.RowKit
attribute [local go_sem ↓] Go.wp_at_zero Go.wp_at_succ

theorem Tryz.infoBlk : (Tryz.prog.info? 133).map (fun i => (i.zero, i.size, i.bytes)) = some (some (.agg #[.int .i64 0, .int .i64 0, .bool false]), 3, 24) := by kernel_rfl

/-- What pass says. -/
def PassP (bs : List Rt.Blk) (S : Nat) (bv : Value) (w : World) (e : Ending) (w' : World) : Prop := e = .returned (.tuple #[]) ∧ ∃ bv', NestS w' S bs bv' ∧ RFr S bv bv' w w'

theorem NestS.put {w w1 wx : World} {S : Nat} {bs bs' : List Rt.Blk} {bv bv' : Value} {row : Option Nat} (h : NestS w S bs bv) (hb : Below w.heap.size w wx) (hg : wx.grownBy w1 row) (hrow : row = bv.ownBlock)
    (hown : w1.ownsRow (S + 1) 133 3 bv' bs'.length (Rt.blksCells bs')) (hat : ∀ g, bv'.ownBlock = some g → bv.ownBlock = some g ∨ w.heap.size ≤ g) :
    NestS (w1.setCell ⟨S, 0, none⟩ bv') S bs' bv' ∧ RFr S bv bv' w (w1.setCell ⟨S, 0, none⟩ bv') := by
  subst hrow
  have hlt := block_lt h.block
  have hne : ∀ k, k ≤ S → some k ≠ bv.ownBlock := fun k hk e => by have := (h.own.lt k e.symm).1; omega
  have hkeep : ∀ k, k < w.heap.size → some k ≠ bv.ownBlock → w1.heap[k]? = w.heap[k]? := fun k hk hv => (hg.block k (Nat.lt_of_lt_of_le hk hb.size) hv).trans (hb.block k hk)
  have hset : ∀ k, k ≠ S → (w1.setCell ⟨S, 0, none⟩ bv').heap[k]? = w1.heap[k]? := fun k hk => Below.heap_setCell w1 ⟨S, 0, none⟩ _ k hk
  refine ⟨⟨?_, ownsRow_setCell_below hown (by show S < S + 1; omega) _⟩, ⟨hg.os.trans hb.os, hg.tape.trans hb.tape, hg.output.trans hb.output, ?_, fun k hk h1 h2 => (hset k h1).trans (hkeep k hk h2), hat⟩⟩
  · have := set_block ((hkeep S hlt (hne S (Nat.le_refl _))).trans h.block) 0 bv'
    simpa using this
  · have := hg.size
    have := hb.size
    simp [World.setCell]
    omega

theorem grownBy_refl (w : World) (row : Option Nat) : w.grownBy w row := ⟨rfl, rfl, rfl, Nat.le_refl _, fun _ _ _ => rfl⟩

theorem nest_far {w w1 wx : World} {S : Nat} {bs : List Rt.Blk} {bv : Value} {row : Option Nat} (h : NestS w S bs bv) (hb : Below w.heap.size w wx) (hg : wx.grownBy w1 row) (hrow : row = bv.ownBlock) : w1.cell? ⟨S, 0, none⟩ = some bv ∧ w1.frozen? ⟨S, 0, none⟩ = false := by
  subst hrow
  have hlt := block_lt h.block
  have hk : w1.heap[S]? = some (.cells #[bv] 113 (0, 0)) := by
    rw [hg.block S (Nat.lt_of_lt_of_le hlt hb.size) (fun e => by have := (h.own.lt S e.symm).1; omega), hb.block S hlt]
    exact h.block
  exact ⟨cell_of_block hk 0 (by simp), free_of_block hk 0⟩

theorem cell_three_new (w : World) (a b c : Value) (t : TypeId) : ∀ j u, [a, b, c][j]? = some u → (w.alloc (.cells #[a, b, c] t)).cell? ((⟨w.heap.size, 0, none⟩ : Addr).add j) = some u := by
  intro j u hj
  match j, hj with
  | 0, hj => simp at hj; subst hj; simp [Addr.add]
  | 1, hj => simp at hj; subst hj; simp [Addr.add]
  | 2, hj => simp at hj; subst hj; simp [Addr.add]
  | j + 3, hj => simp at hj

theorem blks_set (pre : List Rt.Blk) (b : Rt.Blk) : (Rt.blksCells (pre ++ [b])).set (pre.length * 3 + 2) (.bool true) = Rt.blksCells (pre ++ [⟨b.line, b.kind, true⟩]) := by
  have hl := Rt.blksCells_length pre
  rw [Rt.blksCells_snoc, Rt.blksCells_snoc, ← hl]
  rw [List.set_append, if_neg (by omega)]
  simp

set_option maxHeartbeats 1000000 in
theorem pass_open (w : World) (S : Nat) (bs : List Rt.Blk) (bv : Value) (n : Nat) (kind : Int) (h : NestS w S bs bv) (hlen : bs.length ≤ 1000) (hk : kind = 3 ∨ kind = 5 ∨ kind = 7) :
    Calls Tryz.prog 74 #[.pointer (some ⟨S, 0, none⟩), .int .i64 n, .int .i64 kind] w (PassP (bs ++ [⟨n, kind, false⟩]) S bv w) := by
  obtain ⟨i0, hi0, hz0, hz1, hz2⟩ := info_parts Tryz.infoBlk
  have hSlt := block_lt h.block
  have c0 := cell_of_block h.block 0 (by simp)
  simp at c0
  have hown := h.own
  have HH := hide h
  obtain ⟨ad, cap, rfl⟩ := ownsRow_form h.own
  clear h
  rcases hk with rfl | rfl | rfl
  all_goals
    go_enter Tryz.func74, Tryz.ntmps74
    go_wp2_with (at_builtin; refine wpList_append_lies _ rfl (.tmp 15) (.tmp 19) 111 rfl (S + 1) 133 i0 _ 3 24 Tryz.underlying111 hi0 hz0 hz1 hz2 rfl (by decide) _ _ _ rfl (hown.alloc _) ⟨w.heap.size, 0, none⟩ 1 1 [.int .i64 n, .int .i64 _, .bool false] rfl rfl (cell_three_new _ _ _ _ _) (by simp [Value.oneCell']) (by omega) (by unfold maxLen; omega) (by omega) (by simp; omega) (w.heap.size + 1) (by simp) ?_)
    intro g cap' w1 hown1 hgrow hat hlt1
    obtain ⟨hfar, hfz⟩ := nest_far (unhide HH) ((Below.refl _ _).alloc (Nat.le_refl _) _) hgrow rfl
    have HF := hide ((unhide HH).put (bs' := bs ++ [⟨n, _, false⟩]) ((Below.refl _ _).alloc (Nat.le_refl _) _) hgrow rfl (by rw [Rt.blksCells_snoc, List.length_append]; exact hown1) (fun g' hg' => by simp [Value.ownBlock] at hg'; subst hg'; rcases hat with h | h; exact Or.inl h; exact Or.inr (by omega)))
    clear hown1 hgrow hat hown
    go_wp2_with fail
    go_end0
    exact ⟨rfl, _, unhide HF⟩

set_option maxHeartbeats 1000000 in
theorem pass_else (w : World) (S : Nat) (pre : List Rt.Blk) (b : Rt.Blk) (bv : Value) (n : Nat) (h : NestS w S (pre ++ [b]) bv) (hlen : pre.length + 1 ≤ 1000) :
    Calls Tryz.prog 74 #[.pointer (some ⟨S, 0, none⟩), .int .i64 n, .int .i64 6] w (PassP (pre ++ [⟨b.line, b.kind, true⟩]) S bv w) := by
  have c0 := cell_of_block h.block 0 (by simp)
  simp at c0
  obtain ⟨g, cap, rfl, hg, d0, d1, d2⟩ := h.last
  have hown := h.own
  simp only [List.length_append, List.length_cons, List.length_nil, Nat.zero_add] at hown
  have fz := hown.frozenAt (pre.length * 3 + 2)
  have HF : Hid (NestS ((w.setCell ⟨g, pre.length * 3 + 2, none⟩ (.bool true)).drew) S (pre ++ [⟨b.line, b.kind, true⟩]) (.slice (some ⟨g, 0, none⟩) (pre.length + 1) cap) ∧ RFr S (.slice (some ⟨g, 0, none⟩) (pre.length + 1) cap) (.slice (some ⟨g, 0, none⟩) (pre.length + 1) cap) w ((w.setCell ⟨g, pre.length * 3 + 2, none⟩ (.bool true)).drew)) := by
    refine hide ?_
    obtain ⟨s1, s2⟩ := hown.stored (pre.length * 3 + 2) (.bool true)
    refine ⟨⟨?_, ?_⟩, ⟨rfl, rfl, rfl, s2.size, fun k hk _ h2 => s2.block k hk (by simpa [Value.ownBlock] using h2), fun _ h => Or.inl h⟩⟩
    · show (w.setCell ⟨g, pre.length * 3 + 2, none⟩ (.bool true)).heap[S]? = _
      rw [Below.heap_setCell w ⟨g, pre.length * 3 + 2, none⟩ _ S (by show S ≠ g; omega)]
      exact h.block
    · rw [blks_set] at s1
      rw [List.length_append]
      exact World.ownsRow.drew s1
  clear h hown
  generalize pre.length = m at *
  have hm0 : (0 : Int) ≤ (m : Int) := by omega
  have hm1 : (m : Int) < (m : Int) + 1 := by omega
  have hm2 : (m : Int) ≤ 1000 := by omega
  have hm3 := wrapm1 m hlen
  have hm4 := wrapm0 m hlen
  have hm5 : (0 : Int) < (m : Int) + 1 := by omega
  have hgS : ¬ g = S := by omega
  go_enter Tryz.func74, Tryz.ntmps74
  go_wp2_with fail
  go_region_held3 (fun w' => w'.cell? ⟨S, 0, none⟩ = some (.slice (some ⟨g, 0, none⟩) (m + 1) cap)) (first | go_keep | (simp [World.cell?_setCell_other, *]; omega)) (fail)
  go_wp2_with fail
  go_end0
  exact ⟨rfl, _, unhide HF⟩

set_option maxHeartbeats 1000000 in
theorem pass_end (w : World) (S : Nat) (pre : List Rt.Blk) (b : Rt.Blk) (bv : Value) (n : Nat) (h : NestS w S (pre ++ [b]) bv) (hlen : pre.length + 1 ≤ 1000) :
    Calls Tryz.prog 74 #[.pointer (some ⟨S, 0, none⟩), .int .i64 n, .int .i64 4] w (PassP pre S bv w) := by
  have c0 := cell_of_block h.block 0 (by simp)
  have f0 := free_of_block h.block 0
  simp at c0
  obtain ⟨g, cap, rfl, hg, d0, d1, d2⟩ := h.last
  have hown := h.own
  simp only [List.length_append, List.length_cons, List.length_nil, Nat.zero_add] at hown
  have hcap : pre.length + 1 ≤ cap := by
    rcases hown.2 with ⟨h', _⟩ | ⟨g', cap', cur, h', _, _, hn, _⟩
    · cases h'
    · simp at h'; omega
  have hpop : w.ownsRow (S + 1) 133 3 (.slice (some ⟨g, 0, none⟩) pre.length cap) pre.length (Rt.blksCells pre) := by
    rw [Rt.blksCells_snoc] at hown
    exact ownsRow_pop (Rt.blksCells_length pre) hown
  have HF := hide (h.put (bs' := pre) (below_drewN w 1) (grownBy_refl _ _) rfl hpop (fun g' hg' => Or.inl hg'))
  clear h hown hpop d0 d1 d2
  generalize pre.length = m at *
  have hm0 : (0 : Int) ≤ (m : Int) := by omega
  have hm1 : (m : Int) < (m : Int) + 1 := by omega
  have hm2 : (m : Int) ≤ 1000 := by omega
  have hm3 := wrapm1 m hlen
  have hm4 := wrapm0 m hlen
  have hm5 : (0 : Int) < (m : Int) + 1 := by omega
  have hm6 : (m : Int) ≤ (cap : Int) := by omega
  go_enter Tryz.func74, Tryz.ntmps74
  go_wp2_with fail
  go_region_law (fail)
  all_goals
    go_wp2_with fail
    go_end0
    exact ⟨rfl, _, unhide HF⟩

set_option maxHeartbeats 1000000 in
theorem pass_none (w : World) (S : Nat) (bv : Value) (n : Nat) (kind : Int) (h : NestS w S [] bv) (hk : kind = 4 ∨ kind = 6) :
    Calls Tryz.prog 74 #[.pointer (some ⟨S, 0, none⟩), .int .i64 n, .int .i64 kind] w (PassP [] S bv w) := by
  have c0 := cell_of_block h.block 0 (by simp)
  simp at c0
  have HH := hide h
  obtain ⟨ad, cap, rfl⟩ := ownsRow_form h.own
  simp only [List.length_nil] at c0
  clear h
  rcases hk with rfl | rfl
  all_goals
    go_enter Tryz.func74, Tryz.ntmps74
    go_wp2_with fail
    go_end0
    exact ⟨rfl, _, unhide HH, RFr.refl _ _ _⟩

set_option maxHeartbeats 1000000 in
theorem pass_other (w : World) (S : Nat) (bs : List Rt.Blk) (bv : Value) (n : Nat) (kind : Int) (h : NestS w S bs bv) (h3 : ¬ kind = 3) (h5 : ¬ kind = 5) (h7 : ¬ kind = 7) (h6 : ¬ kind = 6) (h4 : ¬ kind = 4) :
    Calls Tryz.prog 74 #[.pointer (some ⟨S, 0, none⟩), .int .i64 n, .int .i64 kind] w (PassP bs S bv w) := by
  have HH := hide h
  clear h
  have k3 : (kind == 3) = false := by simpa using h3
  have k5 : (kind == 5) = false := by simpa using h5
  have k7 : (kind == 7) = false := by simpa using h7
  have k6 : (kind == 6) = false := by simpa using h6
  have k4 : (kind == 4) = false := by simpa using h4
  clear h3 h5 h7 h6 h4
  go_enter Tryz.func74, Tryz.ntmps74
  go_wp2_with fail
  go_end0
  exact ⟨rfl, _, unhide HH, RFr.refl _ _ _⟩

theorem pass_any (w : World) (S : Nat) (bs : List Rt.Blk) (bv : Value) (n : Nat) (kind : Int) (h : NestS w S bs bv) (hlen : bs.length ≤ 1000) :
    Calls Tryz.prog 74 #[.pointer (some ⟨S, 0, none⟩), .int .i64 n, .int .i64 kind] w (PassP (Rt.passed bs n kind) S bv w) := by
  by_cases ho : kind = 3 ∨ kind = 5 ∨ kind = 7
  · rw [Rt.passed, if_pos ho]
    exact pass_open w S bs bv n kind h hlen ho
  by_cases h6 : kind = 6
  · subst h6
    rcases Blk_dec bs with rfl | ⟨pre, b, rfl⟩
    · exact pass_none w S bv n 6 h (Or.inr rfl)
    · have e : Rt.passed (pre ++ [b]) n 6 = pre ++ [⟨b.line, b.kind, true⟩] := by simp [Rt.passed, lastOr_snoc]
      rw [e]
      exact pass_else w S pre b bv n h (by simpa using hlen)
  by_cases h4 : kind = 4
  · subst h4
    rcases Blk_dec bs with rfl | ⟨pre, b, rfl⟩
    · exact pass_none w S bv n 4 h (Or.inl rfl)
    · have e : Rt.passed (pre ++ [b]) n 4 = pre := by simp [Rt.passed]
      rw [e]
      exact pass_end w S pre b bv n h (by simpa using hlen)
  · have e : Rt.passed bs n kind = bs := by simp [Rt.passed, ho, h6, h4]
    rw [e]
    exact pass_other w S bs bv n kind h (fun x => ho (Or.inl x)) (fun x => ho (Or.inr (Or.inl x))) (fun x => ho (Or.inr (Or.inr x))) h6 h4

end Go.Proofs.YtbpajiljfppjcaaGreat

namespace Go.Proofs.YtbpajiljfppjcaaGreat
open Go.RowKit
attribute [local go_sem ↓] Go.wp_at_zero Go.wp_at_succ


theorem NestS.first {w : World} {S : Nat} {bs : List Rt.Blk} {bv : Value} (h : NestS w S bs bv) (hne : ¬ bs = []) {g n cap : Nat} (hv : bv = .slice (some ⟨g, 0, none⟩) n cap) : w.cell? ⟨g, 0, none⟩ = some (.int .i64 (Rt.firstOr bs).line) := by
  have e0 : (Rt.blksCells bs)[0]? = some (.int .i64 (Rt.firstOr bs).line) := by
    cases bs with
    | nil => exact absurd rfl hne
    | cons b r => simp [Rt.blksCells, Rt.blkCells, Rt.firstOr]
  obtain ⟨g', cap', hv', _, _, c⟩ := own_cell h.own e0
  rw [hv] at hv'
  simp at hv'
  rw [hv'.1]
  exact c

set_option maxHeartbeats 2000000 in
set_option maxRecDepth 100000 in
theorem placed_any (w : World) (S : Nat) (bs : List Rt.Blk) (bv : Value) (pl : Rt.PL) (a0 a1 a2 a3 : Option Addr) (c0 c1 c2 c3 : Nat) (xe xf : Int) (h : NestS w S bs bv) (hlen : bs.length ≤ 1000) :
    Calls Tryz.prog 72 #[.pointer (some ⟨S, 0, none⟩), .agg (lineCells (.slice a0 pl.toks.length c0) #[.int .i64 pl.form.kind, .string pl.form.name, .int .i64 pl.form.cells, .slice a1 pl.form.params.length c1, .slice a2 pl.form.index.length c2, .slice a3 pl.form.values.length c3] xe xf pl).toArray] w fun e w' =>
      e = .returned (.agg (lineCells (.slice a0 pl.toks.length c0) #[.int .i64 pl.form.kind, .string pl.form.name, .int .i64 pl.form.cells, .slice a1 pl.form.params.length c1, .slice a2 pl.form.index.length c2, .slice a3 pl.form.values.length c3] xe xf (Rt.placed bs pl)).toArray) ∧ Below w.heap.size w w' := by
  have cs := cell_of_block h.block 0 (by simp)
  simp at cs
  have hSlt := block_lt h.block
  rcases Blk_dec bs with rfl | ⟨pre, b, rfl⟩
  · obtain ⟨ad, cap, rfl⟩ := ownsRow_form h.own
    simp only [List.length_nil] at cs
    clear h
    simp only [lineCells, List.cons_append, List.nil_append]
    go_enter Tryz.func72, Tryz.ntmps72
    go_wp2_with fail
    refine bodyPost_ret (v := .agg (lineCells (.slice a0 pl.toks.length c0) #[.int .i64 pl.form.kind, .string pl.form.name, .int .i64 pl.form.cells, .slice a1 pl.form.params.length c1, .slice a2 pl.form.index.length c2, .slice a3 pl.form.values.length c3] xe xf pl).toArray) ?_ rfl ⟨rfl, ((Below.refl _ _).alloc (Nat.le_refl _) _).alloc (by simp) _⟩
    simp [results, Tryz.results72, go_sem, lineCells]
  · obtain ⟨g, cap, rfl, hg, d0, d1, d2⟩ := h.last
    have d3 := h.first (by simp) rfl
    have hglt := World.block_lt_of_cell? w _ d0
    have hlen' : pre.length + 1 ≤ 1000 := by simpa using hlen
    simp at hglt
    have hm5 : (((pre.length : Int) + 1) == 0) = false := by rw [beq_eq_false_iff_ne]; omega
    have HL := hide (show ∀ pl', (.agg (lineCells (.slice a0 pl.toks.length c0) #[.int .i64 pl.form.kind, .string pl.form.name, .int .i64 pl.form.cells, .slice a1 pl.form.params.length c1, .slice a2 pl.form.index.length c2, .slice a3 pl.form.values.length c3] xe xf pl').toArray : Value) = .agg #[.slice a0 pl.toks.length c0, .int .i64 pl.form.kind, .string pl.form.name, .int .i64 pl.form.cells, .slice a1 pl.form.params.length c1, .slice a2 pl.form.index.length c2, .slice a3 pl.form.values.length c3, .int .i64 pl'.depth, .int .i64 pl'.opener, .int .i64 xe, .int .i64 xf, .int .i64 pl'.proc] from fun pl' => by simp [lineCells])
    rw [unhide HL pl]
    by_cases hk : pl.form.kind = 6 ∨ pl.form.kind = 4
    · have HE : Hid (Rt.placed (pre ++ [b]) pl = ⟨pl.toks, pl.form, (pre.length : Int), b.line, (Rt.firstOr (pre ++ [b])).line⟩) := by
        refine hide ?_
        rw [Rt.placed, if_neg (by simp), if_pos hk, lastOr_snoc]
        simp
      generalize (Rt.firstOr (pre ++ [b])).line = fl at *
      clear h
      generalize hm : pre.length = m at *
      have HM := hide hm
      clear hm
      have hm0 : (0 : Int) ≤ (m : Int) := by omega
      have hm1 : (m : Int) < (m : Int) + 1 := by omega
      have hm2 : (m : Int) ≤ 1000 := by omega
      have hm3 := wrapm1 m hlen'
      have hm4 := wrapm0 m hlen'
      have hm6 : (0 : Int) < (m : Int) + 1 := by omega
      have hfin : ∀ (e : Ending), e = .returned (.agg #[.slice a0 pl.toks.length c0, .int .i64 pl.form.kind, .string pl.form.name, .int .i64 pl.form.cells, .slice a1 pl.form.params.length c1, .slice a2 pl.form.index.length c2, .slice a3 pl.form.values.length c3, .int .i64 m, .int .i64 b.line, .int .i64 xe, .int .i64 xf, .int .i64 fl]) →
          e = .returned (.agg (lineCells (.slice a0 pl.toks.length c0) #[.int .i64 pl.form.kind, .string pl.form.name, .int .i64 pl.form.cells, .slice a1 pl.form.params.length c1, .slice a2 pl.form.index.length c2, .slice a3 pl.form.values.length c3] xe xf (Rt.placed (pre ++ [b]) pl)).toArray) := by
        intro e he
        rw [he, unhide HL, unhide HE]
      have HF := hide hfin
      clear hfin HL HE HM
      generalize pl.form.kind = kx at *
      rcases hk with hk | hk
      · have k6 : (kx == 6) = true := by simpa using hk
        clear hk
        go_enter Tryz.func72, Tryz.ntmps72
        go_wp2_with fail
        go_region_held3 (fun w' => w'.cell? ⟨S, 0, none⟩ = some (.slice (some ⟨g, 0, none⟩) (m + 1) cap) ∧ w'.cell? ⟨g, m * 3, none⟩ = some (.int .i64 b.line)) (go_keep) (fail)
        go_wp2_with fail
        refine bodyPost_ret (v := .agg #[.slice a0 pl.toks.length c0, .int .i64 kx, .string pl.form.name, .int .i64 pl.form.cells, .slice a1 pl.form.params.length c1, .slice a2 pl.form.index.length c2, .slice a3 pl.form.values.length c3, .int .i64 m, .int .i64 b.line, .int .i64 xe, .int .i64 xf, .int .i64 fl]) ?_ rfl ⟨unhide HF _ rfl, (((Below.refl _ _).alloc (Nat.le_refl _) _).alloc (by simp) _).drew⟩
        simp [results, Tryz.results72, go_sem]
      · have k6 : (kx == 6) = false := by rw [hk]; rfl
        have k4 : (kx == 4) = true := by simpa using hk
        clear hk
        go_enter Tryz.func72, Tryz.ntmps72
        go_wp2_with fail
        go_region_held3 (fun w' => w'.cell? ⟨S, 0, none⟩ = some (.slice (some ⟨g, 0, none⟩) (m + 1) cap) ∧ w'.cell? ⟨g, m * 3, none⟩ = some (.int .i64 b.line)) (go_keep) (fail)
        go_wp2_with fail
        refine bodyPost_ret (v := .agg #[.slice a0 pl.toks.length c0, .int .i64 kx, .string pl.form.name, .int .i64 pl.form.cells, .slice a1 pl.form.params.length c1, .slice a2 pl.form.index.length c2, .slice a3 pl.form.values.length c3, .int .i64 m, .int .i64 b.line, .int .i64 xe, .int .i64 xf, .int .i64 fl]) ?_ rfl ⟨unhide HF _ rfl, (((Below.refl _ _).alloc (Nat.le_refl _) _).alloc (by simp) _).drew⟩
        simp [results, Tryz.results72, go_sem]
    · have HE : Hid (Rt.placed (pre ++ [b]) pl = ⟨pl.toks, pl.form, (pre.length : Int) + 1, pl.opener, (Rt.firstOr (pre ++ [b])).line⟩) := by
        refine hide ?_
        rw [Rt.placed, if_neg (by simp), if_neg hk]
        simp
      generalize (Rt.firstOr (pre ++ [b])).line = fl at *
      clear h
      generalize pre.length = m at *
      have hfin : ∀ (e : Ending), e = .returned (.agg #[.slice a0 pl.toks.length c0, .int .i64 pl.form.kind, .string pl.form.name, .int .i64 pl.form.cells, .slice a1 pl.form.params.length c1, .slice a2 pl.form.index.length c2, .slice a3 pl.form.values.length c3, .int .i64 ((m : Int) + 1), .int .i64 pl.opener, .int .i64 xe, .int .i64 xf, .int .i64 fl]) →
          e = .returned (.agg (lineCells (.slice a0 pl.toks.length c0) #[.int .i64 pl.form.kind, .string pl.form.name, .int .i64 pl.form.cells, .slice a1 pl.form.params.length c1, .slice a2 pl.form.index.length c2, .slice a3 pl.form.values.length c3] xe xf (Rt.placed (pre ++ [b]) pl)).toArray) := by
        intro e he
        rw [he, unhide HL, unhide HE]
      have HF := hide hfin
      clear hfin HL HE
      have hm6 : (0 : Int) < (m : Int) + 1 := by omega
      generalize pl.form.kind = kx at *
      have k6 : (kx == 6) = false := by rw [beq_eq_false_iff_ne]; exact fun x => hk (Or.inl x)
      have k4 : (kx == 4) = false := by rw [beq_eq_false_iff_ne]; exact fun x => hk (Or.inr x)
      clear hk
      go_enter Tryz.func72, Tryz.ntmps72
      go_wp2_with fail
      refine bodyPost_ret (v := .agg #[.slice a0 pl.toks.length c0, .int .i64 kx, .string pl.form.name, .int .i64 pl.form.cells, .slice a1 pl.form.params.length c1, .slice a2 pl.form.index.length c2, .slice a3 pl.form.values.length c3, .int .i64 ((m : Int) + 1), .int .i64 pl.opener, .int .i64 xe, .int .i64 xf, .int .i64 fl]) ?_ rfl ⟨unhide HF _ rfl, ((Below.refl _ _).alloc (Nat.le_refl _) _).alloc (by simp) _⟩
      simp [results, Tryz.results72, go_sem]

end Go.Proofs.YtbpajiljfppjcaaGreat

