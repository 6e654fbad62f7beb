/- The lines in memory: one of them read, one of them stored. -/
import Derived.Test.YthleadfkfnnadaaGreatNest0
namespace Go.Proofs.YthleadfkfnnadaaGreat
open Go.RowKit
attribute [local go_sem ↓] Go.wp_at_zero Go.wp_at_succ
theorem Tryz.infoBlk : (Tryz.prog.info? 212).map (fun i => (i.zero, i.size, i.bytes)) = some (some (.agg #[.int .i64 0, .int .i64 0, .bool false]), 3, 24) := by kernel_rfl
def PassP (bs : List Rt.Blk) (S : Nat) (bv : Value) (w : World) (e : Ending) (w' : World) : Prop := e = .returned (.tuple #[]) ∧ ∃ bv', NestS w' S bs bv' ∧ RFr S bv bv' w w'
theorem NestS.put {w w1 wx : World} {S : Nat} {bs bs' : List Rt.Blk} {bv bv' : Value} {row : Option Nat} (h : NestS w S bs bv) (hb : Below w.heap.size w wx) (hg : wx.grownBy w1 row) (hrow : row = bv.ownBlock)
    (hown : w1.ownsRow (S + 1) 212 3 bv' bs'.length (Rt.blksCells bs')) (hat : ∀ g, bv'.ownBlock = some g → bv.ownBlock = some g ∨ w.heap.size ≤ g) :
    NestS (w1.setCell ⟨S, 0, none⟩ bv') S bs' bv' ∧ RFr S bv bv' w (w1.setCell ⟨S, 0, none⟩ bv') := by
  subst hrow
  have hlt := block_lt h.block
  have hne : ∀ k, k ≤ S → some k ≠ bv.ownBlock := fun k hk e => by have := (h.own.lt k e.symm).1; omega
  have hkeep : ∀ k, k < w.heap.size → some k ≠ bv.ownBlock → w1.heap[k]? = w.heap[k]? := fun k hk hv => (hg.block k (Nat.lt_of_lt_of_le hk hb.size) hv).trans (hb.block k hk)
  have hset : ∀ k, k ≠ S → (w1.setCell ⟨S, 0, none⟩ bv').heap[k]? = w1.heap[k]? := fun k hk => Below.heap_setCell w1 ⟨S, 0, none⟩ _ k hk
  refine ⟨⟨?_, ownsRow_setCell_below hown (by show S < S + 1; omega) _⟩, ⟨hg.os.trans hb.os, hg.tape.trans hb.tape, hg.output.trans hb.output, ?_, fun k hk h1 h2 => (hset k h1).trans (hkeep k hk h2), hat⟩⟩
  · have := set_block ((hkeep S hlt (hne S (Nat.le_refl _))).trans h.block) 0 bv'
    simpa using this
  · have := hg.size
    have := hb.size
    simp [World.setCell]
    omega
theorem grownBy_refl (w : World) (row : Option Nat) : w.grownBy w row := ⟨rfl, rfl, rfl, Nat.le_refl _, fun _ _ _ => rfl⟩
theorem nest_far {w w1 wx : World} {S : Nat} {bs : List Rt.Blk} {bv : Value} {row : Option Nat} (h : NestS w S bs bv) (hb : Below w.heap.size w wx) (hg : wx.grownBy w1 row) (hrow : row = bv.ownBlock) : w1.cell? ⟨S, 0, none⟩ = some bv ∧ w1.frozen? ⟨S, 0, none⟩ = false := by
  subst hrow
  have hlt := block_lt h.block
  have hk : w1.heap[S]? = some (.cells #[bv] 181 (0, 0)) := by
    rw [hg.block S (Nat.lt_of_lt_of_le hlt hb.size) (fun e => by have := (h.own.lt S e.symm).1; omega), hb.block S hlt]
    exact h.block
  exact ⟨cell_of_block hk 0 (by simp), free_of_block hk 0⟩
theorem cell_three_new (w : World) (a b c : Value) (t : TypeId) : ∀ j u, [a, b, c][j]? = some u → (w.alloc (.cells #[a, b, c] t)).cell? ((⟨w.heap.size, 0, none⟩ : Addr).add j) = some u := by
  intro j u hj
  match j, hj with
  | 0, hj => simp at hj; subst hj; simp [Addr.add]
  | 1, hj => simp at hj; subst hj; simp [Addr.add]
  | 2, hj => simp at hj; subst hj; simp [Addr.add]
  | j + 3, hj => simp at hj
theorem blks_set (pre : List Rt.Blk) (b : Rt.Blk) : (Rt.blksCells (pre ++ [b])).set (pre.length * 3 + 2) (.bool true) = Rt.blksCells (pre ++ [⟨b.line, b.kind, true⟩]) := by
  have hl := Rt.blksCells_length pre
  rw [Rt.blksCells_snoc, Rt.blksCells_snoc, ← hl]
  rw [List.set_append, if_neg (by omega)]
  simp
set_option maxHeartbeats 1000000 in
theorem pass_open (w : World) (S : Nat) (bs : List Rt.Blk) (bv : Value) (n : Nat) (kind : Int) (h : NestS w S bs bv) (hlen : bs.length ≤ 1000) (hk : kind = 3 ∨ kind = 5 ∨ kind = 7) :
    Calls Tryz.prog 126 #[.pointer (some ⟨S, 0, none⟩), .int .i64 n, .int .i64 kind] w (PassP (bs ++ [⟨n, kind, false⟩]) S bv w) := by
  obtain ⟨i0, hi0, hz0, hz1, hz2⟩ := info_parts Tryz.infoBlk
  have hSlt := block_lt h.block
  have c0 := cell_of_block h.block 0 (by simp)
  simp at c0
  have hown := h.own
  have HH := hide h
  obtain ⟨ad, cap, rfl⟩ := ownsRow_form h.own
  clear h
  rcases hk with rfl | rfl | rfl
  all_goals
    go_enter Tryz.func126, Tryz.ntmps126
    go_wp2_with (at_builtin; refine wpList_append_lies _ rfl (.tmp 15) (.tmp 19) 179 rfl (S + 1) 212 i0 _ 3 24 Tryz.underlying179 hi0 hz0 hz1 hz2 rfl (by decide) _ _ _ rfl (hown.alloc _) ⟨w.heap.size, 0, none⟩ 1 1 [.int .i64 n, .int .i64 _, .bool false] rfl rfl (cell_three_new _ _ _ _ _) (by simp [Value.oneCell']) (by omega) (by unfold maxLen; omega) (by omega) (by simp; omega) (w.heap.size + 1) (by simp) ?_)
    intro g cap' w1 hown1 hgrow hat hlt1
    obtain ⟨hfar, hfz⟩ := nest_far (unhide HH) ((Below.refl _ _).alloc (Nat.le_refl _) _) hgrow rfl
    have HF := hide ((unhide HH).put (bs' := bs ++ [⟨n, _, false⟩]) ((Below.refl _ _).alloc (Nat.le_refl _) _) hgrow rfl (by rw [Rt.blksCells_snoc, List.length_append]; exact hown1) (fun g' hg' => by simp [Value.ownBlock] at hg'; subst hg'; rcases hat with h | h; exact Or.inl h; exact Or.inr (by omega)))
    clear hown1 hgrow hat hown
    go_wp2_with fail
    go_end0
    exact ⟨rfl, _, unhide HF⟩
set_option maxHeartbeats 1000000 in
theorem pass_else (w : World) (S : Nat) (pre : List Rt.Blk) (b : Rt.Blk) (bv : Value) (n : Nat) (h : NestS w S (pre ++ [b]) bv) (hlen : pre.length + 1 ≤ 1000) :
    Calls Tryz.prog 126 #[.pointer (some ⟨S, 0, none⟩), .int .i64 n, .int .i64 6] w (PassP (pre ++ [⟨b.line, b.kind, true⟩]) S bv w) := by
  have c0 := cell_of_block h.block 0 (by simp)
  simp at c0
  obtain ⟨g, cap, rfl, hg, d0, d1, d2⟩ := h.last
  have hown := h.own
  simp only [List.length_append, List.length_cons, List.length_nil, Nat.zero_add] at hown
  have fz := hown.frozenAt (pre.length * 3 + 2)
  have HF : Hid (NestS ((w.setCell ⟨g, pre.length * 3 + 2, none⟩ (.bool true)).drew) S (pre ++ [⟨b.line, b.kind, true⟩]) (.slice (some ⟨g, 0, none⟩) (pre.length + 1) cap) ∧ RFr S (.slice (some ⟨g, 0, none⟩) (pre.length + 1) cap) (.slice (some ⟨g, 0, none⟩) (pre.length + 1) cap) w ((w.setCell ⟨g, pre.length * 3 + 2, none⟩ (.bool true)).drew)) := by
    refine hide ?_
    obtain ⟨s1, s2⟩ := hown.stored (pre.length * 3 + 2) (.bool true)
    refine ⟨⟨?_, ?_⟩, ⟨rfl, rfl, rfl, s2.size, fun k hk _ h2 => s2.block k hk (by simpa [Value.ownBlock] using h2), fun _ h => Or.inl h⟩⟩
    · show (w.setCell ⟨g, pre.length * 3 + 2, none⟩ (.bool true)).heap[S]? = _
      rw [Below.heap_setCell w ⟨g, pre.length * 3 + 2, none⟩ _ S (by show S ≠ g; omega)]
      exact h.block
    · rw [blks_set] at s1
      rw [List.length_append]
      exact World.ownsRow.drew s1
  clear h hown
  generalize pre.length = m at *
  have hm0 : (0 : Int) ≤ (m : Int) := by omega
  have hm1 : (m : Int) < (m : Int) + 1 := by omega
  have hm2 : (m : Int) ≤ 1000 := by omega
  have hm3 := wrapm1 m hlen
  have hm4 := wrapm0 m hlen
  have hm5 : (0 : Int) < (m : Int) + 1 := by omega
  have hgS : ¬ g = S := by omega
  go_enter Tryz.func126, Tryz.ntmps126
  go_wp2_with fail
  go_region_held3 (fun w' => w'.cell? ⟨S, 0, none⟩ = some (.slice (some ⟨g, 0, none⟩) (m + 1) cap)) (first | go_keep | (simp [World.cell?_setCell_other, *]; omega)) (fail)
  go_wp2_with fail
  go_end0
  exact ⟨rfl, _, unhide HF⟩
set_option maxHeartbeats 1000000 in
theorem pass_end (w : World) (S : Nat) (pre : List Rt.Blk) (b : Rt.Blk) (bv : Value) (n : Nat) (h : NestS w S (pre ++ [b]) bv) (hlen : pre.length + 1 ≤ 1000) :
    Calls Tryz.prog 126 #[.pointer (some ⟨S, 0, none⟩), .int .i64 n, .int .i64 4] w (PassP pre S bv w) := by
  have c0 := cell_of_block h.block 0 (by simp)
  have f0 := free_of_block h.block 0
  simp at c0
  obtain ⟨g, cap, rfl, hg, d0, d1, d2⟩ := h.last
  have hown := h.own
  simp only [List.length_append, List.length_cons, List.length_nil, Nat.zero_add] at hown
  have hcap : pre.length + 1 ≤ cap := by
    rcases hown.2 with ⟨h', _⟩ | ⟨g', cap', cur, h', _, _, hn, _⟩
    · cases h'
    · simp at h'; omega
  have hpop : w.ownsRow (S + 1) 212 3 (.slice (some ⟨g, 0, none⟩) pre.length cap) pre.length (Rt.blksCells pre) := by
    rw [Rt.blksCells_snoc] at hown
    exact ownsRow_pop (Rt.blksCells_length pre) hown
  have HF := hide (h.put (bs' := pre) (below_drewN w 1) (grownBy_refl _ _) rfl hpop (fun g' hg' => Or.inl hg'))
  clear h hown hpop d0 d1 d2
  generalize pre.length = m at *
  have hm0 : (0 : Int) ≤ (m : Int) := by omega
  have hm1 : (m : Int) < (m : Int) + 1 := by omega
  have hm2 : (m : Int) ≤ 1000 := by omega
  have hm3 := wrapm1 m hlen
  have hm4 := wrapm0 m hlen
  have hm5 : (0 : Int) < (m : Int) + 1 := by omega
  have hm6 : (m : Int) ≤ (cap : Int) := by omega
  go_enter Tryz.func126, Tryz.ntmps126
  go_wp2_with fail
  go_region_law (fail)
  all_goals
    go_wp2_with fail
    go_end0
    exact ⟨rfl, _, unhide HF⟩
set_option maxHeartbeats 1000000 in
theorem pass_none (w : World) (S : Nat) (bv : Value) (n : Nat) (kind : Int) (h : NestS w S [] bv) (hk : kind = 4 ∨ kind = 6) :
    Calls Tryz.prog 126 #[.pointer (some ⟨S, 0, none⟩), .int .i64 n, .int .i64 kind] w (PassP [] S bv w) := by
  have c0 := cell_of_block h.block 0 (by simp)
  simp at c0
  have HH := hide h
  obtain ⟨ad, cap, rfl⟩ := ownsRow_form h.own
  simp only [List.length_nil] at c0
  clear h
  rcases hk with rfl | rfl
  all_goals
    go_enter Tryz.func126, Tryz.ntmps126
    go_wp2_with fail
    go_end0
    exact ⟨rfl, _, unhide HH, RFr.refl _ _ _⟩
set_option maxHeartbeats 1000000 in
theorem pass_other (w : World) (S : Nat) (bs : List Rt.Blk) (bv : Value) (n : Nat) (kind : Int) (h : NestS w S bs bv) (h3 : ¬ kind = 3) (h5 : ¬ kind = 5) (h7 : ¬ kind = 7) (h6 : ¬ kind = 6) (h4 : ¬ kind = 4) :
    Calls Tryz.prog 126 #[.pointer (some ⟨S, 0, none⟩), .int .i64 n, .int .i64 kind] w (PassP bs S bv w) := by
  have HH := hide h
  clear h
  have k3 : (kind == 3) = false := by simpa using h3
  have k5 : (kind == 5) = false := by simpa using h5
  have k7 : (kind == 7) = false := by simpa using h7
  have k6 : (kind == 6) = false := by simpa using h6
  have k4 : (kind == 4) = false := by simpa using h4
  clear h3 h5 h7 h6 h4
  go_enter Tryz.func126, Tryz.ntmps126
  go_wp2_with fail
  go_end0
  exact ⟨rfl, _, unhide HH, RFr.refl _ _ _⟩
theorem pass_any (w : World) (S : Nat) (bs : List Rt.Blk) (bv : Value) (n : Nat) (kind : Int) (h : NestS w S bs bv) (hlen : bs.length ≤ 1000) :
    Calls Tryz.prog 126 #[.pointer (some ⟨S, 0, none⟩), .int .i64 n, .int .i64 kind] w (PassP (Rt.passed bs n kind) S bv w) := by
  by_cases ho : kind = 3 ∨ kind = 5 ∨ kind = 7
  · rw [Rt.passed, if_pos ho]
    exact pass_open w S bs bv n kind h hlen ho
  by_cases h6 : kind = 6
  · subst h6
    rcases Blk_dec bs with rfl | ⟨pre, b, rfl⟩
    · exact pass_none w S bv n 6 h (Or.inr rfl)
    · have e : Rt.passed (pre ++ [b]) n 6 = pre ++ [⟨b.line, b.kind, true⟩] := by simp [Rt.passed, lastOr_snoc]
      rw [e]
      exact pass_else w S pre b bv n h (by simpa using hlen)
  by_cases h4 : kind = 4
  · subst h4
    rcases Blk_dec bs with rfl | ⟨pre, b, rfl⟩
    · exact pass_none w S bv n 4 h (Or.inl rfl)
    · have e : Rt.passed (pre ++ [b]) n 4 = pre := by simp [Rt.passed]
      rw [e]
      exact pass_end w S pre b bv n h (by simpa using hlen)
  · have e : Rt.passed bs n kind = bs := by simp [Rt.passed, ho, h6, h4]
    rw [e]
    exact pass_other w S bs bv n kind h (fun x => ho (Or.inl x)) (fun x => ho (Or.inr (Or.inl x))) (fun x => ho (Or.inr (Or.inr x))) h6 h4
theorem NestS.first {w : World} {S : Nat} {bs : List Rt.Blk} {bv : Value} (h : NestS w S bs bv) (hne : ¬ bs = []) {g n cap : Nat} (hv : bv = .slice (some ⟨g, 0, none⟩) n cap) : w.cell? ⟨g, 0, none⟩ = some (.int .i64 (Rt.firstOr bs).line) := by
  have e0 : (Rt.blksCells bs)[0]? = some (.int .i64 (Rt.firstOr bs).line) := by
    cases bs with
    | nil => exact absurd rfl hne
    | cons b r => simp [Rt.blksCells, Rt.blkCells, Rt.firstOr]
  obtain ⟨g', cap', hv', _, _, c⟩ := own_cell h.own e0
  rw [hv] at hv'
  simp at hv'
  rw [hv'.1]
  exact c
set_option maxHeartbeats 2000000 in
set_option maxRecDepth 100000 in
theorem placed_any (w : World) (S : Nat) (bs : List Rt.Blk) (bv : Value) (pl : Rt.PL) (a0 a1 a2 a3 : Option Addr) (c0 c1 c2 c3 : Nat) (xe xf : Int) (h : NestS w S bs bv) (hlen : bs.length ≤ 1000) :
    Calls Tryz.prog 124 #[.pointer (some ⟨S, 0, none⟩), .agg (lineCells (.slice a0 pl.toks.length c0) #[.int .i64 pl.form.kind, .string pl.form.name, .int .i64 pl.form.cells, .slice a1 pl.form.params.length c1, .slice a2 pl.form.index.length c2, .slice a3 pl.form.values.length c3] xe xf pl).toArray] w fun e w' =>
      e = .returned (.agg (lineCells (.slice a0 pl.toks.length c0) #[.int .i64 pl.form.kind, .string pl.form.name, .int .i64 pl.form.cells, .slice a1 pl.form.params.length c1, .slice a2 pl.form.index.length c2, .slice a3 pl.form.values.length c3] xe xf (Rt.placed bs pl)).toArray) ∧ Below w.heap.size w w' := by
  have cs := cell_of_block h.block 0 (by simp)
  simp at cs
  have hSlt := block_lt h.block
  rcases Blk_dec bs with rfl | ⟨pre, b, rfl⟩
  · obtain ⟨ad, cap, rfl⟩ := ownsRow_form h.own
    simp only [List.length_nil] at cs
    clear h
    simp only [lineCells, List.cons_append, List.nil_append]
    go_enter Tryz.func124, Tryz.ntmps124
    go_wp2_with fail
    refine bodyPost_ret (v := .agg (lineCells (.slice a0 pl.toks.length c0) #[.int .i64 pl.form.kind, .string pl.form.name, .int .i64 pl.form.cells, .slice a1 pl.form.params.length c1, .slice a2 pl.form.index.length c2, .slice a3 pl.form.values.length c3] xe xf pl).toArray) ?_ rfl ⟨rfl, ((Below.refl _ _).alloc (Nat.le_refl _) _).alloc (by simp) _⟩
    simp [results, Tryz.results124, go_sem, lineCells]
  · obtain ⟨g, cap, rfl, hg, d0, d1, d2⟩ := h.last
    have d3 := h.first (by simp) rfl
    have hglt := World.block_lt_of_cell? w _ d0
    have hlen' : pre.length + 1 ≤ 1000 := by simpa using hlen
    simp at hglt
    have hm5 : (((pre.length : Int) + 1) == 0) = false := by rw [beq_eq_false_iff_ne]; omega
    have HL := hide (show ∀ pl', (.agg (lineCells (.slice a0 pl.toks.length c0) #[.int .i64 pl.form.kind, .string pl.form.name, .int .i64 pl.form.cells, .slice a1 pl.form.params.length c1, .slice a2 pl.form.index.length c2, .slice a3 pl.form.values.length c3] xe xf pl').toArray : Value) = .agg #[.slice a0 pl.toks.length c0, .int .i64 pl.form.kind, .string pl.form.name, .int .i64 pl.form.cells, .slice a1 pl.form.params.length c1, .slice a2 pl.form.index.length c2, .slice a3 pl.form.values.length c3, .int .i64 pl'.depth, .int .i64 pl'.opener, .int .i64 xe, .int .i64 xf, .int .i64 pl'.proc] from fun pl' => by simp [lineCells])
    rw [unhide HL pl]
    by_cases hk : pl.form.kind = 6 ∨ pl.form.kind = 4
    · have HE : Hid (Rt.placed (pre ++ [b]) pl = ⟨pl.toks, pl.form, (pre.length : Int), b.line, (Rt.firstOr (pre ++ [b])).line⟩) := by
        refine hide ?_
        rw [Rt.placed, if_neg (by simp), if_pos hk, lastOr_snoc]
        simp
      generalize (Rt.firstOr (pre ++ [b])).line = fl at *
      clear h
      generalize hm : pre.length = m at *
      have HM := hide hm
      clear hm
      have hm0 : (0 : Int) ≤ (m : Int) := by omega
      have hm1 : (m : Int) < (m : Int) + 1 := by omega
      have hm2 : (m : Int) ≤ 1000 := by omega
      have hm3 := wrapm1 m hlen'
      have hm4 := wrapm0 m hlen'
      have hm6 : (0 : Int) < (m : Int) + 1 := by omega
      have hfin : ∀ (e : Ending), e = .returned (.agg #[.slice a0 pl.toks.length c0, .int .i64 pl.form.kind, .string pl.form.name, .int .i64 pl.form.cells, .slice a1 pl.form.params.length c1, .slice a2 pl.form.index.length c2, .slice a3 pl.form.values.length c3, .int .i64 m, .int .i64 b.line, .int .i64 xe, .int .i64 xf, .int .i64 fl]) →
          e = .returned (.agg (lineCells (.slice a0 pl.toks.length c0) #[.int .i64 pl.form.kind, .string pl.form.name, .int .i64 pl.form.cells, .slice a1 pl.form.params.length c1, .slice a2 pl.form.index.length c2, .slice a3 pl.form.values.length c3] xe xf (Rt.placed (pre ++ [b]) pl)).toArray) := by
        intro e he
        rw [he, unhide HL, unhide HE]
      have HF := hide hfin
      clear hfin HL HE HM
      generalize pl.form.kind = kx at *
      rcases hk with hk | hk
      · have k6 : (kx == 6) = true := by simpa using hk
        clear hk
        go_enter Tryz.func124, Tryz.ntmps124
        go_wp2_with fail
        go_region_held3 (fun w' => w'.cell? ⟨S, 0, none⟩ = some (.slice (some ⟨g, 0, none⟩) (m + 1) cap) ∧ w'.cell? ⟨g, m * 3, none⟩ = some (.int .i64 b.line)) (go_keep) (fail)
        go_wp2_with fail
        refine bodyPost_ret (v := .agg #[.slice a0 pl.toks.length c0, .int .i64 kx, .string pl.form.name, .int .i64 pl.form.cells, .slice a1 pl.form.params.length c1, .slice a2 pl.form.index.length c2, .slice a3 pl.form.values.length c3, .int .i64 m, .int .i64 b.line, .int .i64 xe, .int .i64 xf, .int .i64 fl]) ?_ rfl ⟨unhide HF _ rfl, (((Below.refl _ _).alloc (Nat.le_refl _) _).alloc (by simp) _).drew⟩
        simp [results, Tryz.results124, go_sem]
      · have k6 : (kx == 6) = false := by rw [hk]; rfl
        have k4 : (kx == 4) = true := by simpa using hk
        clear hk
        go_enter Tryz.func124, Tryz.ntmps124
        go_wp2_with fail
        go_region_held3 (fun w' => w'.cell? ⟨S, 0, none⟩ = some (.slice (some ⟨g, 0, none⟩) (m + 1) cap) ∧ w'.cell? ⟨g, m * 3, none⟩ = some (.int .i64 b.line)) (go_keep) (fail)
        go_wp2_with fail
        refine bodyPost_ret (v := .agg #[.slice a0 pl.toks.length c0, .int .i64 kx, .string pl.form.name, .int .i64 pl.form.cells, .slice a1 pl.form.params.length c1, .slice a2 pl.form.index.length c2, .slice a3 pl.form.values.length c3, .int .i64 m, .int .i64 b.line, .int .i64 xe, .int .i64 xf, .int .i64 fl]) ?_ rfl ⟨unhide HF _ rfl, (((Below.refl _ _).alloc (Nat.le_refl _) _).alloc (by simp) _).drew⟩
        simp [results, Tryz.results124, go_sem]
    · have HE : Hid (Rt.placed (pre ++ [b]) pl = ⟨pl.toks, pl.form, (pre.length : Int) + 1, pl.opener, (Rt.firstOr (pre ++ [b])).line⟩) := by
        refine hide ?_
        rw [Rt.placed, if_neg (by simp), if_neg hk]
        simp
      generalize (Rt.firstOr (pre ++ [b])).line = fl at *
      clear h
      generalize pre.length = m at *
      have hfin : ∀ (e : Ending), e = .returned (.agg #[.slice a0 pl.toks.length c0, .int .i64 pl.form.kind, .string pl.form.name, .int .i64 pl.form.cells, .slice a1 pl.form.params.length c1, .slice a2 pl.form.index.length c2, .slice a3 pl.form.values.length c3, .int .i64 ((m : Int) + 1), .int .i64 pl.opener, .int .i64 xe, .int .i64 xf, .int .i64 fl]) →
          e = .returned (.agg (lineCells (.slice a0 pl.toks.length c0) #[.int .i64 pl.form.kind, .string pl.form.name, .int .i64 pl.form.cells, .slice a1 pl.form.params.length c1, .slice a2 pl.form.index.length c2, .slice a3 pl.form.values.length c3] xe xf (Rt.placed (pre ++ [b]) pl)).toArray) := by
        intro e he
        rw [he, unhide HL, unhide HE]
      have HF := hide hfin
      clear hfin HL HE
      have hm6 : (0 : Int) < (m : Int) + 1 := by omega
      generalize pl.form.kind = kx at *
      have k6 : (kx == 6) = false := by rw [beq_eq_false_iff_ne]; exact fun x => hk (Or.inl x)
      have k4 : (kx == 4) = false := by rw [beq_eq_false_iff_ne]; exact fun x => hk (Or.inr x)
      clear hk
      go_enter Tryz.func124, Tryz.ntmps124
      go_wp2_with fail
      refine bodyPost_ret (v := .agg #[.slice a0 pl.toks.length c0, .int .i64 kx, .string pl.form.name, .int .i64 pl.form.cells, .slice a1 pl.form.params.length c1, .slice a2 pl.form.index.length c2, .slice a3 pl.form.values.length c3, .int .i64 ((m : Int) + 1), .int .i64 pl.opener, .int .i64 xe, .int .i64 xf, .int .i64 fl]) ?_ rfl ⟨unhide HF _ rfl, ((Below.refl _ _).alloc (Nat.le_refl _) _).alloc (by simp) _⟩
      simp [results, Tryz.results124, go_sem]
end Go.Proofs.YthleadfkfnnadaaGreat
namespace Go.Proofs.YthleadfkfnnadaaGreat
open Go.RowKit
theorem LineV.len {w : World} {B : Nat} {p : Rt.PL} {c : List Value} (h : LineV w B p c) : c.length = 12 := by
  obtain ⟨tv, fv, xe, xf, rfl, _, ⟨pv, iv, vv, vs, rfl, _⟩⟩ := h
  rfl
theorem LinesV.part {w : World} {B : Nat} : ∀ (acc : List Rt.PL) (p : Rt.PL) (r : List Rt.PL) (cs : List (List Value)), LinesV w B (acc ++ p :: r) cs → ∃ c1 c c2, cs = c1 ++ c :: c2 ∧ c1.flatten.length = acc.length * 12 ∧ LinesV w B acc c1 ∧ LineV w B p c ∧ LinesV w B r c2
  | [], p, r, c :: cs, ⟨h1, h2⟩ => ⟨[], c, cs, rfl, rfl, trivial, h1, h2⟩
  | [], _, _, [], h => h.elim
  | a :: acc, p, r, c :: cs, ⟨h1, h2⟩ => by
    obtain ⟨c1, c', c2, rfl, hl, g1, g2, g3⟩ := LinesV.part acc p r cs h2
    refine ⟨c :: c1, c', c2, rfl, ?_, ⟨h1, g1⟩, g2, g3⟩
    simp [h1.len] at hl ⊢
    omega
  | _ :: _, _, _, [], h => h.elim
theorem LinesV.join {w : World} {B : Nat} : ∀ (acc : List Rt.PL) (p : Rt.PL) (r : List Rt.PL) (c1 : List (List Value)) (c : List Value) (c2 : List (List Value)), LinesV w B acc c1 → LineV w B p c → LinesV w B r c2 → LinesV w B (acc ++ p :: r) (c1 ++ c :: c2)
  | [], _, _, [], _, _, _, h2, h3 => ⟨h2, h3⟩
  | _ :: acc, p, r, _ :: c1, c, c2, ⟨h1, h1'⟩, h2, h3 => ⟨h1, LinesV.join acc p r c1 c c2 h1' h2 h3⟩
  | [], _, _, _ :: _, _, _, h, _, _ => h.elim
  | _ :: _, _, _, [], _, _, h, _, _ => h.elim
def Ten (w : World) (g o : Nat) (v0 v1 v2 v3 v4 v5 v6 v7 v8 v9 v10 v11 : Value) : Prop :=
  w.cell? ⟨g, o, none⟩ = some v0 ∧ w.cell? ⟨g, o + 1, none⟩ = some v1 ∧ w.cell? ⟨g, o + 2, none⟩ = some v2 ∧ w.cell? ⟨g, o + 3, none⟩ = some v3 ∧ w.cell? ⟨g, o + 4, none⟩ = some v4 ∧
  w.cell? ⟨g, o + 5, none⟩ = some v5 ∧ w.cell? ⟨g, o + 6, none⟩ = some v6 ∧ w.cell? ⟨g, o + 7, none⟩ = some v7 ∧ w.cell? ⟨g, o + 8, none⟩ = some v8 ∧ w.cell? ⟨g, o + 9, none⟩ = some v9 ∧ w.cell? ⟨g, o + 10, none⟩ = some v10 ∧ w.cell? ⟨g, o + 11, none⟩ = some v11
def TenF (w : World) (g o : Nat) : Prop :=
  w.frozen? ⟨g, o, none⟩ = false ∧ w.frozen? ⟨g, o + 1, none⟩ = false ∧ w.frozen? ⟨g, o + 2, none⟩ = false ∧ w.frozen? ⟨g, o + 3, none⟩ = false ∧ w.frozen? ⟨g, o + 4, none⟩ = false ∧
  w.frozen? ⟨g, o + 5, none⟩ = false ∧ w.frozen? ⟨g, o + 6, none⟩ = false ∧ w.frozen? ⟨g, o + 7, none⟩ = false ∧ w.frozen? ⟨g, o + 8, none⟩ = false ∧ w.frozen? ⟨g, o + 9, none⟩ = false ∧ w.frozen? ⟨g, o + 10, none⟩ = false ∧ w.frozen? ⟨g, o + 11, none⟩ = false
theorem ProgS.get {w : World} {P : Nat} {acc : List Rt.PL} {p : Rt.PL} {r : List Rt.PL} {lv : Value} {cs : List (List Value)} (h : ProgS w P (acc ++ p :: r) lv cs) :
    ∃ g cap a0 a1 a2 a3 c0 c1 c2 c3 xe xf, lv = .slice (some ⟨g, 0, none⟩) (acc ++ p :: r).length cap ∧ P < g ∧ g < w.heap.size ∧
      Ten w g (acc.length * 12) (.slice a0 p.toks.length c0) (.int .i64 p.form.kind) (.string p.form.name) (.int .i64 p.form.cells) (.slice a1 p.form.params.length c1) (.slice a2 p.form.index.length c2) (.slice a3 p.form.values.length c3) (.int .i64 p.depth) (.int .i64 p.opener) (.int .i64 xe) (.int .i64 xf) (.int .i64 p.proc) ∧ TenF w g (acc.length * 12) ∧
      w.ownsRow (P + 1) 188 2 (.slice a0 p.toks.length c0) p.toks.length (Rt.toksCells p.toks) ∧
      FormV w (P + 1) #[.int .i64 p.form.kind, .string p.form.name, .int .i64 p.form.cells, .slice a1 p.form.params.length c1, .slice a2 p.form.index.length c2, .slice a3 p.form.values.length c3] p.form := by
  obtain ⟨c1, c, c2, hcs, hl, _, hc, _⟩ := h.lines.part
  obtain ⟨tv, fv, xe, xf, hcc, ht, hf⟩ := hc
  have hf2 := hf
  obtain ⟨pv, iv, vv, vs, hfv, b1, b2, b3, _⟩ := hf
  obtain ⟨a0, k0, rfl⟩ := ownsRow_form ht
  obtain ⟨a1, k1, rfl⟩ := ownsRow_form b1
  obtain ⟨a2, k2, rfl⟩ := ownsRow_form b2
  obtain ⟨a3, k3, rfl⟩ := ownsRow_form b3
  subst hfv
  have hget : ∀ j u, c[j]? = some u → cs.flatten[acc.length * 12 + j]? = some u := by
    intro j u hj
    rw [hcs, List.flatten_append, List.getElem?_append_right (by omega), hl, Nat.add_sub_cancel_left, List.flatten_cons, List.getElem?_append_left (List.getElem?_eq_some_iff.1 hj).1]
    exact hj
  have hown := h.own
  obtain ⟨g, cap, hlv, hg, hglt, _⟩ := own_cell hown (hget 0 _ (by rw [hcc]; rfl))
  have hcell : ∀ j u, c[j]? = some u → w.cell? ⟨g, acc.length * 12 + j, none⟩ = some u := by
    intro j u hj
    obtain ⟨g', cap', hlv', _, _, hc'⟩ := own_cell hown (hget j u hj)
    rw [hlv] at hlv'
    simp at hlv'
    rw [hlv'.1]
    exact hc'
  have hfz : ∀ j, w.frozen? ⟨g, j, none⟩ = false := by
    intro j
    rw [hlv] at hown
    exact hown.frozenAt j
  refine ⟨g, cap, a0, a1, a2, a3, k0, k1, k2, k3, xe, xf, hlv, by omega, hglt, ⟨?_, ?_, ?_, ?_, ?_, ?_, ?_, ?_, ?_, ?_, ?_, ?_⟩, ⟨hfz _, hfz _, hfz _, hfz _, hfz _, hfz _, hfz _, hfz _, hfz _, hfz _, hfz _, hfz _⟩, ht, hf2⟩
  · exact hcell 0 _ (by rw [hcc]; rfl)
  · exact hcell 1 _ (by rw [hcc]; rfl)
  · exact hcell 2 _ (by rw [hcc]; rfl)
  · exact hcell 3 _ (by rw [hcc]; rfl)
  · exact hcell 4 _ (by rw [hcc]; rfl)
  · exact hcell 5 _ (by rw [hcc]; rfl)
  · exact hcell 6 _ (by rw [hcc]; rfl)
  · exact hcell 7 _ (by rw [hcc]; rfl)
  · exact hcell 8 _ (by rw [hcc]; rfl)
  · exact hcell 9 _ (by rw [hcc]; rfl)
  · exact hcell 10 _ (by rw [hcc]; rfl)
  · exact hcell 11 _ (by rw [hcc]; rfl)
abbrev W10 (w : World) (g o : Nat) (v0 v1 v2 v3 v4 v5 v6 v7 v8 v9 v10 v11 : Value) : World :=
  (((((((((((w.setCell ⟨g, o, none⟩ v0).setCell ⟨g, o + 1, none⟩ v1).setCell ⟨g, o + 2, none⟩ v2).setCell ⟨g, o + 3, none⟩ v3).setCell ⟨g, o + 4, none⟩ v4).setCell ⟨g, o + 5, none⟩ v5).setCell ⟨g, o + 6, none⟩ v6).setCell ⟨g, o + 7, none⟩ v7).setCell ⟨g, o + 8, none⟩ v8).setCell ⟨g, o + 9, none⟩ v9).setCell ⟨g, o + 10, none⟩ v10).setCell ⟨g, o + 11, none⟩ v11
theorem W10_other (w : World) (g o : Nat) (v0 v1 v2 v3 v4 v5 v6 v7 v8 v9 v10 v11 : Value) (k : Nat) (hk : k ≠ g) : (W10 w g o v0 v1 v2 v3 v4 v5 v6 v7 v8 v9 v10 v11).heap[k]? = w.heap[k]? := by
  simp only [W10]
  repeat rw [Below.heap_setCell _ _ _ _ hk]
theorem W10_size (w : World) (g o : Nat) (v0 v1 v2 v3 v4 v5 v6 v7 v8 v9 v10 v11 : Value) : (W10 w g o v0 v1 v2 v3 v4 v5 v6 v7 v8 v9 v10 v11).heap.size = w.heap.size := by simp [World.setCell]
theorem own_store1 {w : World} {B g n cap : Nat} {e : TypeId} {A c C : List Value} (h : w.ownsRow B e 12 (.slice (some ⟨g, 0, none⟩) n cap) n (A ++ c ++ C)) (j : Nat) (v : Value) (hj : j < c.length) :
    (w.setCell ⟨g, A.length + j, none⟩ v).ownsRow B e 12 (.slice (some ⟨g, 0, none⟩) n cap) n (A ++ c.set j v ++ C) := by
  have h1 := (h.stored (A.length + j) v).1
  have e : (A ++ c ++ C).set (A.length + j) v = A ++ c.set j v ++ C := by
    rw [List.append_assoc, List.set_append, if_neg (by omega), Nat.add_sub_cancel_left, List.set_append, if_pos hj, List.append_assoc]
  rw [e] at h1
  exact h1
theorem ProgS.put {w : World} {P : Nat} {acc : List Rt.PL} {p p' : Rt.PL} {r : List Rt.PL} {g n cap : Nat} {cs : List (List Value)} (h : ProgS w P (acc ++ p :: r) (.slice (some ⟨g, 0, none⟩) n cap) cs) (hn : n = (acc ++ p :: r).length)
    (a0 a1 a2 a3 : Option Addr) (c0 c1 c2 c3 : Nat) (xe xf : Int) (ht : w.ownsRow (P + 1) 188 2 (.slice a0 p'.toks.length c0) p'.toks.length (Rt.toksCells p'.toks))
    (hf : FormV w (P + 1) #[.int .i64 p'.form.kind, .string p'.form.name, .int .i64 p'.form.cells, .slice a1 p'.form.params.length c1, .slice a2 p'.form.index.length c2, .slice a3 p'.form.values.length c3] p'.form) :
    ∃ cs', ProgS (W10 w g (acc.length * 12) (.slice a0 p'.toks.length c0) (.int .i64 p'.form.kind) (.string p'.form.name) (.int .i64 p'.form.cells) (.slice a1 p'.form.params.length c1) (.slice a2 p'.form.index.length c2) (.slice a3 p'.form.values.length c3) (.int .i64 p'.depth) (.int .i64 p'.opener) (.int .i64 xe) (.int .i64 xf) (.int .i64 p'.proc))
      P (acc ++ p' :: r) (.slice (some ⟨g, 0, none⟩) n cap) cs' := by
  obtain ⟨d1, c, d2, hcs, hl, hA, hc, hC⟩ := h.lines.part
  have hg : P < g := by
    have := (h.own.lt g rfl).1
    omega
  have hK : Keeps w (W10 w g (acc.length * 12) (.slice a0 p'.toks.length c0) (.int .i64 p'.form.kind) (.string p'.form.name) (.int .i64 p'.form.cells) (.slice a1 p'.form.params.length c1) (.slice a2 p'.form.index.length c2) (.slice a3 p'.form.values.length c3) (.int .i64 p'.depth) (.int .i64 p'.opener) (.int .i64 xe) (.int .i64 xf) (.int .i64 p'.proc)) (P + 1) (P + 1) := by
    intro t size n' v xs ht' hv
    have hne := own_ne hv h.own ht'
    obtain ⟨h1, h2⟩ := hv
    refine ⟨h1, ?_⟩
    rcases h2 with h2 | ⟨g', cap', cur, hv', hg', hh, rr⟩
    · exact Or.inl h2
    · exact Or.inr ⟨g', cap', cur, hv', hg', by rw [W10_other _ _ _ _ _ _ _ _ _ _ _ _ _ _ _ _ (fun e => hne g' (by rw [hv']; rfl) (by rw [e]; rfl))]; exact hh, rr⟩
  refine ⟨d1 ++ lineCells (.slice a0 p'.toks.length c0) #[.int .i64 p'.form.kind, .string p'.form.name, .int .i64 p'.form.cells, .slice a1 p'.form.params.length c1, .slice a2 p'.form.index.length c2, .slice a3 p'.form.values.length c3] xe xf p' :: d2, ?_, ?_, ?_⟩
  · rw [W10_other _ _ _ _ _ _ _ _ _ _ _ _ _ _ _ _ (by omega)]
    exact h.block
  · have hown := h.own
    rw [← hn] at hown
    have e1 : cs.flatten = d1.flatten ++ c ++ d2.flatten := by rw [hcs]; simp
    have e2 : (acc ++ p' :: r).length = n := by rw [hn]; simp
    have hc10 := hc.len
    match c, hc10 with
    | [x0, x1, x2, x3, x4, x5, x6, x7, x8, x9, x10, x11], _ =>
      rw [e1] at hown
      rw [e2, ← hl]
      have s0 := own_store1 hown 0 (.slice a0 p'.toks.length c0) (by simp)
      have s1 := own_store1 s0 1 (.int .i64 p'.form.kind) (by simp)
      have s2 := own_store1 s1 2 (.string p'.form.name) (by simp)
      have s3 := own_store1 s2 3 (.int .i64 p'.form.cells) (by simp)
      have s4 := own_store1 s3 4 (.slice a1 p'.form.params.length c1) (by simp)
      have s5 := own_store1 s4 5 (.slice a2 p'.form.index.length c2) (by simp)
      have s6 := own_store1 s5 6 (.slice a3 p'.form.values.length c3) (by simp)
      have s7 := own_store1 s6 7 (.int .i64 p'.depth) (by simp)
      have s8 := own_store1 s7 8 (.int .i64 p'.opener) (by simp)
      have s9 := own_store1 s8 9 (.int .i64 xe) (by simp)
      have s10 := own_store1 s9 10 (.int .i64 xf) (by simp)
      have s11 := own_store1 s10 11 (.int .i64 p'.proc) (by simp)
      simpa [lineCells] using s11
  · exact LinesV.join _ _ _ _ _ _ (hK.lines _ _ hA) ⟨_, _, xe, xf, rfl, hK _ _ _ _ _ (by decide) ht, hK.form hf⟩ (hK.lines _ _ hC)
end Go.Proofs.YthleadfkfnnadaaGreat
