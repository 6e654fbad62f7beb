/- The machine: a cell of its own is stored; a row of it grows. -/
import Derived.Test.YtbpajiljfppjcaaGreatMcG
namespace Go.Proofs.YtbpajiljfppjcaaGreat
open Go.RowKit
attribute [local go_sem ↓] Go.wp_at_zero Go.wp_at_succ

/-- The blocks of the machine's rows. -/
def blkX (X : McX) : List Nat := ([X.iv, X.fv, X.vv, X.ov] ++ (X.fps ++ X.vps)).filterMap Value.ownBlock
theorem zip_blks : ∀ (a : List Value) (b : List (List Int)), a.length = b.length → blks (List.zipWith iRow a b) = a.filterMap Value.ownBlock
  | [], [], _ => rfl
  | [], _ :: _, h => by simp at h
  | _ :: _, [], h => by simp at h
  | x :: a, y :: b, h => by
    rw [List.zipWith_cons_cons, blks_cons, zip_blks a b (by simpa using h), List.filterMap_cons]
    show (match x.ownBlock with | none => _ | some g => _) = _
    cases x.ownBlock <;> rfl
theorem McS.blks {w : World} {M B : Nat} {ty : TypeId} {tail : List Value} {S : Rt.Src} {m : Rt.Mc} {X : McX} (h : McS w M B ty tail S m X) : blks (rowsOf S.input X m) = blkX X := by
  unfold rowsOf blkX
  rw [blks_app, blks_app, zip_blks _ _ (by simp [h.fl]), zip_blks _ _ h.vl, List.filterMap_append, List.filterMap_append]
  rfl
/-- The machine behind a call: what it is, what else stays. -/
structure Aft (M B : Nat) (ty : TypeId) (tail : List Value) (S : Rt.Src) (X X' : McX) (m' : Rt.Mc) (w w' : World) : Prop where
  mc : McS w' M B ty tail S m' X'
  frm : Frm w w' (M :: blkX X)
  grow : Grows w (blkX X) (blkX X')
  lt : M < w.heap.size
theorem Aft.start {M B : Nat} {ty : TypeId} {tail : List Value} {S : Rt.Src} {m : Rt.Mc} {X : McX} {w w' : World} (h : McS w M B ty tail S m X) (hb : Below w.heap.size w w') : Aft M B ty tail S X X m w w' := ⟨h.later hb, Frm.of_below _ hb, Grows.refl _ _, block_lt h.block⟩
theorem Aft.below {M B : Nat} {ty : TypeId} {tail : List Value} {S : Rt.Src} {m : Rt.Mc} {X X' : McX} {w w1 w2 : World} (h : Aft M B ty tail S X X' m w w1) (hb : Below w1.heap.size w1 w2) : Aft M B ty tail S X X' m w w2 :=
  ⟨h.mc.later hb, h.frm.trans (Frm.of_below [] hb) (fun _ h => by cases h), h.grow, h.lt⟩
theorem Aft.put {M B : Nat} {ty : TypeId} {tail : List Value} {S : Rt.Src} {m m2 : Rt.Mc} {X X' : McX} {w w1 w2 : World} (h : Aft M B ty tail S X X' m w w1) (hp : PutP M B ty tail S m m2 X' w1 w2) : Aft M B ty tail S X X' m2 w w2 := by
  refine ⟨hp.1, h.frm.trans hp.2 ?_, h.grow, h.lt⟩
  rw [h.mc.blks]
  intro k hk
  rcases h.grow k hk with h' | h'
  · exact Or.inl (List.mem_cons_of_mem _ h')
  · exact Or.inr h'
theorem Aft.aside {M B : Nat} {ty : TypeId} {tail : List Value} {S : Rt.Src} {m : Rt.Mc} {X X' : McX} {w w' : World} (h : Aft M B ty tail S X X' m w w') {N : Nat} {cs : Array Value} {t : TypeId} (hN : w'.heap[N]? = some (.cells cs t (0, 0))) (hlt : w.heap.size ≤ N) (ht : ¬ PTy t ∧ t ≠ 3 ∧ t ≠ 68 ∧ t ≠ 24) (i : Nat) (v : Value) : Aft M B ty tail S X X' m w (w'.setCell ⟨N, i, none⟩ v) := by
  have hlt2 := h.lt
  refine ⟨h.mc.aside hN (by omega) ht i v, ⟨h.frm.os, h.frm.tape, h.frm.output, Nat.le_trans h.frm.size (by simp [World.setCell]), fun k hk hn => ?_⟩, h.grow, h.lt⟩
  rw [Below.heap_setCell w' ⟨N, i, none⟩ v k (by show k ≠ N; omega)]
  exact h.frm.block k hk hn
abbrev W3 (w : World) (N : Nat) (a b c : Value) : World := ((w.setCell ⟨N, 0, none⟩ a).setCell ⟨N, 1, none⟩ b).setCell ⟨N, 2, none⟩ c
theorem Aft.three {M B : Nat} {ty : TypeId} {tail : List Value} {S : Rt.Src} {m : Rt.Mc} {X X' : McX} {w w' : World} (h : Aft M B ty tail S X X' m w w') {N : Nat} {cs : Array Value} {t : TypeId} (hN : w'.heap[N]? = some (.cells cs t (0, 0))) (hlt : w.heap.size ≤ N) (ht : ¬ PTy t ∧ t ≠ 3 ∧ t ≠ 68 ∧ t ≠ 24) (a b c : Value) : Aft M B ty tail S X X' m w (W3 w' N a b c) := by
  have n1 := set_block hN 0 a
  have n2 := set_block n1 1 b
  exact ((h.aside hN hlt ht 0 a).aside n1 hlt ht 1 b).aside n2 hlt ht 2 c

def recsCells (rs : List Rt.Rec) : List Value := rs.flatMap Rt.recCells
/-- What a line comes to. -/
def OutP (M B : Nat) (ty : TypeId) (tail : List Value) (S : Rt.Src) (X : McX) (o : Rt.Out) (w : World) (e : Ending) (w' : World) : Prop :=
  ∃ rv X', e = .returned (.agg #[.int .i64 o.fin, .int .i64 o.next, rv]) ∧ Aft M B ty tail S X X' o.m w w' ∧ w'.ownsRow w.heap.size 87 5 rv o.recs.length (recsCells o.recs)
/-- A form, as a value. -/
abbrev fmA (fm : Rt.PForm) (a1 a2 a3 : Option Addr) (c1 c2 c3 : Nat) : Array Value := #[.int .i64 fm.kind, .string fm.name, .int .i64 fm.cells, .slice a1 fm.params.length c1, .slice a2 fm.index.length c2, .slice a3 fm.values.length c3]
theorem three_cells {w : World} {N : Nat} {t : TypeId} {v0 v1 v2 : Value} (h : w.heap[N]? = some (.cells #[v0, v1, v2] t (0, 0))) :
    w.cell? ⟨N, 0, none⟩ = some v0 ∧ w.cell? ⟨N, 1, none⟩ = some v1 ∧ w.cell? ⟨N, 2, none⟩ = some v2 :=
  ⟨cell_of_block h 0 (by simp), cell_of_block h 1 (by simp), cell_of_block h 2 (by simp)⟩
theorem form_later {w w' : World} {BB : Nat} {v : Array Value} {fm : Rt.PForm} (h : FormV w BB v fm) (hb : Below w.heap.size w w') : FormV w' BB v fm := (keeps_later (B := BB) hb).form h

theorem W3_size (w : World) (N : Nat) (a b c : Value) : (W3 w N a b c).heap.size = w.heap.size := by simp [World.setCell]
theorem rec_new (n : Nat) (w : World) (B R : Nat) (cs : Array Value) (hB : B ≤ w.heap.size) (a b c : Value) (hn : cs.size = n * 5) (h1 : n ≤ 1000) : ((W3 w R a b c).alloc (.cells cs 87)).ownsRow B 87 5 (.slice (some ⟨w.heap.size, 0, none⟩) n n) n cs.toList := by
  have hq := heap_alloc_new (W3 w R a b c) (.cells cs 87)
  rw [W3_size] at hq
  refine ⟨by simp [hn], Or.inr ⟨w.heap.size, n, cs, rfl, hB, hq, Nat.le_refl _, by unfold maxLen; omega, hn, ?_⟩⟩
  exact List.take_of_length_le (by simp [hn])
theorem W3_block {w : World} {R : Nat} {x y z : Value} {t : TypeId} (h : w.heap[R]? = some (.cells #[x, y, z] t (0, 0))) (a b c : Value) : (W3 w R a b c).heap[R]? = some (.cells #[a, b, c] t (0, 0)) := by
  have := set_block (set_block (set_block h 0 a) 1 b) 2 c
  simpa using this
theorem put_line (m : Rt.Mc) (s : Rt.Spot) (v : Int) : (Rt.putS m s v).line = m.line := by
  unfold Rt.putS
  split
  · split <;> rfl
  · rfl
theorem W3_other (w : World) (N : Nat) (a b c : Value) (k : Nat) (hk : k ≠ N) : (W3 w N a b c).heap[k]? = w.heap[k]? := by
  simp only [W3]
  repeat rw [Below.heap_setCell _ _ _ _ hk]
/-- A row of records that is new. -/
theorem rec_row {w : World} {B q R : Nat} (n : Nat) {cs : Array Value} (hq : w.heap[q]? = some (.cells cs 87 (0, 0))) (hne : q ≠ R) (hB : B ≤ q) (a b c : Value) (hn : cs.size = n * 5) (h1 : n ≤ 1000) : (W3 w R a b c).ownsRow B 87 5 (.slice (some ⟨q, 0, none⟩) n n) n cs.toList := by
  refine ⟨by simp [hn], Or.inr ⟨q, n, cs, rfl, hB, by rw [W3_other _ _ _ _ _ _ hne]; exact hq, Nat.le_refl _, by unfold maxLen; omega, hn, ?_⟩⟩
  exact List.take_of_length_le (by simp [hn])
set_option maxHeartbeats 2000000 in
theorem setName_any (w : World) (M B : Nat) (ty : TypeId) (tail : List Value) (S : Rt.Src) (m : Rt.Mc) (X : McX) (BB : Nat) (fm : Rt.PForm) (a1 a2 a3 : Option Addr) (c1 c2 c3 : Nat) (h : McS w M B ty tail S m X) (hm : Mok S m) (hf : FormV w BB (fmA fm a1 a2 a3 c1 c2 c3) fm) (hsm : Rt.Small fm) (hops : ∀ o ∈ fm.values, o.length ≤ 900) (hk : fm.kind = 8) :
    Calls Tryz.prog 54 #[.pointer (some ⟨M, 0, none⟩), .agg (fmA fm a1 a2 a3 c1 c2 c3)] w (OutP M B ty tail S X (Rt.perform S m fm) w) := by
  have hbA := ((Below.refl w.heap.size w).alloc (Nat.le_refl _) (.cells (fmA fm a1 a2 a3 c1 c2 c3) 77)).alloc (by simp) (.cells #[.int .i64 0, .int .i64 0, .slice none 0 0] 82)
  have bF := block_alloc (heap_alloc_new w (.cells (fmA fm a1 a2 a3 c1 c2 c3) 77)) (.cells #[.int .i64 0, .int .i64 0, .slice none 0 0] 82)
  have bR := alloc2_plain w (.cells (fmA fm a1 a2 a3 c1 c2 c3) 77) (.cells #[.int .i64 0, .int .i64 0, .slice none 0 0] 82)
  have hA := h.later hbA
  have hfA := form_later hf hbA
  have HP := hide (show Rt.perform S m fm = if (Rt.valueF S m fm).2 = 0 then ⟨0, wrap64 (m.line + 1), [Rt.stay m.line, Rt.stored m (Rt.varS S m fm.name)], Rt.putS m (Rt.varS S m fm.name) (Rt.valueF S m fm).1⟩ else Rt.ended m (Rt.valueF S m fm).2 by unfold Rt.perform; simp only; rw [if_pos hk])
  have HH := hide h
  clear h hf hk
  go_enter Tryz.func54, Tryz.ntmps54
  go_wp2_with fail
  refine (value_any _ M B ty tail S m X BB fm a1 a2 a3 c1 c2 c3 hA hm hfA hsm hops).mono ?_
  rintro e w1 ⟨rfl, hb1⟩
  have hB1 := hbA.trans (hb1.mono (B' := w.heap.size) (by simp; omega))
  have bF1 := block_later bF hb1
  have bR1 := block_later bR hb1
  have k1 := cell_of_block bF1 1 (by simp)
  simp at k1
  have h1 := hA.later hb1
  clear hA hfA hbA bF bR hb1
  generalize Rt.valueF S m fm = v at *
  obtain ⟨v1, v2⟩ := v
  simp only at HP
  by_cases hv : v2 = 0
  · subst hv
    replace HP := hide ((unhide HP).trans (if_pos rfl))
    go_wp2_with fail
    refine (mvar_any _ M B ty tail S m X fm.name h1 hm).mono ?_
    rintro e w2 ⟨rfl, hb2⟩
    have hB2 := hB1.trans (hb2.mono (B' := w.heap.size) hB1.size)
    have h2 := h1.later hb2
    have bR2 := block_later bR1 hb2
    clear h1 hb2 hB1 bF1 bR1 k1
    have hb3 := (Below.refl w2.heap.size w2).alloc (Nat.le_refl _) (.cells #[.int .i64 (Rt.varS S m fm.name).line, .int .i64 (Rt.varS S m fm.name).cell] 85)
    have h3 := h2.later hb3
    have hB3 := hB2.trans (hb3.mono (B' := w.heap.size) hB2.size)
    have bR3 := block_later bR2 hb3
    have bT3 := heap_alloc_new w2 (.cells #[.int .i64 (Rt.varS S m fm.name).line, .int .i64 (Rt.varS S m fm.name).cell] 85)
    clear h2 hb3 hB2 bR2
    generalize Rt.varS S m fm.name = sp at *
    go_wp2_with fail
    refine (store_any _ M B ty tail S m X sp v1 h3 hm).mono ?_
    rintro e w4 ⟨rfl, hp4⟩
    have hA4 := (Aft.start (unhide HH) hB3).put hp4
    have bR4 := (hp4.2.block _ (block_lt bR3) (rows_not h3.own bR3 (by decide))).trans bR3
    clear h3 hB3 bR3 bT3 hp4
    have HRc := hide (show Rt.stored m sp = ⟨4, 0, sp, Rt.getS m sp⟩ from rfl)
    generalize Rt.getS m sp = old at *
    have hb5 := (Below.refl w4.heap.size w4).alloc (Nat.le_refl _) (.cells #[.int .i64 4, .int .i64 0, .int .i64 sp.line, .int .i64 sp.cell, .int .i64 old] 87)
    have hA5 := hA4.below hb5
    have bR5 := block_later bR4 hb5
    have bO5 := heap_alloc_new w4 (.cells #[.int .i64 4, .int .i64 0, .int .i64 sp.line, .int .i64 sp.cell, .int .i64 old] 87)
    have c6 := hA5.mc.c6
    have HL := hide (show (Rt.putS m sp v1).line = m.line from put_line m sp v1)
    rw [unhide HL] at c6
    have HA5 := hide (And.intro hA5 bR5)
    obtain ⟨p0, p1, p2, p3, p4⟩ := five_cells bO5
    clear hA4 hA5 bR4 bR5 hb5 bO5
    go_wp2_with fail
    generalize w4.alloc (.cells #[.int .i64 4, .int .i64 0, .int .i64 sp.line, .int .i64 sp.cell, .int .i64 old] 87) = w5 at *
    generalize w4.heap.size = O at *
    go_region_held3 (fun w' => w'.cell? ⟨M, 6, none⟩ = some (.int .i64 m.line) ∧ w'.cell? ⟨O, 0, none⟩ = some (.int .i64 4) ∧ w'.cell? ⟨O, 1, none⟩ = some (.int .i64 0) ∧ w'.cell? ⟨O, 2, none⟩ = some (.int .i64 sp.line) ∧ w'.cell? ⟨O, 3, none⟩ = some (.int .i64 sp.cell) ∧ w'.cell? ⟨O, 4, none⟩ = some (.int .i64 old)) (go_keep) (fail)
    obtain ⟨hA5, bR5⟩ := unhide HA5
    have hb6 := ((Below.refl w5.heap.size w5).alloc (Nat.le_refl _) (.cells #[.int .i64 1, .int .i64 m.line, .int .i64 0, .int .i64 0, .int .i64 0, .int .i64 4, .int .i64 0, .int .i64 sp.line, .int .i64 sp.cell, .int .i64 old] 87)).drew
    have bQ : (w5.alloc (.cells #[.int .i64 1, .int .i64 m.line, .int .i64 0, .int .i64 0, .int .i64 0, .int .i64 4, .int .i64 0, .int .i64 sp.line, .int .i64 sp.cell, .int .i64 old] 87)).drew.heap[w5.heap.size]? = _ := heap_alloc_new w5 (.cells #[.int .i64 1, .int .i64 m.line, .int .i64 0, .int .i64 0, .int .i64 0, .int .i64 4, .int .i64 0, .int .i64 sp.line, .int .i64 sp.cell, .int .i64 old] 87)
    have hA6 := hA5.below hb6
    have bR6 := block_later bR5 hb6
    have c6' := hA6.mc.c6
    rw [unhide HL] at c6'
    have hQ := hA5.frm.size
    have hQlt := block_lt bQ
    have hRlt := block_lt bR5
    clear hA5 bR5 hb6 HA5 c6 p0 p1 p2 p3 p4
    generalize (w5.alloc (.cells #[.int .i64 1, .int .i64 m.line, .int .i64 0, .int .i64 0, .int .i64 0, .int .i64 4, .int .i64 0, .int .i64 sp.line, .int .i64 sp.cell, .int .i64 old] 87)).drew = w6 at *
    generalize w5.heap.size = q at *
    obtain ⟨r0, r1, r2⟩ := three_cells bR6
    have z := free_of_block bR6
    have HF := hide (fun a b c => And.intro (hA6.three bR6 (by omega) (by unfold PTy; decide) a b c) (rec_row 2 bQ (show q ≠ w.heap.size + 1 by omega) hQ a b c rfl (by omega)))
    clear hA6 bR6 bQ
    go_wp2_with fail
    refine bodyPost_ret (v := .agg #[.int .i64 0, .int .i64 (wrap64 (m.line + 1)), .slice (some ⟨q, 0, none⟩) 2 2]) ?_ rfl ⟨_, _, by rw [unhide HP], by rw [unhide HP]; exact (unhide HF _ _ _).1, by rw [unhide HP, unhide HRc]; exact (unhide HF _ _ _).2⟩
    simp [results, Tryz.results54, go_sem, r0, r1, r2]
  · replace HP := hide ((unhide HP).trans (if_neg hv))
    have bv : (v2 != 0) = true := by simpa using hv
    obtain ⟨r0, r1, r2⟩ := three_cells bR1
    have z := free_of_block bR1
    have HF := hide (fun a b c => (Aft.start (unhide HH) hB1).three bR1 (by omega) (by unfold PTy; decide) a b c)
    clear h1 hB1 bF1 bR1 k1 hv hm hops hsm
    go_wp2_with fail
    refine bodyPost_ret (v := .agg #[.int .i64 v2, .int .i64 0, .slice none 0 0]) ?_ rfl ⟨_, _, by rw [unhide HP]; rfl, by rw [unhide HP]; exact unhide HF _ _ _, by rw [unhide HP]; exact World.ownsRow_nil _ _ _ _⟩
    simp [results, Tryz.results54, go_sem, r0, r1, r2]
end Go.Proofs.YtbpajiljfppjcaaGreat

namespace Go.Proofs.YtbpajiljfppjcaaGreat
open Go.RowKit
attribute [local go_sem ↓] Go.wp_at_zero Go.wp_at_succ

set_option maxHeartbeats 2000000 in
theorem branch_any (w : World) (M B : Nat) (ty : TypeId) (tail : List Value) (S : Rt.Src) (m : Rt.Mc) (X : McX) (BB : Nat) (fm : Rt.PForm) (a1 a2 a3 : Option Addr) (c1 c2 c3 : Nat) (h : McS w M B ty tail S m X) (hm : Mok S m) (hf : FormV w BB (fmA fm a1 a2 a3 c1 c2 c3) fm) (hsm : Rt.Small fm) (hops : ∀ o ∈ fm.values, o.length ≤ 900) (hk : fm.kind = 5 ∨ fm.kind = 7) :
    Calls Tryz.prog 58 #[.pointer (some ⟨M, 0, none⟩), .agg (fmA fm a1 a2 a3 c1 c2 c3)] w (OutP M B ty tail S X (Rt.perform S m fm) w) := by
  have hbA := ((Below.refl w.heap.size w).alloc (Nat.le_refl _) (.cells (fmA fm a1 a2 a3 c1 c2 c3) 77)).alloc (by simp) (.cells #[.int .i64 0, .int .i64 0, .slice none 0 0] 82)
  have bF := block_alloc (heap_alloc_new w (.cells (fmA fm a1 a2 a3 c1 c2 c3) 77)) (.cells #[.int .i64 0, .int .i64 0, .slice none 0 0] 82)
  have bR := alloc2_plain w (.cells (fmA fm a1 a2 a3 c1 c2 c3) 77) (.cells #[.int .i64 0, .int .i64 0, .slice none 0 0] 82)
  have hA := h.later hbA
  have hfA := form_later hf hbA
  have HP := hide (show Rt.perform S m fm = if (Rt.valueF S m fm).2 = 0 then ⟨0, if (Rt.valueF S m fm).1 = 0 then Rt.otherwise S.lk m.line else wrap64 (m.line + 1), [Rt.stay m.line], m⟩ else Rt.ended m (Rt.valueF S m fm).2 by unfold Rt.perform; simp only; rw [if_neg (by omega), if_neg (by omega), if_neg (by omega), if_neg (by omega), if_pos hk])
  have HH := hide h
  clear h hf hk
  go_enter Tryz.func58, Tryz.ntmps58
  go_wp2_with fail
  refine (value_any _ M B ty tail S m X BB fm a1 a2 a3 c1 c2 c3 hA hm hfA hsm hops).mono ?_
  rintro e w1 ⟨rfl, hb1⟩
  have hB1 := hbA.trans (hb1.mono (B' := w.heap.size) (by simp; omega))
  have bR1 := block_later bR hb1
  have h1 := hA.later hb1
  clear hA hfA hbA bF bR hb1
  generalize Rt.valueF S m fm = v at *
  obtain ⟨v1, v2⟩ := v
  simp only at HP
  by_cases hv : v2 = 0
  · subst hv
    replace HP := hide ((unhide HP).trans (if_pos rfl))
    have c6 := h1.c6
    have HA := hide (And.intro (Aft.start (unhide HH) hB1) bR1)
    have HPr := hide h1.prog
    clear h1 hB1 bR1 hm hops hsm
    by_cases hz : v1 = 0
    · subst hz
      rw [if_pos rfl] at HP
      go_wp2_with fail
      go_region_with ((go_at_call 80; refine (otherwise_any _ _ _ _ _ _ _ m.line ((unhide HPr).later (below_to_drew _))).mono ?_; rintro e w2 ⟨rfl, hb2⟩))
      all_goals
        have hAx := (unhide HA).1.below (below_of_drew hb2)
        have bRx := block_later (unhide HA).2 (below_of_drew hb2)
        clear hb2 HA HPr c6
        generalize Rt.otherwise S.lk m.line = nx at *
        have c6x := hAx.mc.c6
        have hQ := hAx.frm.size
        have hRlt := block_lt bRx
        obtain ⟨r0, r1, r2⟩ := three_cells bRx
        have z := free_of_block bRx
        have hne1 : ¬ w.heap.size + 1 = w2.heap.size := by omega
        have hne2 : ¬ w2.heap.size = w.heap.size + 1 := by omega
        have hMlt : M < w2.heap.size := Nat.lt_of_lt_of_le hAx.lt hQ
        have hne3 : ¬ M = w2.heap.size := by omega
        have HF := hide (fun a b c => And.intro ((hAx.three bRx (by omega) (by unfold PTy; decide) a b c).below ((Below.refl _ _).alloc (Nat.le_refl _) (.cells #[.int .i64 1, .int .i64 m.line, .int .i64 0, .int .i64 0, .int .i64 0] 87))) (rec_new 1 w2 w.heap.size (w.heap.size + 1) #[.int .i64 1, .int .i64 m.line, .int .i64 0, .int .i64 0, .int .i64 0] hQ a b c rfl (by omega)))
        have HG := hide (fun a b c : Value => three_cells (block_alloc (W3_block bRx a b c) (.cells #[.int .i64 1, .int .i64 m.line, .int .i64 0, .int .i64 0, .int .i64 0] 87)))
        clear hAx bRx
        go_wp2_with fail
        refine bodyPost_ret (v := .agg #[.int .i64 0, .int .i64 (nx), .slice (some ⟨w2.heap.size, 0, none⟩) 1 1]) ?_ rfl ⟨_, _, by rw [unhide HP], by rw [unhide HP]; exact (unhide HF _ _ _).1, by rw [unhide HP]; exact (unhide HF _ _ _).2⟩
        have E := unhide HG (.int .i64 0) (.int .i64 (nx)) (.slice (some ⟨w2.heap.size, 0, none⟩) 1 1)
        revert E
        generalize (W3 w2 (w.heap.size + 1) (.int .i64 0) (.int .i64 (nx)) (.slice (some ⟨w2.heap.size, 0, none⟩) 1 1)).alloc (.cells #[.int .i64 1, .int .i64 m.line, .int .i64 0, .int .i64 0, .int .i64 0] 87) = wz
        intro E
        simp [results, Tryz.results58, go_sem, E.1, E.2.1, E.2.2]
    · rw [if_neg hz] at HP
      have bz : (v1 == 0) = false := by rw [beq_eq_false_iff_ne]; exact hz
      obtain ⟨hAx, bRx⟩ := unhide HA
      clear HA HPr hz
      have c6x := hAx.mc.c6
      have hQ := hAx.frm.size
      have hRlt := block_lt bRx
      obtain ⟨r0, r1, r2⟩ := three_cells bRx
      have z := free_of_block bRx
      have hne1 : ¬ w.heap.size + 1 = w1.heap.size := by omega
      have hne2 : ¬ w1.heap.size = w.heap.size + 1 := by omega
      have hMlt : M < w1.heap.size := Nat.lt_of_lt_of_le hAx.lt hQ
      have hne3 : ¬ M = w1.heap.size := by omega
      have HF := hide (fun a b c => And.intro ((hAx.three bRx (by omega) (by unfold PTy; decide) a b c).below ((Below.refl _ _).alloc (Nat.le_refl _) (.cells #[.int .i64 1, .int .i64 m.line, .int .i64 0, .int .i64 0, .int .i64 0] 87))) (rec_new 1 w1 w.heap.size (w.heap.size + 1) #[.int .i64 1, .int .i64 m.line, .int .i64 0, .int .i64 0, .int .i64 0] hQ a b c rfl (by omega)))
      have HG := hide (fun a b c : Value => three_cells (block_alloc (W3_block bRx a b c) (.cells #[.int .i64 1, .int .i64 m.line, .int .i64 0, .int .i64 0, .int .i64 0] 87)))
      clear hAx bRx
      go_wp2_with fail
      refine bodyPost_ret (v := .agg #[.int .i64 0, .int .i64 (wrap64 (m.line + 1)), .slice (some ⟨w1.heap.size, 0, none⟩) 1 1]) ?_ rfl ⟨_, _, by rw [unhide HP], by rw [unhide HP]; exact (unhide HF _ _ _).1, by rw [unhide HP]; exact (unhide HF _ _ _).2⟩
      have E := unhide HG (.int .i64 0) (.int .i64 (wrap64 (m.line + 1))) (.slice (some ⟨w1.heap.size, 0, none⟩) 1 1)
      revert E
      generalize (W3 w1 (w.heap.size + 1) (.int .i64 0) (.int .i64 (wrap64 (m.line + 1))) (.slice (some ⟨w1.heap.size, 0, none⟩) 1 1)).alloc (.cells #[.int .i64 1, .int .i64 m.line, .int .i64 0, .int .i64 0, .int .i64 0] 87) = wz
      intro E
      simp [results, Tryz.results58, go_sem, E.1, E.2.1, E.2.2]
  · replace HP := hide ((unhide HP).trans (if_neg hv))
    have bv : (v2 != 0) = true := by simpa using hv
    obtain ⟨r0, r1, r2⟩ := three_cells bR1
    have z := free_of_block bR1
    have HF := hide (fun a b c => (Aft.start (unhide HH) hB1).three bR1 (by omega) (by unfold PTy; decide) a b c)
    clear h1 hB1 bR1 hv hm hops hsm
    go_wp2_with fail
    refine bodyPost_ret (v := .agg #[.int .i64 v2, .int .i64 0, .slice none 0 0]) ?_ rfl ⟨_, _, by rw [unhide HP]; rfl, by rw [unhide HP]; exact unhide HF _ _ _, by rw [unhide HP]; exact World.ownsRow_nil _ _ _ _⟩
    simp [results, Tryz.results58, go_sem, r0, r1, r2]
end Go.Proofs.YtbpajiljfppjcaaGreat

namespace Go.Proofs.YtbpajiljfppjcaaGreat
open Go.RowKit
attribute [local go_sem ↓] Go.wp_at_zero Go.wp_at_succ

/-- The machine's own cells. -/
def mcCells (X : McX) (m : Rt.Mc) (tail : List Value) : Array Value := ([X.lv, X.iv, X.fv, X.vv, .int .i64 m.taken, X.ov, .int .i64 m.line, .int .i64 m.fin] ++ tail).toArray
/-- A cell of the machine's own is stored, in a world in which its rows are others. -/
theorem McS.step {w w1 : World} {M B : Nat} {ty : TypeId} {tail : List Value} {S : Rt.Src} {m m' : Rt.Mc} {X X' : McX} (h : McS w M B ty tail S m X) (hs : w.heap.size ≤ w1.heap.size) (hM : w1.heap[M]? = w.heap[M]?)
    (hk : ∀ (k : Nat) (x : Obj), w.heap[k]? = some x → (∃ c t, x = Obj.cells c t (0, 0) ∧ PTy t) → w1.heap[k]? = some x) (i : Nat) (v : Value) (hb : (mcCells X m tail).setIfInBounds i v = mcCells X' m' tail) (ho : Own w1 (rowsOf S.input X' m')) (hl : X'.lv = X.lv) (hc : X'.cs = X.cs)
    (fl : X'.fps.length = m'.frames.length) (vl : X'.vps.length = m'.values.length) : McS (w1.setCell ⟨M, i, none⟩ v) M B ty tail S m' X' := by
  have hother : ∀ k, k ≠ M → (w1.setCell ⟨M, i, none⟩ v).heap[k]? = w1.heap[k]? := fun k hk => Below.heap_setCell w1 ⟨M, i, none⟩ _ k hk
  have hM1 : w1.heap[M]? = some (.cells (mcCells X m tail) ty (0, 0)) := hM.trans h.block
  refine h.next ?_ (by simpa [World.setCell] using hs) (fun k x hx hne hp => by rw [hother k hne]; exact hk k x hx hp) ⟨fun r hr => own_same (ho.rows r hr) (fun g hg => hother g ?_), ho.apart⟩ hl hc fl vl
  · have := set_block hM1 i v
    rw [hb] at this
    exact this
  · intro e
    obtain ⟨c, hc⟩ := own_blk (ho.rows r hr) hg
    rw [e, hM1] at hc
    injection hc with hc
    injection hc with _ hc
    have h3 := rows_ty3 hr
    rw [← hc] at h3
    rcases h3 with e | e | e
    · exact h.ty.1 e
    · exact h.ty.2.1 e
    · exact h.ty.2.2.1 e
theorem Frm.setM {w w1 : World} {M : Nat} {F : List Nat} (h : Frm w w1 (M :: F)) (i : Nat) (v : Value) : Frm w (w1.setCell ⟨M, i, none⟩ v) (M :: F) :=
  ⟨h.os, h.tape, h.output, Nat.le_trans h.size (by simp [World.setCell]), fun k hk hn => by
    rw [Below.heap_setCell w1 ⟨M, i, none⟩ v k (fun e => hn (by rw [show k = M from e]; exact List.mem_cons_self ..))]
    exact h.block k hk hn⟩
/-- What is printed grows by a number. -/
theorem McS.outPush {w w1 wx : World} {M B : Nat} {ty : TypeId} {tail : List Value} {S : Rt.Src} {m : Rt.Mc} {X : McX} (h : McS w M B ty tail S m X) (hb : Below w.heap.size w wx) (hg : wx.grownBy w1 X.ov.ownBlock) (v : Int) (ov' : Value)
    (hown : w1.ownsRow 0 3 1 ov' (m.output.length + 1) (intsV (m.output ++ [v]))) (hat : ∀ g, ov'.ownBlock = some g → X.ov.ownBlock = some g ∨ w.heap.size ≤ g) :
    McS (w1.setCell ⟨M, 5, none⟩ ov') M B ty tail S { m with output := m.output ++ [v] } { X with ov := ov' } ∧ Frm w (w1.setCell ⟨M, 5, none⟩ ov') (M :: blkX X) ∧ Grows w (blkX X) (blkX { X with ov := ov' }) := by
  have hrow := h.out
  have hkeep : ∀ k, k < w.heap.size → X.ov.ownBlock ≠ some k → w1.heap[k]? = w.heap[k]? := fun k hk hv => (hg.block k (Nat.lt_of_lt_of_le hk hb.size) (Ne.symm hv)).trans (hb.block k hk)
  have hint : ∀ g, X.ov.ownBlock = some g → ∃ c, w.heap[g]? = some (.cells c 3 (0, 0)) := fun g hg => own_blk hrow hg
  have hMne : X.ov.ownBlock ≠ some M := by
    intro e
    obtain ⟨c, hc⟩ := hint M e
    rw [h.block] at hc
    injection hc with hc
    injection hc with _ hc
    exact h.ty.1 hc
  have hk : ∀ (k : Nat) (x : Obj), w.heap[k]? = some x → (∃ c t, x = Obj.cells c t (0, 0) ∧ PTy t) → w1.heap[k]? = some x := by
    intro k x hx hp
    rw [hkeep k (block_lt hx) (fun e => by
      obtain ⟨c, hc⟩ := hint k e
      rw [hx] at hc
      injection hc with hc
      obtain ⟨c', t', e2, hp⟩ := hp
      rw [hc] at e2
      injection e2 with _ e2
      rw [← e2] at hp
      exact absurd hp (by unfold PTy; decide))]
    exact hx
  have hrows : rowsOf S.input X m = [iRow X.iv S.input, ⟨68, 2, X.fv, m.frames.length, fCells X.fps m.frames⟩, ⟨24, 1, X.vv, m.values.length, X.vps⟩] ++ iRow X.ov m.output :: (List.zipWith iRow X.fps (m.frames.map Rt.Fm.params) ++ List.zipWith iRow X.vps m.values) := rfl
  have ho := h.own
  rw [hrows] at ho
  obtain ⟨o1, o2⟩ := ho.swap (w' := w1) (r' := iRow ov' (m.output ++ [v])) hkeep (by show World.ownsRow _ 0 3 1 _ (m.output ++ [v]).length _; rw [List.length_append]; exact hown) hat
  have hmc := h.step (w1 := w1) (m' := { m with output := m.output ++ [v] }) (X' := { X with ov := ov' }) (Nat.le_trans hb.size hg.size) (hkeep M (block_lt h.block) hMne) hk 5 ov' (by simp [mcCells]) o1 rfl rfl h.fl h.vl
  refine ⟨hmc, ?_, ?_⟩
  · refine Frm.setM ⟨hg.os.trans hb.os, hg.tape.trans hb.tape, hg.output.trans hb.output, Nat.le_trans hb.size hg.size, fun k hk2 hn => hkeep k hk2 (fun e => hn (List.mem_cons_of_mem _ ?_))⟩ _ _
    rw [← h.blks]
    exact mem_blks (r := iRow X.ov m.output) (by rw [hrows]; simp) e
  · rw [← h.blks, ← hmc.blks]
    exact o2
end Go.Proofs.YtbpajiljfppjcaaGreat

