/- The machine: what a line comes to; a value set. -/
import Derived.Test.YtnjhgcanglkfiaaMcG
namespace Go.Proofs.Ytnjhgcanglkfiaa
open Go.RowKit
attribute [local go_sem ↓] Go.wp_at_zero Go.wp_at_succ

/-- The blocks of the machine's rows. -/
def blkX (X : McX) : List Nat := ([X.iv, X.fv, X.vv, X.ov] ++ (X.fps ++ X.vps)).filterMap Value.ownBlock
theorem zip_blks : ∀ (a : List Value) (b : List (List Int)), a.length = b.length → blks (List.zipWith iRow a b) = a.filterMap Value.ownBlock
  | [], [], _ => rfl
  | [], _ :: _, h => by simp at h
  | _ :: _, [], h => by simp at h
  | x :: a, y :: b, h => by
    rw [List.zipWith_cons_cons, blks_cons, zip_blks a b (by simpa using h), List.filterMap_cons]
    show (match x.ownBlock with | none => _ | some g => _) = _
    cases x.ownBlock <;> rfl
theorem McS.blks {w : World} {M B : Nat} {ty : TypeId} {tail : List Value} {S : Rt.Src} {m : Rt.Mc} {X : McX} (h : McS w M B ty tail S m X) : blks (rowsOf S.input X m) = blkX X := by
  unfold rowsOf blkX
  rw [blks_app, blks_app, zip_blks _ _ (by simp [h.fl]), zip_blks _ _ h.vl, List.filterMap_append, List.filterMap_append]
  rfl
/-- The machine behind a call: what it is, what else stays. -/
structure Aft (M B : Nat) (ty : TypeId) (tail : List Value) (S : Rt.Src) (X X' : McX) (m' : Rt.Mc) (w w' : World) : Prop where
  mc : McS w' M B ty tail S m' X'
  frm : Frm w w' (M :: blkX X)
  grow : Grows w (blkX X) (blkX X')
  lt : M < w.heap.size
theorem Aft.start {M B : Nat} {ty : TypeId} {tail : List Value} {S : Rt.Src} {m : Rt.Mc} {X : McX} {w w' : World} (h : McS w M B ty tail S m X) (hb : Below w.heap.size w w') : Aft M B ty tail S X X m w w' := ⟨h.later hb, Frm.of_below _ hb, Grows.refl _ _, block_lt h.block⟩
theorem Aft.below {M B : Nat} {ty : TypeId} {tail : List Value} {S : Rt.Src} {m : Rt.Mc} {X X' : McX} {w w1 w2 : World} (h : Aft M B ty tail S X X' m w w1) (hb : Below w1.heap.size w1 w2) : Aft M B ty tail S X X' m w w2 :=
  ⟨h.mc.later hb, h.frm.trans (Frm.of_below [] hb) (fun _ h => by cases h), h.grow, h.lt⟩
theorem Aft.put {M B : Nat} {ty : TypeId} {tail : List Value} {S : Rt.Src} {m m2 : Rt.Mc} {X X' : McX} {w w1 w2 : World} (h : Aft M B ty tail S X X' m w w1) (hp : PutP M B ty tail S m m2 X' w1 w2) : Aft M B ty tail S X X' m2 w w2 := by
  refine ⟨hp.1, h.frm.trans hp.2 ?_, h.grow, h.lt⟩
  rw [h.mc.blks]
  intro k hk
  rcases h.grow k hk with h' | h'
  · exact Or.inl (List.mem_cons_of_mem _ h')
  · exact Or.inr h'
theorem Aft.aside {M B : Nat} {ty : TypeId} {tail : List Value} {S : Rt.Src} {m : Rt.Mc} {X X' : McX} {w w' : World} (h : Aft M B ty tail S X X' m w w') {N : Nat} {cs : Array Value} {t : TypeId} (hN : w'.heap[N]? = some (.cells cs t (0, 0))) (hlt : w.heap.size ≤ N) (ht : ¬ PTy t ∧ t ≠ 3 ∧ t ≠ 49 ∧ t ≠ 22) (i : Nat) (v : Value) : Aft M B ty tail S X X' m w (w'.setCell ⟨N, i, none⟩ v) := by
  have hlt2 := h.lt
  refine ⟨h.mc.aside hN (by omega) ht i v, ⟨h.frm.os, h.frm.tape, h.frm.output, Nat.le_trans h.frm.size (by simp [World.setCell]), fun k hk hn => ?_⟩, h.grow, h.lt⟩
  rw [Below.heap_setCell w' ⟨N, i, none⟩ v k (by show k ≠ N; omega)]
  exact h.frm.block k hk hn
abbrev W3 (w : World) (N : Nat) (a b c : Value) : World := ((w.setCell ⟨N, 0, none⟩ a).setCell ⟨N, 1, none⟩ b).setCell ⟨N, 2, none⟩ c
theorem Aft.three {M B : Nat} {ty : TypeId} {tail : List Value} {S : Rt.Src} {m : Rt.Mc} {X X' : McX} {w w' : World} (h : Aft M B ty tail S X X' m w w') {N : Nat} {cs : Array Value} {t : TypeId} (hN : w'.heap[N]? = some (.cells cs t (0, 0))) (hlt : w.heap.size ≤ N) (ht : ¬ PTy t ∧ t ≠ 3 ∧ t ≠ 49 ∧ t ≠ 22) (a b c : Value) : Aft M B ty tail S X X' m w (W3 w' N a b c) := by
  have n1 := set_block hN 0 a
  have n2 := set_block n1 1 b
  exact ((h.aside hN hlt ht 0 a).aside n1 hlt ht 1 b).aside n2 hlt ht 2 c

def recsCells (rs : List Rt.Rec) : List Value := rs.flatMap Rt.recCells
/-- What a line comes to. -/
def OutP (M B : Nat) (ty : TypeId) (tail : List Value) (S : Rt.Src) (X : McX) (o : Rt.Out) (w : World) (e : Ending) (w' : World) : Prop :=
  ∃ rv X', e = .returned (.agg #[.int .i64 o.fin, .int .i64 o.next, rv]) ∧ Aft M B ty tail S X X' o.m w w' ∧ w'.ownsRow w.heap.size 68 5 rv o.recs.length (recsCells o.recs)
/-- A form, as a value. -/
abbrev fmA (fm : Rt.PForm) (a1 a2 a3 : Option Addr) (c1 c2 c3 : Nat) : Array Value := #[.int .i64 fm.kind, .string fm.name, .int .i64 fm.cells, .slice a1 fm.params.length c1, .slice a2 fm.index.length c2, .slice a3 fm.values.length c3]
theorem three_cells {w : World} {N : Nat} {t : TypeId} {v0 v1 v2 : Value} (h : w.heap[N]? = some (.cells #[v0, v1, v2] t (0, 0))) :
    w.cell? ⟨N, 0, none⟩ = some v0 ∧ w.cell? ⟨N, 1, none⟩ = some v1 ∧ w.cell? ⟨N, 2, none⟩ = some v2 :=
  ⟨cell_of_block h 0 (by simp), cell_of_block h 1 (by simp), cell_of_block h 2 (by simp)⟩
theorem form_later {w w' : World} {BB : Nat} {v : Array Value} {fm : Rt.PForm} (h : FormV w BB v fm) (hb : Below w.heap.size w w') : FormV w' BB v fm := (keeps_later (B := BB) hb).form h

theorem W3_size (w : World) (N : Nat) (a b c : Value) : (W3 w N a b c).heap.size = w.heap.size := by simp [World.setCell]
theorem rec_new (n : Nat) (w : World) (B R : Nat) (cs : Array Value) (hB : B ≤ w.heap.size) (a b c : Value) (hn : cs.size = n * 5) (h1 : n ≤ 1000) : ((W3 w R a b c).alloc (.cells cs 68)).ownsRow B 68 5 (.slice (some ⟨w.heap.size, 0, none⟩) n n) n cs.toList := by
  have hq := heap_alloc_new (W3 w R a b c) (.cells cs 68)
  rw [W3_size] at hq
  refine ⟨by simp [hn], Or.inr ⟨w.heap.size, n, cs, rfl, hB, hq, Nat.le_refl _, by unfold maxLen; omega, hn, ?_⟩⟩
  exact List.take_of_length_le (by simp [hn])
theorem W3_block {w : World} {R : Nat} {x y z : Value} {t : TypeId} (h : w.heap[R]? = some (.cells #[x, y, z] t (0, 0))) (a b c : Value) : (W3 w R a b c).heap[R]? = some (.cells #[a, b, c] t (0, 0)) := by
  have := set_block (set_block (set_block h 0 a) 1 b) 2 c
  simpa using this
theorem put_line (m : Rt.Mc) (s : Rt.Spot) (v : Int) : (Rt.putS m s v).line = m.line := by
  unfold Rt.putS
  split
  · split <;> rfl
  · rfl
theorem W3_other (w : World) (N : Nat) (a b c : Value) (k : Nat) (hk : k ≠ N) : (W3 w N a b c).heap[k]? = w.heap[k]? := by
  simp only [W3]
  repeat rw [Below.heap_setCell _ _ _ _ hk]
/-- A row of records that is new. -/
theorem rec_row {w : World} {B q R : Nat} (n : Nat) {cs : Array Value} (hq : w.heap[q]? = some (.cells cs 68 (0, 0))) (hne : q ≠ R) (hB : B ≤ q) (a b c : Value) (hn : cs.size = n * 5) (h1 : n ≤ 1000) : (W3 w R a b c).ownsRow B 68 5 (.slice (some ⟨q, 0, none⟩) n n) n cs.toList := by
  refine ⟨by simp [hn], Or.inr ⟨q, n, cs, rfl, hB, by rw [W3_other _ _ _ _ _ _ hne]; exact hq, Nat.le_refl _, by unfold maxLen; omega, hn, ?_⟩⟩
  exact List.take_of_length_le (by simp [hn])
set_option maxHeartbeats 2000000 in
theorem setName_any (w : World) (M B : Nat) (ty : TypeId) (tail : List Value) (S : Rt.Src) (m : Rt.Mc) (X : McX) (BB : Nat) (fm : Rt.PForm) (a1 a2 a3 : Option Addr) (c1 c2 c3 : Nat) (h : McS w M B ty tail S m X) (hm : Mok S m) (hf : FormV w BB (fmA fm a1 a2 a3 c1 c2 c3) fm) (hsm : Rt.Small fm) (hops : ∀ o ∈ fm.values, o.length ≤ 900) (hk : fm.kind = 8) :
    Calls Try.prog 26 #[.pointer (some ⟨M, 0, none⟩), .agg (fmA fm a1 a2 a3 c1 c2 c3)] w (OutP M B ty tail S X (Rt.perform S m fm) w) := by
  have hbA := ((Below.refl w.heap.size w).alloc (Nat.le_refl _) (.cells (fmA fm a1 a2 a3 c1 c2 c3) 58)).alloc (by simp) (.cells #[.int .i64 0, .int .i64 0, .slice none 0 0] 63)
  have bF := block_alloc (heap_alloc_new w (.cells (fmA fm a1 a2 a3 c1 c2 c3) 58)) (.cells #[.int .i64 0, .int .i64 0, .slice none 0 0] 63)
  have bR := alloc2_plain w (.cells (fmA fm a1 a2 a3 c1 c2 c3) 58) (.cells #[.int .i64 0, .int .i64 0, .slice none 0 0] 63)
  have hA := h.later hbA
  have hfA := form_later hf hbA
  have HP := hide (show Rt.perform S m fm = if (Rt.valueF S m fm).2 = 0 then ⟨0, wrap64 (m.line + 1), [Rt.stay m.line, Rt.stored m (Rt.varS S m fm.name)], Rt.putS m (Rt.varS S m fm.name) (Rt.valueF S m fm).1⟩ else Rt.ended m (Rt.valueF S m fm).2 by unfold Rt.perform; simp only; rw [if_pos hk])
  have HH := hide h
  clear h hf hk
  go_enter Try.func26, Try.ntmps26
  go_wp2_with fail
  refine (value_any _ M B ty tail S m X BB fm a1 a2 a3 c1 c2 c3 hA hm hfA hsm hops).mono ?_
  rintro e w1 ⟨rfl, hb1⟩
  have hB1 := hbA.trans (hb1.mono (B' := w.heap.size) (by simp; omega))
  have bF1 := block_later bF hb1
  have bR1 := block_later bR hb1
  have k1 := cell_of_block bF1 1 (by simp)
  simp at k1
  have h1 := hA.later hb1
  clear hA hfA hbA bF bR hb1
  generalize Rt.valueF S m fm = v at *
  obtain ⟨v1, v2⟩ := v
  simp only at HP
  by_cases hv : v2 = 0
  · subst hv
    replace HP := hide ((unhide HP).trans (if_pos rfl))
    go_wp2_with fail
    refine (mvar_any _ M B ty tail S m X fm.name h1 hm).mono ?_
    rintro e w2 ⟨rfl, hb2⟩
    have hB2 := hB1.trans (hb2.mono (B' := w.heap.size) hB1.size)
    have h2 := h1.later hb2
    have bR2 := block_later bR1 hb2
    clear h1 hb2 hB1 bF1 bR1 k1
    have hb3 := (Below.refl w2.heap.size w2).alloc (Nat.le_refl _) (.cells #[.int .i64 (Rt.varS S m fm.name).line, .int .i64 (Rt.varS S m fm.name).cell] 66)
    have h3 := h2.later hb3
    have hB3 := hB2.trans (hb3.mono (B' := w.heap.size) hB2.size)
    have bR3 := block_later bR2 hb3
    have bT3 := heap_alloc_new w2 (.cells #[.int .i64 (Rt.varS S m fm.name).line, .int .i64 (Rt.varS S m fm.name).cell] 66)
    clear h2 hb3 hB2 bR2
    generalize Rt.varS S m fm.name = sp at *
    go_wp2_with fail
    refine (store_any _ M B ty tail S m X sp v1 h3 hm).mono ?_
    rintro e w4 ⟨rfl, hp4⟩
    have hA4 := (Aft.start (unhide HH) hB3).put hp4
    have bR4 := (hp4.2.block _ (block_lt bR3) (rows_not h3.own bR3 (by decide))).trans bR3
    clear h3 hB3 bR3 bT3 hp4
    have HRc := hide (show Rt.stored m sp = ⟨4, 0, sp, Rt.getS m sp⟩ from rfl)
    generalize Rt.getS m sp = old at *
    have hb5 := (Below.refl w4.heap.size w4).alloc (Nat.le_refl _) (.cells #[.int .i64 4, .int .i64 0, .int .i64 sp.line, .int .i64 sp.cell, .int .i64 old] 68)
    have hA5 := hA4.below hb5
    have bR5 := block_later bR4 hb5
    have bO5 := heap_alloc_new w4 (.cells #[.int .i64 4, .int .i64 0, .int .i64 sp.line, .int .i64 sp.cell, .int .i64 old] 68)
    have c6 := hA5.mc.c6
    have HL := hide (show (Rt.putS m sp v1).line = m.line from put_line m sp v1)
    rw [unhide HL] at c6
    have HA5 := hide (And.intro hA5 bR5)
    obtain ⟨p0, p1, p2, p3, p4⟩ := five_cells bO5
    clear hA4 hA5 bR4 bR5 hb5 bO5
    go_wp2_with fail
    generalize w4.alloc (.cells #[.int .i64 4, .int .i64 0, .int .i64 sp.line, .int .i64 sp.cell, .int .i64 old] 68) = w5 at *
    generalize w4.heap.size = O at *
    go_region_held3 (fun w' => w'.cell? ⟨M, 6, none⟩ = some (.int .i64 m.line) ∧ w'.cell? ⟨O, 0, none⟩ = some (.int .i64 4) ∧ w'.cell? ⟨O, 1, none⟩ = some (.int .i64 0) ∧ w'.cell? ⟨O, 2, none⟩ = some (.int .i64 sp.line) ∧ w'.cell? ⟨O, 3, none⟩ = some (.int .i64 sp.cell) ∧ w'.cell? ⟨O, 4, none⟩ = some (.int .i64 old)) (go_keep) (fail)
    obtain ⟨hA5, bR5⟩ := unhide HA5
    have hb6 := ((Below.refl w5.heap.size w5).alloc (Nat.le_refl _) (.cells #[.int .i64 1, .int .i64 m.line, .int .i64 0, .int .i64 0, .int .i64 0, .int .i64 4, .int .i64 0, .int .i64 sp.line, .int .i64 sp.cell, .int .i64 old] 68)).drew
    have bQ : (w5.alloc (.cells #[.int .i64 1, .int .i64 m.line, .int .i64 0, .int .i64 0, .int .i64 0, .int .i64 4, .int .i64 0, .int .i64 sp.line, .int .i64 sp.cell, .int .i64 old] 68)).drew.heap[w5.heap.size]? = _ := heap_alloc_new w5 (.cells #[.int .i64 1, .int .i64 m.line, .int .i64 0, .int .i64 0, .int .i64 0, .int .i64 4, .int .i64 0, .int .i64 sp.line, .int .i64 sp.cell, .int .i64 old] 68)
    have hA6 := hA5.below hb6
    have bR6 := block_later bR5 hb6
    have c6' := hA6.mc.c6
    rw [unhide HL] at c6'
    have hQ := hA5.frm.size
    have hQlt := block_lt bQ
    have hRlt := block_lt bR5
    clear hA5 bR5 hb6 HA5 c6 p0 p1 p2 p3 p4
    generalize (w5.alloc (.cells #[.int .i64 1, .int .i64 m.line, .int .i64 0, .int .i64 0, .int .i64 0, .int .i64 4, .int .i64 0, .int .i64 sp.line, .int .i64 sp.cell, .int .i64 old] 68)).drew = w6 at *
    generalize w5.heap.size = q at *
    obtain ⟨r0, r1, r2⟩ := three_cells bR6
    have z := free_of_block bR6
    have HF := hide (fun a b c => And.intro (hA6.three bR6 (by omega) (by unfold PTy; decide) a b c) (rec_row 2 bQ (show q ≠ w.heap.size + 1 by omega) hQ a b c rfl (by omega)))
    clear hA6 bR6 bQ
    go_wp2_with fail
    refine bodyPost_ret (v := .agg #[.int .i64 0, .int .i64 (wrap64 (m.line + 1)), .slice (some ⟨q, 0, none⟩) 2 2]) ?_ rfl ⟨_, _, by rw [unhide HP], by rw [unhide HP]; exact (unhide HF _ _ _).1, by rw [unhide HP, unhide HRc]; exact (unhide HF _ _ _).2⟩
    simp [results, Try.results26, go_sem, r0, r1, r2]
  · replace HP := hide ((unhide HP).trans (if_neg hv))
    have bv : (v2 != 0) = true := by simpa using hv
    obtain ⟨r0, r1, r2⟩ := three_cells bR1
    have z := free_of_block bR1
    have HF := hide (fun a b c => (Aft.start (unhide HH) hB1).three bR1 (by omega) (by unfold PTy; decide) a b c)
    clear h1 hB1 bF1 bR1 k1 hv hm hops hsm
    go_wp2_with fail
    refine bodyPost_ret (v := .agg #[.int .i64 v2, .int .i64 0, .slice none 0 0]) ?_ rfl ⟨_, _, by rw [unhide HP]; rfl, by rw [unhide HP]; exact unhide HF _ _ _, by rw [unhide HP]; exact World.ownsRow_nil _ _ _ _⟩
    simp [results, Try.results26, go_sem, r0, r1, r2]
end Go.Proofs.Ytnjhgcanglkfiaa

