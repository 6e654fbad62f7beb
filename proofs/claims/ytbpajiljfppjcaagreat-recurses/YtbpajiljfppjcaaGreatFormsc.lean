/- The walks of the readers of lines, continued: array, procedure. -/
import Derived.Test.YtbpajiljfppjcaaGreatForms
namespace Go.Proofs.YtbpajiljfppjcaaGreat
open Go.RowKit


theorem name_any (w : World) (R : Nat) (tv : Value) (ts : List Rt.Tk) (n : Nat) (ov : Value) (ops : List Pop) (hr : RdS w R tv ts n ov ops) :
    Calls Tryz.prog 106 #[.pointer (some ⟨R, 0, none⟩)] w fun e w' =>
      (∃ nm, n < ts.length ∧ Rt.pName (ts.drop n) = some (nm, ts.drop (n + 1)) ∧ e = .returned (.tuple #[.string nm, .bool true]) ∧ RdS w' R tv ts (n + 1) ov ops ∧ RFr R ov ov w w') ∨
      (Rt.pName (ts.drop n) = none ∧ e = .returned (.tuple #[.string ⟨#[]⟩, .bool false]) ∧ RdS w' R tv ts n ov ops ∧ RFr R ov ov w w') := by
  by_cases hn : n < ts.length
  · refine (name_some w R tv ts n ov ops hr hn).mono ?_
    rintro e w' (⟨h1, h2, rfl, h3, h4⟩ | ⟨h1, rfl, h3, h4⟩)
    · exact Or.inl ⟨_, hn, by rw [drop_at hn, Rt.pName, if_pos ⟨h1, h2⟩], rfl, h3, h4⟩
    · exact Or.inr ⟨by rw [drop_at hn, Rt.pName, if_neg h1], rfl, h3, h4⟩
  · refine (name_end' w R tv ts n ov ops hr hn).mono ?_
    rintro e w' ⟨rfl, h3, h4⟩
    exact Or.inr ⟨by rw [drop_end hn, Rt.pName], rfl, h3, h4⟩

def ExprsR (w : World) (B : Nat) : List Value → List (List Pop) → Prop
  | [], [] => True
  | x :: xs, o :: os => w.ownsRow B 141 3 x o.length (popsCells o) ∧ ExprsR w B xs os
  | _, _ => False

/-- A Form in memory: its six cells, and what they lead to, in blocks from B on. -/
def FormV (w : World) (B : Nat) (v : Array Value) (fm : Rt.PForm) : Prop :=
  ∃ pv iv vv vs, v = #[.int .i64 fm.kind, .string fm.name, .int .i64 fm.cells, pv, iv, vv] ∧ w.ownsRow B 9 1 pv fm.params.length (fm.params.map Value.string) ∧
    w.ownsRow B 141 3 iv fm.index.length (popsCells fm.index) ∧ w.ownsRow B 74 1 vv fm.values.length vs ∧ ExprsR w B vs fm.values

abbrev zForm : Array Value := #[.int .i64 0, .string ⟨#[]⟩, .int .i64 0, noOps, noOps, noOps]

/-- What a reader of what stands behind a line's first token says. -/
def LineP (spec : List Rt.Tk → Rt.GotF) (R : Nat) (tv : Value) (ts : List Rt.Tk) (n : Nat) (w : World) (e : Ending) (w' : World) : Prop :=
  (∃ fm n' fv, spec (ts.drop n) = some (fm, ts.drop n') ∧ e = .returned (.tuple #[.agg fv, .bool true]) ∧ RdS w' R tv ts n' noOps [] ∧ FormV w' w.heap.size fv fm ∧ RFr R noOps noOps w w') ∨
  (spec (ts.drop n) = none ∧ e = .returned (.tuple #[.agg zForm, .bool false]) ∧ ∃ ov, RFr R noOps ov w w')

abbrev W6 (w : World) (N : Nat) (a b c d e f : Value) : World :=
  (((((w.setCell ⟨N, 0, none⟩ a).setCell ⟨N, 1, none⟩ b).setCell ⟨N, 2, none⟩ c).setCell ⟨N, 3, none⟩ d).setCell ⟨N, 4, none⟩ e).setCell ⟨N, 5, none⟩ f
theorem RFr.set6 {R : Nat} {x y : Value} {w w1 : World} {N : Nat} (h : RFr R x y w w1) (hN : w.heap.size ≤ N) (a b c d e f : Value) : RFr R x y w (W6 w1 N a b c d e f) :=
  (((((h.setNew hN a).setNew hN b).setNew hN c).setNew hN d).setNew hN e).setNew hN f
theorem RdS.set6 {w : World} {R : Nat} {tv : Value} {ts : List Rt.Tk} {n : Nat} {N : Nat} (hr : RdS w R tv ts n noOps []) (hN : R < N) (a b c d e f : Value) : RdS (W6 w N a b c d e f) R tv ts n noOps [] :=
  have ho : ∀ g, (noOps : Value).ownBlock = some g → g ≠ N := by intro g h; cases h
  (((((hr.setOther hN ho a).setOther hN ho b).setOther hN ho c).setOther hN ho d).setOther hN ho e).setOther hN ho f
theorem own_set6 {w : World} {base : Nat} {t : TypeId} {size : Nat} {v : Value} {n : Nat} {xs : List Value} {N : Nat} (h : w.ownsRow base t size v n xs) (ha : ∀ g, v.ownBlock = some g → g ≠ N) (a b c d e f : Value) : (W6 w N a b c d e f).ownsRow base t size v n xs :=
  ownsRow_setCell_ne (ownsRow_setCell_ne (ownsRow_setCell_ne (ownsRow_setCell_ne (ownsRow_setCell_ne (ownsRow_setCell_ne h ha a) ha b) ha c) ha d) ha e) ha f

/-- The cells of a block of six. -/
def Six (w : World) (N : Nat) (a b c d e f : Value) : Prop :=
  w.cell? ⟨N, 0, none⟩ = some a ∧ w.cell? ⟨N, 1, none⟩ = some b ∧ w.cell? ⟨N, 2, none⟩ = some c ∧ w.cell? ⟨N, 3, none⟩ = some d ∧ w.cell? ⟨N, 4, none⟩ = some e ∧ w.cell? ⟨N, 5, none⟩ = some f ∧
  w.frozen? ⟨N, 0, none⟩ = false ∧ w.frozen? ⟨N, 1, none⟩ = false ∧ w.frozen? ⟨N, 2, none⟩ = false ∧ w.frozen? ⟨N, 3, none⟩ = false ∧ w.frozen? ⟨N, 4, none⟩ = false ∧ w.frozen? ⟨N, 5, none⟩ = false
theorem six {w : World} {N : Nat} {a b c d e f : Value} {t : TypeId} (h : w.heap[N]? = some (.cells #[a, b, c, d, e, f] t (0, 0))) : Six w N a b c d e f :=
  ⟨cell_of_block h 0 (by simp), cell_of_block h 1 (by simp), cell_of_block h 2 (by simp), cell_of_block h 3 (by simp), cell_of_block h 4 (by simp), cell_of_block h 5 (by simp),
    free_of_block h 0, free_of_block h 1, free_of_block h 2, free_of_block h 3, free_of_block h 4, free_of_block h 5⟩

theorem FormV_plain (w : World) (B : Nat) (kind : Int) (nm : ByteArray) (cells : Int) : FormV w B #[.int .i64 kind, .string nm, .int .i64 cells, noOps, noOps, noOps] ⟨kind, nm, cells, [], [], []⟩ :=
  ⟨noOps, noOps, noOps, [], rfl, World.ownsRow_nil _ _ _ _, World.ownsRow_nil _ _ _ _, World.ownsRow_nil _ _ _ _, trivial⟩

set_option maxHeartbeats 1000000 in
theorem named_any (w : World) (R : Nat) (tv : Value) (ts : List Rt.Tk) (n : Nat) (kind : Int) (hr : RdS w R tv ts n noOps []) :
    Calls Tryz.prog 97 #[.pointer (some ⟨R, 0, none⟩), .int .i64 kind] w (LineP (Rt.pNamed kind) R tv ts n w) := by
  have hlt : R < w.heap.size := World.block_lt_of_cell? w _ (cell_of_block hr.block 0 (by simp))
  go_enter Tryz.func97, Tryz.ntmps97
  go_wp2_with fail
  obtain ⟨hr0, hfr0⟩ := hr.later ((Below.refl w.heap.size w).alloc (Nat.le_refl _) (.cells zForm 77))
  refine (name_any _ _ _ _ _ _ _ hr0).mono ?_
  intro e w1 hpost
  have hfr1 : RFr R noOps noOps (w.alloc (.cells zForm 77)) w1 := by rcases hpost with ⟨_, _, _, _, _, h⟩ | ⟨_, _, _, h⟩ <;> exact h
  have hN : w1.heap[w.heap.size]? = some (.cells zForm 77 (0, 0)) := by
    rw [hfr1.block w.heap.size (by simp) (by omega) (by simp [Value.ownBlock])]
    exact heap_alloc_new w _
  obtain ⟨c0, c1, c2, c3, c4, c5, f0, f1, f2, f3, f4, f5⟩ := six hN
  have HFR := hide (hfr0.trans hfr1)
  clear hr0 hfr1 hN hfr0
  rcases hpost with ⟨nm, hn, hs, rfl, hr1, _⟩ | ⟨hs, rfl, hr1, _⟩
  · have HR := hide hr1
    have HS := hide hs
    clear hr1 hs hr
    go_wp2_with fail
    refine bodyPost_ret (v := .tuple #[.agg #[.int .i64 kind, .string nm, .int .i64 0, noOps, noOps, noOps], .bool true]) ?_ rfl
      (Or.inl ⟨_, n + 1, _, by rw [Rt.pNamed, unhide HS], rfl, (unhide HR).set6 hlt _ _ _ _ _ _, FormV_plain _ _ _ _ _, (unhide HFR).set6 (Nat.le_refl _) _ _ _ _ _ _⟩)
    simp [results, Tryz.results97, go_sem, c0, c1, c2, c3, c4, c5]
  · have HS := hide hs
    clear hr1 hs hr
    go_wp2_with fail
    refine bodyPost_ret (v := .tuple #[.agg zForm, .bool false]) ?_ rfl
      (Or.inr ⟨by rw [Rt.pNamed, unhide HS], rfl, _, (unhide HFR).set6 (Nat.le_refl _) _ _ _ _ _ _⟩)
    simp [results, Tryz.results97, go_sem, c0, c1, c2, c3, c4, c5]

theorem RFr.alloc {R : Nat} {a b : Value} {w w1 : World} (h : RFr R a b w w1) (o : Obj) : RFr R a b w (w1.alloc o) :=
  ⟨h.os, h.tape, h.output, by have := h.size; simp; omega, fun k hk h1 h2 => (Below.heap_alloc w1 o k (Nat.lt_of_lt_of_le hk h.size)).trans (h.block k hk h1 h2), h.own⟩
theorem ownsRow_new (w : World) (B : Nat) (e : TypeId) (x : Value) (hB : B ≤ w.heap.size) : (w.alloc (.cells #[x] e)).ownsRow B e 1 (.slice (some ⟨w.heap.size, 0, none⟩) 1 1) 1 [x] :=
  ⟨rfl, Or.inr ⟨w.heap.size, 1, #[x], rfl, hB, heap_alloc_new w _, Nat.le_refl _, by unfold maxLen; omega, rfl, rfl⟩⟩
theorem size_W6 (w : World) (N : Nat) (a b c d e f : Value) : (W6 w N a b c d e f).heap.size = w.heap.size := by simp [World.setCell]

set_option maxHeartbeats 1000000 in
theorem valued_any (w : World) (R : Nat) (tv : Value) (ts : List Rt.Tk) (n : Nat) (kind : Int) (hr : RdS w R tv ts n noOps []) (hsm : ∀ t ∈ ts, t.text.size ≤ 40000) :
    Calls Tryz.prog 100 #[.pointer (some ⟨R, 0, none⟩), .int .i64 kind] w (LineP (Rt.pValued kind) R tv ts n w) := by
  have hlt : R < w.heap.size := World.block_lt_of_cell? w _ (cell_of_block hr.block 0 (by simp))
  have HSM := hide hsm
  clear hsm
  go_enter Tryz.func100, Tryz.ntmps100
  go_wp2_with fail
  obtain ⟨hr0, hfr0⟩ := hr.later ((Below.refl w.heap.size w).alloc (Nat.le_refl _) (.cells zForm 77))
  refine (expression_any _ _ _ _ _ hr0 (unhide HSM)).mono ?_
  intro e w1 hpost
  obtain ⟨ox, hfr1⟩ : ∃ ox, RFr R noOps ox (w.alloc (.cells zForm 77)) w1 := by rcases hpost with ⟨_, _, _, _, _, _, _, _, _, h⟩ | ⟨_, _, _, h⟩ <;> exact ⟨_, h⟩
  have hN : w1.heap[w.heap.size]? = some (.cells zForm 77 (0, 0)) := by
    rw [hfr1.block w.heap.size (by simp) (by omega) (by simp [Value.ownBlock])]
    exact heap_alloc_new w _
  have hz : w.heap.size < w1.heap.size := by have := hfr1.size; simp at this; omega
  obtain ⟨c0, c1, c2, c3, c4, c5, f0, f1, f2, f3, f4, f5⟩ := six hN
  clear hr0 hN
  rcases hpost with ⟨em, n1, xv, hs, rfl, hn1, hem, hr1, hown, hfr1'⟩ | ⟨hs, rfl, ov1, hfr1'⟩
  · obtain ⟨ad, cap, rfl⟩ := ownsRow_form hown
    have HS := hide hs
    have hx : ∀ g, (Value.slice ad em.length cap).ownBlock = some g → g ≠ w.heap.size := fun g hg => by have := (hown.lt g hg).1; simp at this; omega
    have HO := hide (ownsRow_mono (b' := w.heap.size) (own_set6 hown hx (.int .i64 kind) (.string ⟨#[]⟩) (.int .i64 0) noOps noOps (.slice (some ⟨w1.heap.size + 1, 0, none⟩) 1 1)) (by simp))
    have HR := hide (hr1.set6 hlt (.int .i64 kind) (.string ⟨#[]⟩) (.int .i64 0) noOps noOps (.slice (some ⟨w1.heap.size + 1, 0, none⟩) 1 1))
    have HFR := hide ((hfr0.trans hfr1').set6 (N := w.heap.size) (Nat.le_refl _) (.int .i64 kind) (.string ⟨#[]⟩) (.int .i64 0) noOps noOps (.slice (some ⟨w1.heap.size + 1, 0, none⟩) 1 1))
    clear hs hr hx hown hr1 hfr0 hfr1 hfr1'
    go_wp2_with fail
    have hsz6 := size_W6 w1 w.heap.size (.int .i64 kind) (.string ⟨#[]⟩) (.int .i64 0) noOps noOps (.slice (some ⟨w1.heap.size + 1, 0, none⟩) 1 1)
    generalize hw2 : W6 w1 w.heap.size (.int .i64 kind) (.string ⟨#[]⟩) (.int .i64 0) noOps noOps (.slice (some ⟨w1.heap.size + 1, 0, none⟩) 1 1) = w2 at HO HR HFR hsz6
    obtain ⟨hr3, hfr3⟩ := (unhide HR).later (((Below.refl w2.heap.size w2).alloc (Nat.le_refl _) (.cells #[.slice ad em.length cap] 74)).alloc (by simp) (.cells #[.slice ad em.length cap] 74))
    have hnew := ownsRow_new (w2.alloc (.cells #[.slice ad em.length cap] 74)) w.heap.size 74 (.slice ad em.length cap) (by simp; omega)
    have hsz7 : (w2.alloc (.cells #[.slice ad em.length cap] 74)).heap.size = w1.heap.size + 1 := by simp [hsz6]
    rw [hsz7] at hnew
    refine bodyPost_ret (v := .tuple #[.agg #[.int .i64 kind, .string ⟨#[]⟩, .int .i64 0, noOps, noOps, .slice (some ⟨w1.heap.size + 1, 0, none⟩) 1 1], .bool true]) ?_ rfl ?_
    · simp [results, Tryz.results100, go_sem, c0, c1, c2, c3, c4, c5, hz]
    · rw [← hw2] at hr3 hfr3 hnew HO HFR
      exact Or.inl ⟨⟨kind, ⟨#[]⟩, 0, [], [], [em]⟩, n1, _, by rw [Rt.pValued, unhide HS], rfl, hr3, ⟨noOps, noOps, _, [_], rfl, World.ownsRow_nil _ _ _ _, World.ownsRow_nil _ _ _ _, hnew, ⟨((unhide HO).alloc _).alloc _, trivial⟩⟩, (unhide HFR).trans hfr3⟩
  · have HS := hide hs
    have HFR := hide (hfr0.trans hfr1')
    clear hs hr hfr1' hfr0
    go_wp2_with fail
    refine bodyPost_ret (v := .tuple #[.agg zForm, .bool false]) ?_ rfl ?_
    · simp [results, Tryz.results100, go_sem, c0, c1, c2, c3, c4, c5, hz]
    · exact Or.inr ⟨by rw [Rt.pValued, unhide HS], rfl, _, ((unhide HFR).set6 (N := w.heap.size) (Nat.le_refl _) _ _ _ _ _ _).alloc _⟩

end Go.Proofs.YtbpajiljfppjcaaGreat

namespace Go.Proofs.YtbpajiljfppjcaaGreat
open Go.RowKit


theorem RFr.keep {R : Nat} {ov : Value} {w1 w2 : World} {N : Nat} {o : Obj} (h : RFr R noOps ov w1 w2) (hN : w1.heap[N]? = some o) (hne : N ≠ R) : w2.heap[N]? = some o := by
  have hlt : N < w1.heap.size := by
    by_cases h : N < w1.heap.size
    · exact h
    · rw [Array.getElem?_eq_none (by omega)] at hN; cases hN
  rw [h.block N hlt hne (by simp [Value.ownBlock])]
  exact hN
theorem RFr.keepRow {R : Nat} {ov : Value} {w1 w2 : World} {B : Nat} {e : TypeId} {size : Nat} {v : Value} {n : Nat} {xs : List Value} (h : RFr R noOps ov w1 w2) (hown : w1.ownsRow B e size v n xs) (hB : R < B) : w2.ownsRow B e size v n xs := by
  obtain ⟨h1, h2⟩ := hown
  refine ⟨h1, ?_⟩
  rcases h2 with h2 | ⟨g, cap, cur, hv, hg, hh, r⟩
  · exact Or.inl h2
  · exact Or.inr ⟨g, cap, cur, hv, hg, h.keep hh (by omega), r⟩

theorem number_any (w : World) (R : Nat) (tv : Value) (ts : List Rt.Tk) (n : Nat) (ov : Value) (ops : List Pop) (hr : RdS w R tv ts n ov ops) (hsm : ∀ t ∈ ts, t.text.size ≤ 40000) :
    Calls Tryz.prog 107 #[.pointer (some ⟨R, 0, none⟩)] w fun e w' =>
      (∃ v, Rt.pNumber (ts.drop n) = some (v, ts.drop (n + 1)) ∧ e = .returned (.tuple #[.int .i64 v, .bool true]) ∧ RdS w' R tv ts (n + 1) ov ops ∧ RFr R ov ov w w') ∨
      (Rt.pNumber (ts.drop n) = none ∧ e = .returned (.tuple #[.int .i64 0, .bool false]) ∧ RdS w' R tv ts n ov ops ∧ RFr R ov ov w w') := by
  by_cases hn : n < ts.length
  · by_cases hk : ts[n].kind = 2
    · refine (number_yes w R tv ts n ov ops hr hn hk (by have := hsm _ (List.getElem_mem hn); unfold maxLen; omega)).mono ?_
      rintro e w' ⟨rfl, h3, h4⟩
      exact Or.inl ⟨_, by rw [drop_at hn, Rt.pNumber, if_pos hk], rfl, h3, h4⟩
    · refine (number_no' w R tv ts n ov ops hr hn hk).mono ?_
      rintro e w' ⟨rfl, h3, h4⟩
      exact Or.inr ⟨by rw [drop_at hn, Rt.pNumber, if_neg hk], rfl, h3, h4⟩
  · refine (number_end' w R tv ts n ov ops hr hn).mono ?_
    rintro e w' ⟨rfl, h3, h4⟩
    exact Or.inr ⟨by rw [drop_end hn, Rt.pNumber], rfl, h3, h4⟩

set_option maxHeartbeats 1000000 in
theorem array_any (w : World) (R : Nat) (tv : Value) (ts : List Rt.Tk) (n : Nat) (hr : RdS w R tv ts n noOps []) (hsm : ∀ t ∈ ts, t.text.size ≤ 40000) :
    Calls Tryz.prog 98 #[.pointer (some ⟨R, 0, none⟩)] w (LineP Rt.pArray R tv ts n w) := by
  have hlt : R < w.heap.size := World.block_lt_of_cell? w _ (cell_of_block hr.block 0 (by simp))
  have HSM := hide hsm
  clear hsm
  go_enter Tryz.func98, Tryz.ntmps98
  go_wp2_with fail
  obtain ⟨hr0, hfr0⟩ := hr.later ((Below.refl w.heap.size w).alloc (Nat.le_refl _) (.cells zForm 77))
  have hN0 : (w.alloc (.cells zForm 77)).heap[w.heap.size]? = some (.cells zForm 77 (0, 0)) := heap_alloc_new w _
  refine (name_any _ _ _ _ _ _ _ hr0).mono ?_
  rintro e w1 (⟨nm, hn, hs, rfl, hr1, hfr1⟩ | ⟨hs, rfl, hr1, hfr1⟩)
  · have hN := hfr1.keep hN0 (by omega)
    have HS := hide hs
    have HFR := hide (hfr0.trans hfr1)
    clear hr hr0 hfr0 hfr1 hs hN0
    go_wp2_with fail
    refine (number_any _ _ _ _ _ _ _ hr1 (unhide HSM)).mono ?_
    rintro e w2 (⟨v, hs2, rfl, hr2, hfr2⟩ | ⟨hs2, rfl, hr2, hfr2⟩)
    · obtain ⟨c0, c1, c2, c3, c4, c5, f0, f1, f2, f3, f4, f5⟩ := six (hfr2.keep hN (by omega))
      have HS2 := hide hs2
      have HR := hide hr2
      have HFR2 := hide ((unhide HFR).trans hfr2)
      clear hr1 hr2 hfr2 hs2 HFR hN
      by_cases hv1 : v < 1
      · go_wp2_with fail
        refine bodyPost_ret (v := .tuple #[.agg zForm, .bool false]) ?_ rfl (Or.inr ⟨by rw [Rt.pArray, unhide HS]; simp only; rw [unhide HS2]; simp only; rw [if_pos (Or.inl hv1)], rfl, _, (unhide HFR2).set6 (Nat.le_refl _) _ _ _ _ _ _⟩)
        simp [results, Tryz.results98, go_sem, c0, c1, c2, c3, c4, c5]
      · by_cases hv2 : 32 < v
        · go_wp2_with fail
          refine bodyPost_ret (v := .tuple #[.agg zForm, .bool false]) ?_ rfl (Or.inr ⟨by rw [Rt.pArray, unhide HS]; simp only; rw [unhide HS2]; simp only; rw [if_pos (Or.inr hv2)], rfl, _, (unhide HFR2).set6 (Nat.le_refl _) _ _ _ _ _ _⟩)
          simp [results, Tryz.results98, go_sem, c0, c1, c2, c3, c4, c5]
        · have HE : Hid (Rt.pArray (ts.drop n) = some (⟨2, nm, v, [], [], []⟩, ts.drop (n + 1 + 1))) := by
            refine hide ?_
            rw [Rt.pArray, unhide HS]
            simp only
            rw [unhide HS2]
            simp only
            rw [if_neg (by omega)]
          go_wp2_with fail
          refine bodyPost_ret (v := .tuple #[.agg #[.int .i64 2, .string nm, .int .i64 v, noOps, noOps, noOps], .bool true]) ?_ rfl
            (Or.inl ⟨_, _, _, unhide HE, rfl, (unhide HR).set6 hlt _ _ _ _ _ _, FormV_plain _ _ _ _ _, (unhide HFR2).set6 (Nat.le_refl _) _ _ _ _ _ _⟩)
          simp [results, Tryz.results98, go_sem, c0, c1, c2, c3, c4, c5]
    · obtain ⟨c0, c1, c2, c3, c4, c5, f0, f1, f2, f3, f4, f5⟩ := six (hfr2.keep hN (by omega))
      have HS2 := hide hs2
      have HFR2 := hide ((unhide HFR).trans hfr2)
      clear hr1 hr2 hfr2 hs2 HFR hN
      go_wp2_with fail
      refine bodyPost_ret (v := .tuple #[.agg zForm, .bool false]) ?_ rfl (Or.inr ⟨by rw [Rt.pArray, unhide HS]; simp only; rw [unhide HS2], rfl, _, (unhide HFR2).set6 (Nat.le_refl _) _ _ _ _ _ _⟩)
      simp [results, Tryz.results98, go_sem, c0, c1, c2, c3, c4, c5]
  · obtain ⟨c0, c1, c2, c3, c4, c5, f0, f1, f2, f3, f4, f5⟩ := six (hfr1.keep hN0 (by omega))
    have HS := hide hs
    have HFR := hide (hfr0.trans hfr1)
    clear hr hr0 hfr0 hfr1 hs hN0
    go_wp2_with fail
    refine bodyPost_ret (v := .tuple #[.agg zForm, .bool false]) ?_ rfl (Or.inr ⟨by rw [Rt.pArray, unhide HS], rfl, _, (unhide HFR).set6 (Nat.le_refl _) _ _ _ _ _ _⟩)
    simp [results, Tryz.results98, go_sem, c0, c1, c2, c3, c4, c5]

end Go.Proofs.YtbpajiljfppjcaaGreat

