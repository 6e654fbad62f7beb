/- The walks of the readers of lines, continued: procedure. -/
import Derived.Test.YthleadfkfnnadaaGreatForms
namespace Go.Proofs.YthleadfkfnnadaaGreat
open Go.RowKit
theorem name_any (w : World) (R : Nat) (tv : Value) (ts : List Rt.Tk) (n : Nat) (ov : Value) (ops : List Pop) (hr : RdS w R tv ts n ov ops) :
    Calls Tryz.prog 213 #[.pointer (some ⟨R, 0, none⟩)] w fun e w' =>
      (∃ nm, n < ts.length ∧ Rt.pName (ts.drop n) = some (nm, ts.drop (n + 1)) ∧ e = .returned (.tuple #[.string nm, .bool true]) ∧ RdS w' R tv ts (n + 1) ov ops ∧ RFr R ov ov w w') ∨
      (Rt.pName (ts.drop n) = none ∧ e = .returned (.tuple #[.string ⟨#[]⟩, .bool false]) ∧ RdS w' R tv ts n ov ops ∧ RFr R ov ov w w') := by
  by_cases hn : n < ts.length
  · refine (name_some w R tv ts n ov ops hr hn).mono ?_
    rintro e w' (⟨h1, h2, rfl, h3, h4⟩ | ⟨h1, rfl, h3, h4⟩)
    · exact Or.inl ⟨_, hn, by rw [drop_at hn, Rt.pName, if_pos ⟨h1, h2⟩], rfl, h3, h4⟩
    · exact Or.inr ⟨by rw [drop_at hn, Rt.pName, if_neg h1], rfl, h3, h4⟩
  · refine (name_end' w R tv ts n ov ops hr hn).mono ?_
    rintro e w' ⟨rfl, h3, h4⟩
    exact Or.inr ⟨by rw [drop_end hn, Rt.pName], rfl, h3, h4⟩
def ExprsR (w : World) (B : Nat) : List Value → List (List Pop) → Prop
  | [], [] => True
  | x :: xs, o :: os => w.ownsRow B 236 3 x o.length (popsCells o) ∧ ExprsR w B xs os
  | _, _ => False
def FormV (w : World) (B : Nat) (v : Array Value) (fm : Rt.PForm) : Prop :=
  ∃ pv iv vv vs, v = #[.int .i64 fm.kind, .string fm.name, .int .i64 fm.cells, pv, iv, vv] ∧ w.ownsRow B 9 1 pv fm.params.length (fm.params.map Value.string) ∧
    w.ownsRow B 236 3 iv fm.index.length (popsCells fm.index) ∧ w.ownsRow B 140 1 vv fm.values.length vs ∧ ExprsR w B vs fm.values
abbrev zForm : Array Value := #[.int .i64 0, .string ⟨#[]⟩, .int .i64 0, noOps, noOps, noOps]
def LineP (spec : List Rt.Tk → Rt.GotF) (R : Nat) (tv : Value) (ts : List Rt.Tk) (n : Nat) (w : World) (e : Ending) (w' : World) : Prop :=
  (∃ fm n' fv, spec (ts.drop n) = some (fm, ts.drop n') ∧ e = .returned (.tuple #[.agg fv, .bool true]) ∧ RdS w' R tv ts n' noOps [] ∧ FormV w' w.heap.size fv fm ∧ RFr R noOps noOps w w') ∨
  (spec (ts.drop n) = none ∧ e = .returned (.tuple #[.agg zForm, .bool false]) ∧ ∃ ov, RFr R noOps ov w w')
abbrev W6 (w : World) (N : Nat) (a b c d e f : Value) : World :=
  (((((w.setCell ⟨N, 0, none⟩ a).setCell ⟨N, 1, none⟩ b).setCell ⟨N, 2, none⟩ c).setCell ⟨N, 3, none⟩ d).setCell ⟨N, 4, none⟩ e).setCell ⟨N, 5, none⟩ f
theorem RFr.set6 {R : Nat} {x y : Value} {w w1 : World} {N : Nat} (h : RFr R x y w w1) (hN : w.heap.size ≤ N) (a b c d e f : Value) : RFr R x y w (W6 w1 N a b c d e f) :=
  (((((h.setNew hN a).setNew hN b).setNew hN c).setNew hN d).setNew hN e).setNew hN f
theorem RdS.set6 {w : World} {R : Nat} {tv : Value} {ts : List Rt.Tk} {n : Nat} {N : Nat} (hr : RdS w R tv ts n noOps []) (hN : R < N) (a b c d e f : Value) : RdS (W6 w N a b c d e f) R tv ts n noOps [] :=
  have ho : ∀ g, (noOps : Value).ownBlock = some g → g ≠ N := by intro g h; cases h
  (((((hr.setOther hN ho a).setOther hN ho b).setOther hN ho c).setOther hN ho d).setOther hN ho e).setOther hN ho f
theorem own_set6 {w : World} {base : Nat} {t : TypeId} {size : Nat} {v : Value} {n : Nat} {xs : List Value} {N : Nat} (h : w.ownsRow base t size v n xs) (ha : ∀ g, v.ownBlock = some g → g ≠ N) (a b c d e f : Value) : (W6 w N a b c d e f).ownsRow base t size v n xs :=
  ownsRow_setCell_ne (ownsRow_setCell_ne (ownsRow_setCell_ne (ownsRow_setCell_ne (ownsRow_setCell_ne (ownsRow_setCell_ne h ha a) ha b) ha c) ha d) ha e) ha f
def Six (w : World) (N : Nat) (a b c d e f : Value) : Prop :=
  w.cell? ⟨N, 0, none⟩ = some a ∧ w.cell? ⟨N, 1, none⟩ = some b ∧ w.cell? ⟨N, 2, none⟩ = some c ∧ w.cell? ⟨N, 3, none⟩ = some d ∧ w.cell? ⟨N, 4, none⟩ = some e ∧ w.cell? ⟨N, 5, none⟩ = some f ∧
  w.frozen? ⟨N, 0, none⟩ = false ∧ w.frozen? ⟨N, 1, none⟩ = false ∧ w.frozen? ⟨N, 2, none⟩ = false ∧ w.frozen? ⟨N, 3, none⟩ = false ∧ w.frozen? ⟨N, 4, none⟩ = false ∧ w.frozen? ⟨N, 5, none⟩ = false
theorem six {w : World} {N : Nat} {a b c d e f : Value} {t : TypeId} (h : w.heap[N]? = some (.cells #[a, b, c, d, e, f] t (0, 0))) : Six w N a b c d e f :=
  ⟨cell_of_block h 0 (by simp), cell_of_block h 1 (by simp), cell_of_block h 2 (by simp), cell_of_block h 3 (by simp), cell_of_block h 4 (by simp), cell_of_block h 5 (by simp),
    free_of_block h 0, free_of_block h 1, free_of_block h 2, free_of_block h 3, free_of_block h 4, free_of_block h 5⟩
theorem FormV_plain (w : World) (B : Nat) (kind : Int) (nm : ByteArray) (cells : Int) : FormV w B #[.int .i64 kind, .string nm, .int .i64 cells, noOps, noOps, noOps] ⟨kind, nm, cells, [], [], []⟩ :=
  ⟨noOps, noOps, noOps, [], rfl, World.ownsRow_nil _ _ _ _, World.ownsRow_nil _ _ _ _, World.ownsRow_nil _ _ _ _, trivial⟩
set_option maxHeartbeats 1000000 in
theorem named_any (w : World) (R : Nat) (tv : Value) (ts : List Rt.Tk) (n : Nat) (kind : Int) (hr : RdS w R tv ts n noOps []) :
    Calls Tryz.prog 196 #[.pointer (some ⟨R, 0, none⟩), .int .i64 kind] w (LineP (Rt.pNamed kind) R tv ts n w) := by
  have hlt : R < w.heap.size := World.block_lt_of_cell? w _ (cell_of_block hr.block 0 (by simp))
  go_enter Tryz.func196, Tryz.ntmps196
  go_wp2_with fail
  obtain ⟨hr0, hfr0⟩ := hr.later ((Below.refl w.heap.size w).alloc (Nat.le_refl _) (.cells zForm 143))
  refine (name_any _ _ _ _ _ _ _ hr0).mono ?_
  intro e w1 hpost
  have hfr1 : RFr R noOps noOps (w.alloc (.cells zForm 143)) w1 := by rcases hpost with ⟨_, _, _, _, _, h⟩ | ⟨_, _, _, h⟩ <;> exact h
  have hN : w1.heap[w.heap.size]? = some (.cells zForm 143 (0, 0)) := by
    rw [hfr1.block w.heap.size (by simp) (by omega) (by simp [Value.ownBlock])]
    exact heap_alloc_new w _
  obtain ⟨c0, c1, c2, c3, c4, c5, f0, f1, f2, f3, f4, f5⟩ := six hN
  have HFR := hide (hfr0.trans hfr1)
  clear hr0 hfr1 hN hfr0
  rcases hpost with ⟨nm, hn, hs, rfl, hr1, _⟩ | ⟨hs, rfl, hr1, _⟩
  · have HR := hide hr1
    have HS := hide hs
    clear hr1 hs hr
    go_wp2_with fail
    refine bodyPost_ret (v := .tuple #[.agg #[.int .i64 kind, .string nm, .int .i64 0, noOps, noOps, noOps], .bool true]) ?_ rfl
      (Or.inl ⟨_, n + 1, _, by rw [Rt.pNamed, unhide HS], rfl, (unhide HR).set6 hlt _ _ _ _ _ _, FormV_plain _ _ _ _ _, (unhide HFR).set6 (Nat.le_refl _) _ _ _ _ _ _⟩)
    simp [results, Tryz.results196, go_sem, c0, c1, c2, c3, c4, c5]
  · have HS := hide hs
    clear hr1 hs hr
    go_wp2_with fail
    refine bodyPost_ret (v := .tuple #[.agg zForm, .bool false]) ?_ rfl
      (Or.inr ⟨by rw [Rt.pNamed, unhide HS], rfl, _, (unhide HFR).set6 (Nat.le_refl _) _ _ _ _ _ _⟩)
    simp [results, Tryz.results196, go_sem, c0, c1, c2, c3, c4, c5]
theorem RFr.alloc {R : Nat} {a b : Value} {w w1 : World} (h : RFr R a b w w1) (o : Obj) : RFr R a b w (w1.alloc o) :=
  ⟨h.os, h.tape, h.output, by have := h.size; simp; omega, fun k hk h1 h2 => (Below.heap_alloc w1 o k (Nat.lt_of_lt_of_le hk h.size)).trans (h.block k hk h1 h2), h.own⟩
theorem ownsRow_new (w : World) (B : Nat) (e : TypeId) (x : Value) (hB : B ≤ w.heap.size) : (w.alloc (.cells #[x] e)).ownsRow B e 1 (.slice (some ⟨w.heap.size, 0, none⟩) 1 1) 1 [x] :=
  ⟨rfl, Or.inr ⟨w.heap.size, 1, #[x], rfl, hB, heap_alloc_new w _, Nat.le_refl _, by unfold maxLen; omega, rfl, rfl⟩⟩
theorem size_W6 (w : World) (N : Nat) (a b c d e f : Value) : (W6 w N a b c d e f).heap.size = w.heap.size := by simp [World.setCell]
set_option maxHeartbeats 1000000 in
theorem valued_any (w : World) (R : Nat) (tv : Value) (ts : List Rt.Tk) (n : Nat) (kind : Int) (hr : RdS w R tv ts n noOps []) (hsm : ∀ t ∈ ts, t.text.size ≤ 40000) :
    Calls Tryz.prog 199 #[.pointer (some ⟨R, 0, none⟩), .int .i64 kind] w (LineP (Rt.pValued kind) R tv ts n w) := by
  have hlt : R < w.heap.size := World.block_lt_of_cell? w _ (cell_of_block hr.block 0 (by simp))
  have HSM := hide hsm
  clear hsm
  go_enter Tryz.func199, Tryz.ntmps199
  go_wp2_with fail
  obtain ⟨hr0, hfr0⟩ := hr.later ((Below.refl w.heap.size w).alloc (Nat.le_refl _) (.cells zForm 143))
  refine (expression_any _ _ _ _ _ hr0 (unhide HSM)).mono ?_
  intro e w1 hpost
  obtain ⟨ox, hfr1⟩ : ∃ ox, RFr R noOps ox (w.alloc (.cells zForm 143)) w1 := by rcases hpost with ⟨_, _, _, _, _, _, _, _, _, h⟩ | ⟨_, _, _, h⟩ <;> exact ⟨_, h⟩
  have hN : w1.heap[w.heap.size]? = some (.cells zForm 143 (0, 0)) := by
    rw [hfr1.block w.heap.size (by simp) (by omega) (by simp [Value.ownBlock])]
    exact heap_alloc_new w _
  have hz : w.heap.size < w1.heap.size := by have := hfr1.size; simp at this; omega
  obtain ⟨c0, c1, c2, c3, c4, c5, f0, f1, f2, f3, f4, f5⟩ := six hN
  clear hr0 hN
  rcases hpost with ⟨em, n1, xv, hs, rfl, hn1, hem, hr1, hown, hfr1'⟩ | ⟨hs, rfl, ov1, hfr1'⟩
  · obtain ⟨ad, cap, rfl⟩ := ownsRow_form hown
    have HS := hide hs
    have hx : ∀ g, (Value.slice ad em.length cap).ownBlock = some g → g ≠ w.heap.size := fun g hg => by have := (hown.lt g hg).1; simp at this; omega
    have HO := hide (ownsRow_mono (b' := w.heap.size) (own_set6 hown hx (.int .i64 kind) (.string ⟨#[]⟩) (.int .i64 0) noOps noOps (.slice (some ⟨w1.heap.size + 1, 0, none⟩) 1 1)) (by simp))
    have HR := hide (hr1.set6 hlt (.int .i64 kind) (.string ⟨#[]⟩) (.int .i64 0) noOps noOps (.slice (some ⟨w1.heap.size + 1, 0, none⟩) 1 1))
    have HFR := hide ((hfr0.trans hfr1').set6 (N := w.heap.size) (Nat.le_refl _) (.int .i64 kind) (.string ⟨#[]⟩) (.int .i64 0) noOps noOps (.slice (some ⟨w1.heap.size + 1, 0, none⟩) 1 1))
    clear hs hr hx hown hr1 hfr0 hfr1 hfr1'
    go_wp2_with fail
    have hsz6 := size_W6 w1 w.heap.size (.int .i64 kind) (.string ⟨#[]⟩) (.int .i64 0) noOps noOps (.slice (some ⟨w1.heap.size + 1, 0, none⟩) 1 1)
    generalize hw2 : W6 w1 w.heap.size (.int .i64 kind) (.string ⟨#[]⟩) (.int .i64 0) noOps noOps (.slice (some ⟨w1.heap.size + 1, 0, none⟩) 1 1) = w2 at HO HR HFR hsz6
    obtain ⟨hr3, hfr3⟩ := (unhide HR).later (((Below.refl w2.heap.size w2).alloc (Nat.le_refl _) (.cells #[.slice ad em.length cap] 140)).alloc (by simp) (.cells #[.slice ad em.length cap] 140))
    have hnew := ownsRow_new (w2.alloc (.cells #[.slice ad em.length cap] 140)) w.heap.size 140 (.slice ad em.length cap) (by simp; omega)
    have hsz7 : (w2.alloc (.cells #[.slice ad em.length cap] 140)).heap.size = w1.heap.size + 1 := by simp [hsz6]
    rw [hsz7] at hnew
    refine bodyPost_ret (v := .tuple #[.agg #[.int .i64 kind, .string ⟨#[]⟩, .int .i64 0, noOps, noOps, .slice (some ⟨w1.heap.size + 1, 0, none⟩) 1 1], .bool true]) ?_ rfl ?_
    · simp [results, Tryz.results199, go_sem, c0, c1, c2, c3, c4, c5, hz]
    · rw [← hw2] at hr3 hfr3 hnew HO HFR
      exact Or.inl ⟨⟨kind, ⟨#[]⟩, 0, [], [], [em]⟩, n1, _, by rw [Rt.pValued, unhide HS], rfl, hr3, ⟨noOps, noOps, _, [_], rfl, World.ownsRow_nil _ _ _ _, World.ownsRow_nil _ _ _ _, hnew, ⟨((unhide HO).alloc _).alloc _, trivial⟩⟩, (unhide HFR).trans hfr3⟩
  · have HS := hide hs
    have HFR := hide (hfr0.trans hfr1')
    clear hs hr hfr1' hfr0
    go_wp2_with fail
    refine bodyPost_ret (v := .tuple #[.agg zForm, .bool false]) ?_ rfl ?_
    · simp [results, Tryz.results199, go_sem, c0, c1, c2, c3, c4, c5, hz]
    · exact Or.inr ⟨by rw [Rt.pValued, unhide HS], rfl, _, ((unhide HFR).set6 (N := w.heap.size) (Nat.le_refl _) _ _ _ _ _ _).alloc _⟩
theorem RFr.keep {R : Nat} {ov : Value} {w1 w2 : World} {N : Nat} {o : Obj} (h : RFr R noOps ov w1 w2) (hN : w1.heap[N]? = some o) (hne : N ≠ R) : w2.heap[N]? = some o := by
  have hlt : N < w1.heap.size := by
    by_cases h : N < w1.heap.size
    · exact h
    · rw [Array.getElem?_eq_none (by omega)] at hN; cases hN
  rw [h.block N hlt hne (by simp [Value.ownBlock])]
  exact hN
theorem RFr.keepRow {R : Nat} {ov : Value} {w1 w2 : World} {B : Nat} {e : TypeId} {size : Nat} {v : Value} {n : Nat} {xs : List Value} (h : RFr R noOps ov w1 w2) (hown : w1.ownsRow B e size v n xs) (hB : R < B) : w2.ownsRow B e size v n xs := by
  obtain ⟨h1, h2⟩ := hown
  refine ⟨h1, ?_⟩
  rcases h2 with h2 | ⟨g, cap, cur, hv, hg, hh, r⟩
  · exact Or.inl h2
  · exact Or.inr ⟨g, cap, cur, hv, hg, h.keep hh (by omega), r⟩
theorem number_any (w : World) (R : Nat) (tv : Value) (ts : List Rt.Tk) (n : Nat) (ov : Value) (ops : List Pop) (hr : RdS w R tv ts n ov ops) (hsm : ∀ t ∈ ts, t.text.size ≤ 40000) :
    Calls Tryz.prog 214 #[.pointer (some ⟨R, 0, none⟩)] w fun e w' =>
      (∃ v, Rt.pNumber (ts.drop n) = some (v, ts.drop (n + 1)) ∧ e = .returned (.tuple #[.int .i64 v, .bool true]) ∧ RdS w' R tv ts (n + 1) ov ops ∧ RFr R ov ov w w') ∨
      (Rt.pNumber (ts.drop n) = none ∧ e = .returned (.tuple #[.int .i64 0, .bool false]) ∧ RdS w' R tv ts n ov ops ∧ RFr R ov ov w w') := by
  by_cases hn : n < ts.length
  · by_cases hk : ts[n].kind = 2
    · refine (number_yes w R tv ts n ov ops hr hn hk (by have := hsm _ (List.getElem_mem hn); unfold maxLen; omega)).mono ?_
      rintro e w' ⟨rfl, h3, h4⟩
      exact Or.inl ⟨_, by rw [drop_at hn, Rt.pNumber, if_pos hk], rfl, h3, h4⟩
    · refine (number_no' w R tv ts n ov ops hr hn hk).mono ?_
      rintro e w' ⟨rfl, h3, h4⟩
      exact Or.inr ⟨by rw [drop_at hn, Rt.pNumber, if_neg hk], rfl, h3, h4⟩
  · refine (number_end' w R tv ts n ov ops hr hn).mono ?_
    rintro e w' ⟨rfl, h3, h4⟩
    exact Or.inr ⟨by rw [drop_end hn, Rt.pNumber], rfl, h3, h4⟩
set_option maxHeartbeats 1000000 in
theorem array_any (w : World) (R : Nat) (tv : Value) (ts : List Rt.Tk) (n : Nat) (hr : RdS w R tv ts n noOps []) (hsm : ∀ t ∈ ts, t.text.size ≤ 40000) :
    Calls Tryz.prog 197 #[.pointer (some ⟨R, 0, none⟩)] w (LineP Rt.pArray R tv ts n w) := by
  have hlt : R < w.heap.size := World.block_lt_of_cell? w _ (cell_of_block hr.block 0 (by simp))
  have HSM := hide hsm
  clear hsm
  go_enter Tryz.func197, Tryz.ntmps197
  go_wp2_with fail
  obtain ⟨hr0, hfr0⟩ := hr.later ((Below.refl w.heap.size w).alloc (Nat.le_refl _) (.cells zForm 143))
  have hN0 : (w.alloc (.cells zForm 143)).heap[w.heap.size]? = some (.cells zForm 143 (0, 0)) := heap_alloc_new w _
  refine (name_any _ _ _ _ _ _ _ hr0).mono ?_
  rintro e w1 (⟨nm, hn, hs, rfl, hr1, hfr1⟩ | ⟨hs, rfl, hr1, hfr1⟩)
  · have hN := hfr1.keep hN0 (by omega)
    have HS := hide hs
    have HFR := hide (hfr0.trans hfr1)
    clear hr hr0 hfr0 hfr1 hs hN0
    go_wp2_with fail
    refine (number_any _ _ _ _ _ _ _ hr1 (unhide HSM)).mono ?_
    rintro e w2 (⟨v, hs2, rfl, hr2, hfr2⟩ | ⟨hs2, rfl, hr2, hfr2⟩)
    · obtain ⟨c0, c1, c2, c3, c4, c5, f0, f1, f2, f3, f4, f5⟩ := six (hfr2.keep hN (by omega))
      have HS2 := hide hs2
      have HR := hide hr2
      have HFR2 := hide ((unhide HFR).trans hfr2)
      clear hr1 hr2 hfr2 hs2 HFR hN
      by_cases hv1 : v < 1
      · go_wp2_with fail
        refine bodyPost_ret (v := .tuple #[.agg zForm, .bool false]) ?_ rfl (Or.inr ⟨by rw [Rt.pArray, unhide HS]; simp only; rw [unhide HS2]; simp only; rw [if_pos (Or.inl hv1)], rfl, _, (unhide HFR2).set6 (Nat.le_refl _) _ _ _ _ _ _⟩)
        simp [results, Tryz.results197, go_sem, c0, c1, c2, c3, c4, c5]
      · by_cases hv2 : 32 < v
        · go_wp2_with fail
          refine bodyPost_ret (v := .tuple #[.agg zForm, .bool false]) ?_ rfl (Or.inr ⟨by rw [Rt.pArray, unhide HS]; simp only; rw [unhide HS2]; simp only; rw [if_pos (Or.inr hv2)], rfl, _, (unhide HFR2).set6 (Nat.le_refl _) _ _ _ _ _ _⟩)
          simp [results, Tryz.results197, go_sem, c0, c1, c2, c3, c4, c5]
        · have HE : Hid (Rt.pArray (ts.drop n) = some (⟨2, nm, v, [], [], []⟩, ts.drop (n + 1 + 1))) := by
            refine hide ?_
            rw [Rt.pArray, unhide HS]
            simp only
            rw [unhide HS2]
            simp only
            rw [if_neg (by omega)]
          go_wp2_with fail
          refine bodyPost_ret (v := .tuple #[.agg #[.int .i64 2, .string nm, .int .i64 v, noOps, noOps, noOps], .bool true]) ?_ rfl
            (Or.inl ⟨_, _, _, unhide HE, rfl, (unhide HR).set6 hlt _ _ _ _ _ _, FormV_plain _ _ _ _ _, (unhide HFR2).set6 (Nat.le_refl _) _ _ _ _ _ _⟩)
          simp [results, Tryz.results197, go_sem, c0, c1, c2, c3, c4, c5]
    · obtain ⟨c0, c1, c2, c3, c4, c5, f0, f1, f2, f3, f4, f5⟩ := six (hfr2.keep hN (by omega))
      have HS2 := hide hs2
      have HFR2 := hide ((unhide HFR).trans hfr2)
      clear hr1 hr2 hfr2 hs2 HFR hN
      go_wp2_with fail
      refine bodyPost_ret (v := .tuple #[.agg zForm, .bool false]) ?_ rfl (Or.inr ⟨by rw [Rt.pArray, unhide HS]; simp only; rw [unhide HS2], rfl, _, (unhide HFR2).set6 (Nat.le_refl _) _ _ _ _ _ _⟩)
      simp [results, Tryz.results197, go_sem, c0, c1, c2, c3, c4, c5]
  · obtain ⟨c0, c1, c2, c3, c4, c5, f0, f1, f2, f3, f4, f5⟩ := six (hfr1.keep hN0 (by omega))
    have HS := hide hs
    have HFR := hide (hfr0.trans hfr1)
    clear hr hr0 hfr0 hfr1 hs hN0
    go_wp2_with fail
    refine bodyPost_ret (v := .tuple #[.agg zForm, .bool false]) ?_ rfl (Or.inr ⟨by rw [Rt.pArray, unhide HS], rfl, _, (unhide HFR).set6 (Nat.le_refl _) _ _ _ _ _ _⟩)
    simp [results, Tryz.results197, go_sem, c0, c1, c2, c3, c4, c5]
theorem RdS.kept {w w1 : World} {R : Nat} {tv : Value} {ts : List Rt.Tk} {n : Nat} (hr : RdS w R tv ts n noOps []) (h : ∀ k, k ≤ R → w1.heap[k]? = w.heap[k]?) : RdS w1 R tv ts n noOps [] := by
  refine ⟨hr.le, hr.few, hr.fewOps, by rw [h R (Nat.le_refl _)]; exact hr.block, ?_, World.ownsRow_nil _ _ _ _⟩
  obtain ⟨b, cap, rfl, hbR, hc⟩ := hr.toks
  have hc' : ∀ j, w1.cell? ⟨b, j, none⟩ = w.cell? ⟨b, j, none⟩ := fun j => World.cell?_of_block (w := w) (h b (by omega))
  exact ⟨b, cap, rfl, hbR, fun i h => ⟨by rw [hc']; exact (hc i h).1, by rw [hc']; exact (hc i h).2⟩⟩
theorem RFr.grown {R : Nat} {a b : Value} {w wr w1 : World} {o : Obj} {row : Option Nat} (h : RFr R a b w wr) (hg : (wr.alloc o).grownBy w1 row) (hr : ∀ k, row = some k → w.heap.size ≤ k) : RFr R a b w w1 :=
  ⟨hg.os.trans h.os, hg.tape.trans h.tape, hg.output.trans h.output, by have := hg.size; have := h.size; simp at *; omega,
    fun k hk h1 h2 => ((hg.block k (by have := h.size; simp; omega) (fun e => by have := hr k e.symm; omega)).trans (Below.heap_alloc wr o k (Nat.lt_of_lt_of_le hk h.size))).trans (h.block k hk h1 h2), h.own⟩
theorem grown_low {wr w1 : World} {o : Obj} {row : Option Nat} {R : Nat} (hg : (wr.alloc o).grownBy w1 row) (hR : R < wr.heap.size) (hr : ∀ k, row = some k → R < k) : ∀ k, k ≤ R → w1.heap[k]? = wr.heap[k]? := fun k hk => by
  rw [hg.block k (by simp; omega) (fun e => by have := hr k e.symm; omega), Below.heap_alloc wr o k (by omega)]
theorem more' (w : World) (R : Nat) (tv : Value) (ts : List Rt.Tk) (n : Nat) (ov : Value) (ops : List Pop) (hr : RdS w R tv ts n ov ops) :
    Calls Tryz.prog 170 #[.pointer (some ⟨R, 0, none⟩)] w fun e w' => e = .returned (.bool (decide (n < ts.length))) ∧ RdS w' R tv ts n ov ops ∧ RFr R ov ov w w' :=
  (more_any w R tv ts n ov ops hr).mono (by rintro e w' ⟨rfl, q, rfl⟩; exact ⟨rfl, hr.quiet q⟩)
theorem set_other {w : World} {M N : Nat} {o : Obj} (h : w.heap[N]? = some o) (hne : N ≠ M) (i : Nat) (v : Value) : (w.setCell ⟨M, i, none⟩ v).heap[N]? = some o := by
  rw [Below.heap_setCell w ⟨M, i, none⟩ v N hne]
  exact h
theorem setIf6_3 (a b c d e f x : Value) : (#[a, b, c, d, e, f].setIfInBounds 3 x) = #[a, b, c, x, e, f] := rfl
theorem params_step {ts : List Rt.Tk} {n2 : Nat} {acc : List ByteArray} {nm2 : ByteArray} (hn : n2 < ts.length) (h : Rt.pName (ts.drop n2) = some (nm2, ts.drop (n2 + 1))) (hl : acc.length < 4) :
    Rt.pParams acc (ts.drop n2) = Rt.pParams (acc ++ [nm2]) (ts.drop (n2 + 1)) := by
  rw [drop_at hn, Rt.pName] at h
  rw [drop_at hn, Rt.pParams]
  split at h
  · next hk =>
    rw [if_pos ⟨hk, hl⟩]
    simp at h
    rw [h]
  · cases h
theorem params_full {ts : List Rt.Tk} {n2 : Nat} {acc : List ByteArray} (hn : n2 < ts.length) (hl : 4 ≤ acc.length) : Rt.pParams acc (ts.drop n2) = none := by
  rw [drop_at hn, Rt.pParams, if_neg (by omega)]
theorem params_bad {ts : List Rt.Tk} {n2 : Nat} {acc : List ByteArray} (hn : n2 < ts.length) (h : Rt.pName (ts.drop n2) = none) : Rt.pParams acc (ts.drop n2) = none := by
  rw [drop_at hn, Rt.pName] at h
  rw [drop_at hn, Rt.pParams]
  split at h
  · cases h
  · next hk => rw [if_neg (fun x => hk x.1)]
theorem proc_none {rem r : List Rt.Tk} {nm : ByteArray} (h : Rt.pName rem = some (nm, r)) (hp : Rt.pParams [] r = none) : Rt.pProc rem = none := by
  rw [Rt.pProc, h]; simp only; rw [hp]
theorem proc_some {rem r : List Rt.Tk} {nm : ByteArray} {ps : List ByteArray} (h : Rt.pName rem = some (nm, r)) (hp : Rt.pParams [] r = some ps) : Rt.pProc rem = some (⟨3, nm, 0, ps, [], []⟩, []) := by
  rw [Rt.pProc, h]; simp only; rw [hp]
set_option maxHeartbeats 2000000 in
set_option maxRecDepth 100000 in
theorem procedure_any (w : World) (R : Nat) (tv : Value) (ts : List Rt.Tk) (n : Nat) (hr : RdS w R tv ts n noOps []) :
    Calls Tryz.prog 198 #[.pointer (some ⟨R, 0, none⟩)] w (LineP Rt.pProc R tv ts n w) := by
  have hlt : R < w.heap.size := World.block_lt_of_cell? w _ (cell_of_block hr.block 0 (by simp))
  obtain ⟨i0, hi, hz0, hz1, hz2⟩ := info_parts Tryz.infoStr
  go_enter Tryz.func198, Tryz.ntmps198
  go_wp2_with fail
  obtain ⟨hr0, hfr0⟩ := hr.later ((Below.refl w.heap.size w).alloc (Nat.le_refl _) (.cells zForm 143))
  have hN0 : (w.alloc (.cells zForm 143)).heap[w.heap.size]? = some (.cells zForm 143 (0, 0)) := heap_alloc_new w _
  refine (name_any _ _ _ _ _ _ _ hr0).mono ?_
  rintro e w1 (⟨nm, hn, hs, rfl, hr1, hfr1⟩ | ⟨hs, rfl, hr1, hfr1⟩)
  · have hN := hfr1.keep hN0 (by omega)
    have hNlt := block_lt hN
    have hfrA := hfr0.trans hfr1
    have HS := hide hs
    have hst : RdS (w1.alloc (.cells #[.int .i64 3, .string nm, .int .i64 0, noOps, noOps, noOps] 143)) R tv ts (n + 1) noOps [] := (hr1.later ((Below.refl w1.heap.size w1).alloc (Nat.le_refl _) _)).1
    have hfrB := hfrA.alloc (.cells #[.int .i64 3, .string nm, .int .i64 0, noOps, noOps, noOps] 143)
    have hNB := block_alloc hN (.cells #[.int .i64 3, .string nm, .int .i64 0, noOps, noOps, noOps] 143)
    have hMB := heap_alloc_new w1 (.cells #[.int .i64 3, .string nm, .int .i64 0, noOps, noOps, noOps] 143)
    clear hr hr0 hfr0 hfr1 hs hN0 hfrA hN hr1
    go_wp2_with fail
    go_loopg [7, 8] (ts.length - (n + 1)) (fun k _ _ wr => ∃ (n2 : Nat) (pv : Value) (acc : List ByteArray), k = ts.length - n2 ∧ n + 1 ≤ n2 ∧ acc.length ≤ 4 ∧ Rt.pParams acc (ts.drop n2) = Rt.pParams [] (ts.drop (n + 1)) ∧
      RdS wr R tv ts n2 noOps [] ∧ RFr R noOps noOps w wr ∧ wr.heap[w.heap.size]? = some (.cells zForm 143 (0, 0)) ∧
      wr.heap[w1.heap.size]? = some (.cells #[.int .i64 3, .string nm, .int .i64 0, pv, noOps, noOps] 143 (0, 0)) ∧ wr.ownsRow (w1.heap.size + 1) 9 1 pv acc.length (acc.map Value.string))
    case atStart => exact ⟨n + 1, noOps, [], rfl, Nat.le_refl _, by simp, rfl, hst, hfrB, hNB, hMB, World.ownsRow_nil _ _ _ _⟩
    case round =>
      clear hst hfrB hNB hMB
      obtain ⟨n2, pv, acc, hk, hn2, hacc, hT, hr2, hfr2, hN2, hM2, hown⟩ := hrel
      have HK := hide hk
      have HT := hide hT
      clear hk hT
      obtain ⟨ad, cap, rfl⟩ := ownsRow_form hown
      go_wp2_with fail
      refine (more' _ _ _ _ _ _ _ hr2).mono ?_
      rintro e w3 ⟨rfl, hr3, hfr3⟩
      have hN3 := hfr3.keep hN2 (by omega)
      have hM3 := hfr3.keep hM2 (by omega)
      have hown3 := hfr3.keepRow hown (by omega)
      have hfrC := hfr2.trans hfr3
      clear hr2 hfr2 hN2 hM2 hown hfr3
      by_cases hn3 : n2 < ts.length
      · have hd : decide (n2 < ts.length) = true := by simpa using hn3
        rw [hd]
        go_wp2_with fail
        refine (name_any _ _ _ _ _ _ _ hr3).mono ?_
        rintro e w4 (⟨nm2, hn4, hs4, rfl, hr4, hfr4⟩ | ⟨hs4, rfl, hr4, hfr4⟩)
        · have hN4 := hfr4.keep hN3 (by omega)
          have hM4 := hfr4.keep hM3 (by omega)
          have hown4 := hfr4.keepRow hown3 (by omega)
          have hfrD := hfrC.trans hfr4
          have HS4 := hide hs4
          clear hr3 hN3 hM3 hown3 hfrC hfr4 hs4
          by_cases hfull : 4 ≤ acc.length
          · obtain ⟨c0, c1, c2, c3, c4, c5, f0, f1, f2, f3, f4, f5⟩ := six hN4
            have ⟨_, _, _, d3, _, _, _, _, _, _, _, _⟩ := six hM4
            have HFR := hide hfrD
            have HE := hide (proc_none (unhide HS) ((unhide HT).symm.trans (params_full hn3 hfull)))
            have hfull' : (4 : Int) ≤ (acc.length : Int) := by omega
            clear hN4 hM4 hr4 hfrD
            go_wp2_with fail
            refine bodyPost_ret (v := .tuple #[.agg zForm, .bool false]) ?_ rfl (Or.inr ⟨unhide HE, rfl, _, (unhide HFR).set6 (Nat.le_refl _) _ _ _ _ _ _⟩)
            simp [results, Tryz.results198, go_sem, c0, c1, c2, c3, c4, c5]
          · have hfull' : ¬ (4 : Int) ≤ (acc.length : Int) := by omega
            have HT2 := hide ((params_step hn3 (unhide HS4) (by omega)).symm.trans (unhide HT))
            have ⟨_, _, _, d3, _, _, _, _, _, g3, _, _⟩ := six hM4
            have hMlt := block_lt hM4
            have hRlt : R < w4.heap.size := by omega
            go_wp2_with (at_builtin; refine wpList_append_own _ rfl (.tmp 36) (.tmp 38) 87 rfl (w1.heap.size + 1) 9 i0 _ 1 16 Tryz.underlying87 hi hz0 hz1 hz2 rfl (by decide) _ _ _ rfl (hown4.alloc _) ⟨_, 0, none⟩ 1 1 [.string nm2] rfl rfl (cell_one_new _ _ _) ?c2 ?c3 ?c4 ?c5 ?_)
            case c2 => intro u hu; simp at hu; rcases hu with rfl; rfl
            case c3 => unfold maxLen; omega
            case c4 => omega
            case c5 => simp; omega
            intro v' w5 hown5 hgrow _
            have hrow : ∀ k, (Value.slice ad acc.length cap).ownBlock = some k → w1.heap.size < k := fun k hk => by have := (hown4.lt k hk).1; omega
            have hM5 := grown_keep hgrow hM4 (fun h => by have := hrow _ h; omega)
            have hN5 := grown_keep hgrow hN4 (fun h => by have := hrow _ h; omega)
            have hr5 := hr4.kept (grown_low hgrow hRlt (fun k hk => by have := hrow k hk; omega))
            have hfr5 := hfrD.grown hgrow (fun k hk => by have := hrow k hk; omega)
            obtain ⟨ad5, cap5, rfl⟩ := ownsRow_form hown5
            have ⟨_, _, _, e3, _, _, _, _, _, k3, _, _⟩ := six hM5
            have hM6 := set_block hM5 3 (Value.slice ad5 (acc.length + 1) cap5)
            rw [setIf6_3] at hM6
            have hN6 := set_other hN5 (M := w1.heap.size) (by omega) 3 (Value.slice ad5 (acc.length + 1) cap5)
            have hr6 := hr5.setOther (N := w1.heap.size) (i := 3) (by omega) (by intro g h; cases h) (Value.slice ad5 (acc.length + 1) cap5)
            have hfr6 := hfr5.setNew (N := w1.heap.size) (i := 3) (by omega) (Value.slice ad5 (acc.length + 1) cap5)
            have hown6 := ownsRow_setCell_ne hown5 (a := ⟨w1.heap.size, 3, none⟩) (fun g hg => by have := (hown5.lt g hg).1; show g ≠ w1.heap.size; omega) (Value.slice ad5 (acc.length + 1) cap5)
            have HH := hide (And.intro hM6 (And.intro hN6 (And.intro hr6 (And.intro hfr6 hown6))))
            clear hM6 hN6 hr6 hfr6 hown6 hM5 hN5 hr5 hfr5 hown5 hgrow hr4 hfrD hM4 hN4 hown4 hrow
            go_wp2_with fail
            go_roundg (ts.length - (n2 + 1))
            case measure => have := unhide HK; omega
            case rel =>
              obtain ⟨hM6, hN6, hr6, hfr6, hown6⟩ := unhide HH
              exact ⟨n2 + 1, _, acc ++ [nm2], rfl, by omega, by simp; omega, unhide HT2, hr6, hfr6, hN6, hM6, by simpa using hown6⟩
        · have hN4 := hfr4.keep hN3 (by omega)
          obtain ⟨c0, c1, c2, c3, c4, c5, f0, f1, f2, f3, f4, f5⟩ := six hN4
          have HFR := hide (hfrC.trans hfr4)
          have HE := hide (proc_none (unhide HS) ((unhide HT).symm.trans (params_bad hn3 hs4)))
          clear hr3 hr4 hN3 hM3 hown3 hfrC hfr4 hs4 hN4
          go_wp2_with fail
          refine bodyPost_ret (v := .tuple #[.agg zForm, .bool false]) ?_ rfl (Or.inr ⟨unhide HE, rfl, _, (unhide HFR).set6 (Nat.le_refl _) _ _ _ _ _ _⟩)
          simp [results, Tryz.results198, go_sem, c0, c1, c2, c3, c4, c5]
      · have hd : decide (n2 < ts.length) = false := by simpa using hn3
        rw [hd]
        have HE : Hid (Rt.pProc (ts.drop n) = some (⟨3, nm, 0, acc, [], []⟩, ts.drop n2)) := by
          refine hide ?_
          have h := unhide HT
          rw [drop_end hn3, Rt.pParams] at h
          rw [proc_some (unhide HS) h.symm, drop_end hn3]
        obtain ⟨c0, c1, c2, c3, c4, c5, f0, f1, f2, f3, f4, f5⟩ := six hN3
        have ⟨d0, d1, d2, d3, d4, d5, _, _, _, _, _, _⟩ := six hM3
        have HR := hide hr3
        have HFR := hide hfrC
        have HO := hide (ownsRow_mono (b' := w.heap.size) (own_set6 (N := w.heap.size) hown3 (fun g hg => by have := (hown3.lt g hg).1; omega) (.int .i64 3) (.string nm) (.int .i64 0) (.slice ad acc.length cap) noOps noOps) (by omega))
        clear hr3 hN3 hM3 hown3 hfrC
        go_wp2_with fail
        refine bodyPost_ret (v := .tuple #[.agg #[.int .i64 3, .string nm, .int .i64 0, .slice ad acc.length cap, noOps, noOps], .bool true]) ?_ rfl
          (Or.inl ⟨⟨3, nm, 0, acc, [], []⟩, n2, _, unhide HE, rfl, (unhide HR).set6 hlt _ _ _ _ _ _, ⟨_, noOps, noOps, [], rfl, unhide HO, World.ownsRow_nil _ _ _ _, World.ownsRow_nil _ _ _ _, trivial⟩, (unhide HFR).set6 (Nat.le_refl _) _ _ _ _ _ _⟩)
        simp [results, Tryz.results198, go_sem, c0, c1, c2, c3, c4, c5]
  · obtain ⟨c0, c1, c2, c3, c4, c5, f0, f1, f2, f3, f4, f5⟩ := six (hfr1.keep hN0 (by omega))
    have HS := hide hs
    have HFR := hide (hfr0.trans hfr1)
    clear hr hr0 hfr0 hfr1 hs hN0
    go_wp2_with fail
    refine bodyPost_ret (v := .tuple #[.agg zForm, .bool false]) ?_ rfl (Or.inr ⟨by rw [Rt.pProc, unhide HS], rfl, _, (unhide HFR).set6 (Nat.le_refl _) _ _ _ _ _ _⟩)
    simp [results, Tryz.results198, go_sem, c0, c1, c2, c3, c4, c5]
end Go.Proofs.YthleadfkfnnadaaGreat
