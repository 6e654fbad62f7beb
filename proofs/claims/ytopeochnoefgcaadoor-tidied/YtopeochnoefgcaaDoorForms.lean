/- The walks of the readers of lines. -/
import Derived.Test.YtopeochnoefgcaaDoorExpr
namespace Go.Proofs.YtopeochnoefgcaaDoor
open Go.RowKit

/-- No ops. -/
abbrev noOps : Value := .slice none 0 0

theorem RFr.setNew {R : Nat} {a b : Value} {w w1 : World} {N i : Nat} (h : RFr R a b w w1) (hN : w.heap.size ≤ N) (v : Value) : RFr R a b w (w1.setCell ⟨N, i, none⟩ v) :=
  ⟨h.os, h.tape, h.output, by have := h.size; simp [World.setCell]; omega, fun k hk h1 h2 => (Below.heap_setCell w1 ⟨N, i, none⟩ v k (by show k ≠ N; omega)).trans (h.block k hk h1 h2), h.own⟩

theorem ownsRow_setCell_ne {w : World} {base : Nat} {e : TypeId} {size : Nat} {v : Value} {n : Nat} {xs : List Value} (h : w.ownsRow base e size v n xs) {a : Addr} (ha : ∀ g, v.ownBlock = some g → g ≠ a.block) (u : Value) : (w.setCell a u).ownsRow base e size v n xs := by
  obtain ⟨h1, h2⟩ := h
  refine ⟨h1, ?_⟩
  rcases h2 with h2 | ⟨g, cap, cur, hv, hg, hh, r⟩
  · exact Or.inl h2
  · exact Or.inr ⟨g, cap, cur, hv, hg, by rw [Below.heap_setCell _ _ _ _ (ha g (by rw [hv]; rfl))]; exact hh, r⟩

theorem RdS.setOther {w : World} {R : Nat} {tv : Value} {ts : List Rt.Tk} {n : Nat} {ov : Value} {ops : List Pop} {N i : Nat} (hr : RdS w R tv ts n ov ops) (hN : R < N) (ho : ∀ g, ov.ownBlock = some g → g ≠ N) (v : Value) :
    RdS (w.setCell ⟨N, i, none⟩ v) R tv ts n ov ops := by
  have hoth : ∀ k, k ≠ N → (w.setCell ⟨N, i, none⟩ v).heap[k]? = w.heap[k]? := fun k hk => Below.heap_setCell w ⟨N, i, none⟩ v k hk
  refine ⟨hr.le, hr.few, hr.fewOps, by rw [hoth R (by omega)]; exact hr.block, ?_, ownsRow_setCell_ne hr.own ho v⟩
  obtain ⟨b, cap, rfl, hbR, hc⟩ := hr.toks
  have hc' : ∀ j, (w.setCell ⟨N, i, none⟩ v).cell? ⟨b, j, none⟩ = w.cell? ⟨b, j, none⟩ := fun j => World.cell?_of_block (w := w) (hoth b (by omega))
  exact ⟨b, cap, rfl, hbR, fun i h => ⟨by rw [hc']; exact (hc i h).1, by rw [hc']; exact (hc i h).2⟩⟩

theorem RdS.clear {w : World} {R : Nat} {tv : Value} {ts : List Rt.Tk} {n : Nat} {ov : Value} {ops : List Pop} (hr : RdS w R tv ts n ov ops) :
    RdS (w.setCell ⟨R, 2, none⟩ noOps) R tv ts n noOps [] ∧ RFr R ov noOps w (w.setCell ⟨R, 2, none⟩ noOps) ∧ (w.setCell ⟨R, 2, none⟩ noOps).ownsRow (R + 1) 124 3 ov ops.length (popsCells ops) := by
  have hoth : ∀ k, k ≠ R → (w.setCell ⟨R, 2, none⟩ noOps).heap[k]? = w.heap[k]? := fun k hk => Below.heap_setCell w ⟨R, 2, none⟩ _ k hk
  refine ⟨⟨hr.le, hr.few, by simp, ?_, ?_, World.ownsRow_nil _ _ _ _⟩, ⟨rfl, rfl, rfl, by simp [World.setCell], fun k _ h1 _ => hoth k h1, fun g h => by cases h⟩, ?_⟩
  · show (w.heap.modify R _)[R]? = _
    rw [Array.getElem?_modify]
    simp [hr.block]
  · obtain ⟨b, cap, rfl, hbR, hc⟩ := hr.toks
    have hc' : ∀ j, (w.setCell ⟨R, 2, none⟩ noOps).cell? ⟨b, j, none⟩ = w.cell? ⟨b, j, none⟩ := fun j => World.cell?_of_block (w := w) (hoth b (by omega))
    exact ⟨b, cap, rfl, hbR, fun i h => ⟨by rw [hc']; exact (hc i h).1, by rw [hc']; exact (hc i h).2⟩⟩
  · exact ownsRow_setCell_below hr.own (by show R < R + 1; omega) _


set_option maxHeartbeats 1000000 in
theorem expression_any (w : World) (R : Nat) (tv : Value) (ts : List Rt.Tk) (n : Nat) (hr : RdS w R tv ts n noOps []) (hsm : ∀ t ∈ ts, t.text.size ≤ 40000) :
    Calls Tryd.prog 68 #[.pointer (some ⟨R, 0, none⟩)] w fun e w' =>
      (∃ em n' xv, Rt.pExpr (ts.drop n) = some (em, ts.drop n') ∧ e = .returned (.tuple #[.agg #[xv], .bool true]) ∧ n < n' ∧ em.length ≤ n' ∧ RdS w' R tv ts n' noOps [] ∧
        w'.ownsRow w.heap.size 124 3 xv em.length (popsCells em) ∧ RFr R noOps noOps w w') ∨
      (Rt.pExpr (ts.drop n) = none ∧ e = .returned (.tuple #[.agg #[noOps], .bool false]) ∧ ∃ ov, RFr R noOps ov w w') := by
  have hfew := hr.few
  have HSM := hide hsm
  clear hsm
  have hlt : R < w.heap.size := World.block_lt_of_cell? w _ (cell_of_block hr.block 0 (by simp))
  go_enter Tryd.func68, Tryd.ntmps68
  go_wp2_with fail
  obtain ⟨hr0, hfr0⟩ := hr.later ((Below.refl w.heap.size w).alloc (Nat.le_refl _) (.cells #[noOps] 59))
  refine (comparison_all 24 _ _ _ _ _ _ _ hr0 (unhide HSM) (by omega)).mono ?_
  rintro e w1 (⟨em, n1, ov1, hs, rfl, hlen, hlt1, hr1, hfr1⟩ | ⟨hs, rfl, ov1, hfr1⟩)
  · rw [List.nil_append] at hr1
    have hN : w1.heap[w.heap.size]? = some (.cells #[noOps] 59 (0, 0)) := by
      rw [hfr1.block w.heap.size (by simp) (by omega) (by simp [Value.ownBlock])]
      exact heap_alloc_new w _
    have hg : ∀ g, ov1.ownBlock = some g → w.heap.size < g := fun g hg => by
      rcases hfr1.own g hg with h | h
      · cases h
      · simp at h; omega
    obtain ⟨ad, cap, rfl⟩ := ownsRow_form hr1.own
    have HS := hide hs
    clear hs
    have c2 := cell_of_block hr1.block 2 (by simp)
    have f2 := free_of_block hr1.block 2
    have cN := cell_of_block hN 0 (by simp)
    have fN := free_of_block hN 0
    simp at c2 cN
    obtain ⟨hr2, hfr2, hown2⟩ := hr1.clear
    have HR := hide (hr2.setOther (N := w.heap.size) (i := 0) hlt (by intro g h; cases h) (Value.slice ad em.length cap))
    have HFR := hide ((hfr0.trans (hfr1.trans hfr2)).setNew (N := w.heap.size) (i := 0) (Nat.le_refl _) (Value.slice ad em.length cap))
    have HO := hide (ownsRow_base (b' := w.heap.size) (ownsRow_setCell_ne hown2 (a := ⟨w.heap.size, 0, none⟩) (fun g h => by have := hg g h; show g ≠ w.heap.size; omega) (Value.slice ad em.length cap)) (fun g h => by have := hg g h; omega))
    clear hr hr0 hr1 hr2 hfr0 hfr1 hfr2 hown2 hN
    have hne : ¬ R = w.heap.size := by omega
    go_wp2_with fail
    refine bodyPost_ret (v := .tuple #[.agg #[Value.slice ad em.length cap], .bool true]) ?_ rfl (Or.inl ⟨em, n1, _, unhide HS, rfl, hlt1, by omega, unhide HR, unhide HO, unhide HFR⟩)
    simp [results, Tryd.results68, go_sem, cN]
  · have hN : w1.heap[w.heap.size]? = some (.cells #[noOps] 59 (0, 0)) := by
      rw [hfr1.block w.heap.size (by simp) (by omega) (by simp [Value.ownBlock])]
      exact heap_alloc_new w _
    have cN := cell_of_block hN 0 (by simp)
    have fN := free_of_block hN 0
    simp at cN
    have HS := hide hs
    have HFR := hide ((hfr0.trans hfr1).setNew (N := w.heap.size) (i := 0) (Nat.le_refl _) noOps)
    clear hr hr0 hfr0 hfr1 hN hs
    go_wp2_with fail
    refine bodyPost_ret (v := .tuple #[.agg #[noOps], .bool false]) ?_ rfl (Or.inr ⟨unhide HS, rfl, _, unhide HFR⟩)
    simp [results, Tryd.results68, go_sem, cN]

end Go.Proofs.YtopeochnoefgcaaDoor

namespace Go.Proofs.YtopeochnoefgcaaDoor
open Go.RowKit


theorem name_any (w : World) (R : Nat) (tv : Value) (ts : List Rt.Tk) (n : Nat) (ov : Value) (ops : List Pop) (hr : RdS w R tv ts n ov ops) :
    Calls Tryd.prog 66 #[.pointer (some ⟨R, 0, none⟩)] w fun e w' =>
      (∃ nm, n < ts.length ∧ Rt.pName (ts.drop n) = some (nm, ts.drop (n + 1)) ∧ e = .returned (.tuple #[.string nm, .bool true]) ∧ RdS w' R tv ts (n + 1) ov ops ∧ RFr R ov ov w w') ∨
      (Rt.pName (ts.drop n) = none ∧ e = .returned (.tuple #[.string ⟨#[]⟩, .bool false]) ∧ RdS w' R tv ts n ov ops ∧ RFr R ov ov w w') := by
  by_cases hn : n < ts.length
  · refine (name_some w R tv ts n ov ops hr hn).mono ?_
    rintro e w' (⟨h1, h2, rfl, h3, h4⟩ | ⟨h1, rfl, h3, h4⟩)
    · exact Or.inl ⟨_, hn, by rw [drop_at hn, Rt.pName, if_pos ⟨h1, h2⟩], rfl, h3, h4⟩
    · exact Or.inr ⟨by rw [drop_at hn, Rt.pName, if_neg h1], rfl, h3, h4⟩
  · refine (name_end' w R tv ts n ov ops hr hn).mono ?_
    rintro e w' ⟨rfl, h3, h4⟩
    exact Or.inr ⟨by rw [drop_end hn, Rt.pName], rfl, h3, h4⟩

def ExprsR (w : World) (B : Nat) : List Value → List (List Pop) → Prop
  | [], [] => True
  | x :: xs, o :: os => w.ownsRow B 124 3 x o.length (popsCells o) ∧ ExprsR w B xs os
  | _, _ => False

/-- A Form in memory: its six cells, and what they lead to, in blocks from B on. -/
def FormV (w : World) (B : Nat) (v : Array Value) (fm : Rt.PForm) : Prop :=
  ∃ pv iv vv vs, v = #[.int .i64 fm.kind, .string fm.name, .int .i64 fm.cells, pv, iv, vv] ∧ w.ownsRow B 9 1 pv fm.params.length (fm.params.map Value.string) ∧
    w.ownsRow B 124 3 iv fm.index.length (popsCells fm.index) ∧ w.ownsRow B 59 1 vv fm.values.length vs ∧ ExprsR w B vs fm.values

abbrev zForm : Array Value := #[.int .i64 0, .string ⟨#[]⟩, .int .i64 0, noOps, noOps, noOps]

/-- What a reader of what stands behind a line's first token says. -/
def LineP (spec : List Rt.Tk → Rt.GotF) (R : Nat) (tv : Value) (ts : List Rt.Tk) (n : Nat) (w : World) (e : Ending) (w' : World) : Prop :=
  (∃ fm n' fv, spec (ts.drop n) = some (fm, ts.drop n') ∧ e = .returned (.tuple #[.agg fv, .bool true]) ∧ RdS w' R tv ts n' noOps [] ∧ FormV w' w.heap.size fv fm ∧ RFr R noOps noOps w w') ∨
  (spec (ts.drop n) = none ∧ e = .returned (.tuple #[.agg zForm, .bool false]) ∧ ∃ ov, RFr R noOps ov w w')

abbrev W6 (w : World) (N : Nat) (a b c d e f : Value) : World :=
  (((((w.setCell ⟨N, 0, none⟩ a).setCell ⟨N, 1, none⟩ b).setCell ⟨N, 2, none⟩ c).setCell ⟨N, 3, none⟩ d).setCell ⟨N, 4, none⟩ e).setCell ⟨N, 5, none⟩ f
theorem RFr.set6 {R : Nat} {x y : Value} {w w1 : World} {N : Nat} (h : RFr R x y w w1) (hN : w.heap.size ≤ N) (a b c d e f : Value) : RFr R x y w (W6 w1 N a b c d e f) :=
  (((((h.setNew hN a).setNew hN b).setNew hN c).setNew hN d).setNew hN e).setNew hN f
theorem RdS.set6 {w : World} {R : Nat} {tv : Value} {ts : List Rt.Tk} {n : Nat} {N : Nat} (hr : RdS w R tv ts n noOps []) (hN : R < N) (a b c d e f : Value) : RdS (W6 w N a b c d e f) R tv ts n noOps [] :=
  have ho : ∀ g, (noOps : Value).ownBlock = some g → g ≠ N := by intro g h; cases h
  (((((hr.setOther hN ho a).setOther hN ho b).setOther hN ho c).setOther hN ho d).setOther hN ho e).setOther hN ho f
theorem own_set6 {w : World} {base : Nat} {t : TypeId} {size : Nat} {v : Value} {n : Nat} {xs : List Value} {N : Nat} (h : w.ownsRow base t size v n xs) (ha : ∀ g, v.ownBlock = some g → g ≠ N) (a b c d e f : Value) : (W6 w N a b c d e f).ownsRow base t size v n xs :=
  ownsRow_setCell_ne (ownsRow_setCell_ne (ownsRow_setCell_ne (ownsRow_setCell_ne (ownsRow_setCell_ne (ownsRow_setCell_ne h ha a) ha b) ha c) ha d) ha e) ha f

/-- The cells of a block of six. -/
def Six (w : World) (N : Nat) (a b c d e f : Value) : Prop :=
  w.cell? ⟨N, 0, none⟩ = some a ∧ w.cell? ⟨N, 1, none⟩ = some b ∧ w.cell? ⟨N, 2, none⟩ = some c ∧ w.cell? ⟨N, 3, none⟩ = some d ∧ w.cell? ⟨N, 4, none⟩ = some e ∧ w.cell? ⟨N, 5, none⟩ = some f ∧
  w.frozen? ⟨N, 0, none⟩ = false ∧ w.frozen? ⟨N, 1, none⟩ = false ∧ w.frozen? ⟨N, 2, none⟩ = false ∧ w.frozen? ⟨N, 3, none⟩ = false ∧ w.frozen? ⟨N, 4, none⟩ = false ∧ w.frozen? ⟨N, 5, none⟩ = false
theorem six {w : World} {N : Nat} {a b c d e f : Value} {t : TypeId} (h : w.heap[N]? = some (.cells #[a, b, c, d, e, f] t (0, 0))) : Six w N a b c d e f :=
  ⟨cell_of_block h 0 (by simp), cell_of_block h 1 (by simp), cell_of_block h 2 (by simp), cell_of_block h 3 (by simp), cell_of_block h 4 (by simp), cell_of_block h 5 (by simp),
    free_of_block h 0, free_of_block h 1, free_of_block h 2, free_of_block h 3, free_of_block h 4, free_of_block h 5⟩

theorem FormV_plain (w : World) (B : Nat) (kind : Int) (nm : ByteArray) (cells : Int) : FormV w B #[.int .i64 kind, .string nm, .int .i64 cells, noOps, noOps, noOps] ⟨kind, nm, cells, [], [], []⟩ :=
  ⟨noOps, noOps, noOps, [], rfl, World.ownsRow_nil _ _ _ _, World.ownsRow_nil _ _ _ _, World.ownsRow_nil _ _ _ _, trivial⟩

set_option maxHeartbeats 1000000 in
theorem named_any (w : World) (R : Nat) (tv : Value) (ts : List Rt.Tk) (n : Nat) (kind : Int) (hr : RdS w R tv ts n noOps []) :
    Calls Tryd.prog 53 #[.pointer (some ⟨R, 0, none⟩), .int .i64 kind] w (LineP (Rt.pNamed kind) R tv ts n w) := by
  have hlt : R < w.heap.size := World.block_lt_of_cell? w _ (cell_of_block hr.block 0 (by simp))
  go_enter Tryd.func53, Tryd.ntmps53
  go_wp2_with fail
  obtain ⟨hr0, hfr0⟩ := hr.later ((Below.refl w.heap.size w).alloc (Nat.le_refl _) (.cells zForm 62))
  refine (name_any _ _ _ _ _ _ _ hr0).mono ?_
  intro e w1 hpost
  have hfr1 : RFr R noOps noOps (w.alloc (.cells zForm 62)) w1 := by rcases hpost with ⟨_, _, _, _, _, h⟩ | ⟨_, _, _, h⟩ <;> exact h
  have hN : w1.heap[w.heap.size]? = some (.cells zForm 62 (0, 0)) := by
    rw [hfr1.block w.heap.size (by simp) (by omega) (by simp [Value.ownBlock])]
    exact heap_alloc_new w _
  obtain ⟨c0, c1, c2, c3, c4, c5, f0, f1, f2, f3, f4, f5⟩ := six hN
  have HFR := hide (hfr0.trans hfr1)
  clear hr0 hfr1 hN hfr0
  rcases hpost with ⟨nm, hn, hs, rfl, hr1, _⟩ | ⟨hs, rfl, hr1, _⟩
  · have HR := hide hr1
    have HS := hide hs
    clear hr1 hs hr
    go_wp2_with fail
    refine bodyPost_ret (v := .tuple #[.agg #[.int .i64 kind, .string nm, .int .i64 0, noOps, noOps, noOps], .bool true]) ?_ rfl
      (Or.inl ⟨_, n + 1, _, by rw [Rt.pNamed, unhide HS], rfl, (unhide HR).set6 hlt _ _ _ _ _ _, FormV_plain _ _ _ _ _, (unhide HFR).set6 (Nat.le_refl _) _ _ _ _ _ _⟩)
    simp [results, Tryd.results53, go_sem, c0, c1, c2, c3, c4, c5]
  · have HS := hide hs
    clear hr1 hs hr
    go_wp2_with fail
    refine bodyPost_ret (v := .tuple #[.agg zForm, .bool false]) ?_ rfl
      (Or.inr ⟨by rw [Rt.pNamed, unhide HS], rfl, _, (unhide HFR).set6 (Nat.le_refl _) _ _ _ _ _ _⟩)
    simp [results, Tryd.results53, go_sem, c0, c1, c2, c3, c4, c5]

theorem RFr.alloc {R : Nat} {a b : Value} {w w1 : World} (h : RFr R a b w w1) (o : Obj) : RFr R a b w (w1.alloc o) :=
  ⟨h.os, h.tape, h.output, by have := h.size; simp; omega, fun k hk h1 h2 => (Below.heap_alloc w1 o k (Nat.lt_of_lt_of_le hk h.size)).trans (h.block k hk h1 h2), h.own⟩
theorem ownsRow_new (w : World) (B : Nat) (e : TypeId) (x : Value) (hB : B ≤ w.heap.size) : (w.alloc (.cells #[x] e)).ownsRow B e 1 (.slice (some ⟨w.heap.size, 0, none⟩) 1 1) 1 [x] :=
  ⟨rfl, Or.inr ⟨w.heap.size, 1, #[x], rfl, hB, heap_alloc_new w _, Nat.le_refl _, by unfold maxLen; omega, rfl, rfl⟩⟩
theorem size_W6 (w : World) (N : Nat) (a b c d e f : Value) : (W6 w N a b c d e f).heap.size = w.heap.size := by simp [World.setCell]

set_option maxHeartbeats 1000000 in
theorem valued_any (w : World) (R : Nat) (tv : Value) (ts : List Rt.Tk) (n : Nat) (kind : Int) (hr : RdS w R tv ts n noOps []) (hsm : ∀ t ∈ ts, t.text.size ≤ 40000) :
    Calls Tryd.prog 56 #[.pointer (some ⟨R, 0, none⟩), .int .i64 kind] w (LineP (Rt.pValued kind) R tv ts n w) := by
  have hlt : R < w.heap.size := World.block_lt_of_cell? w _ (cell_of_block hr.block 0 (by simp))
  have HSM := hide hsm
  clear hsm
  go_enter Tryd.func56, Tryd.ntmps56
  go_wp2_with fail
  obtain ⟨hr0, hfr0⟩ := hr.later ((Below.refl w.heap.size w).alloc (Nat.le_refl _) (.cells zForm 62))
  refine (expression_any _ _ _ _ _ hr0 (unhide HSM)).mono ?_
  intro e w1 hpost
  obtain ⟨ox, hfr1⟩ : ∃ ox, RFr R noOps ox (w.alloc (.cells zForm 62)) w1 := by rcases hpost with ⟨_, _, _, _, _, _, _, _, _, h⟩ | ⟨_, _, _, h⟩ <;> exact ⟨_, h⟩
  have hN : w1.heap[w.heap.size]? = some (.cells zForm 62 (0, 0)) := by
    rw [hfr1.block w.heap.size (by simp) (by omega) (by simp [Value.ownBlock])]
    exact heap_alloc_new w _
  have hz : w.heap.size < w1.heap.size := by have := hfr1.size; simp at this; omega
  obtain ⟨c0, c1, c2, c3, c4, c5, f0, f1, f2, f3, f4, f5⟩ := six hN
  clear hr0 hN
  rcases hpost with ⟨em, n1, xv, hs, rfl, hn1, hem, hr1, hown, hfr1'⟩ | ⟨hs, rfl, ov1, hfr1'⟩
  · obtain ⟨ad, cap, rfl⟩ := ownsRow_form hown
    have HS := hide hs
    have hx : ∀ g, (Value.slice ad em.length cap).ownBlock = some g → g ≠ w.heap.size := fun g hg => by have := (hown.lt g hg).1; simp at this; omega
    have HO := hide (ownsRow_mono (b' := w.heap.size) (own_set6 hown hx (.int .i64 kind) (.string ⟨#[]⟩) (.int .i64 0) noOps noOps (.slice (some ⟨w1.heap.size + 1, 0, none⟩) 1 1)) (by simp))
    have HR := hide (hr1.set6 hlt (.int .i64 kind) (.string ⟨#[]⟩) (.int .i64 0) noOps noOps (.slice (some ⟨w1.heap.size + 1, 0, none⟩) 1 1))
    have HFR := hide ((hfr0.trans hfr1').set6 (N := w.heap.size) (Nat.le_refl _) (.int .i64 kind) (.string ⟨#[]⟩) (.int .i64 0) noOps noOps (.slice (some ⟨w1.heap.size + 1, 0, none⟩) 1 1))
    clear hs hr hx hown hr1 hfr0 hfr1 hfr1'
    go_wp2_with fail
    have hsz6 := size_W6 w1 w.heap.size (.int .i64 kind) (.string ⟨#[]⟩) (.int .i64 0) noOps noOps (.slice (some ⟨w1.heap.size + 1, 0, none⟩) 1 1)
    generalize hw2 : W6 w1 w.heap.size (.int .i64 kind) (.string ⟨#[]⟩) (.int .i64 0) noOps noOps (.slice (some ⟨w1.heap.size + 1, 0, none⟩) 1 1) = w2 at HO HR HFR hsz6
    obtain ⟨hr3, hfr3⟩ := (unhide HR).later (((Below.refl w2.heap.size w2).alloc (Nat.le_refl _) (.cells #[.slice ad em.length cap] 59)).alloc (by simp) (.cells #[.slice ad em.length cap] 59))
    have hnew := ownsRow_new (w2.alloc (.cells #[.slice ad em.length cap] 59)) w.heap.size 59 (.slice ad em.length cap) (by simp; omega)
    have hsz7 : (w2.alloc (.cells #[.slice ad em.length cap] 59)).heap.size = w1.heap.size + 1 := by simp [hsz6]
    rw [hsz7] at hnew
    refine bodyPost_ret (v := .tuple #[.agg #[.int .i64 kind, .string ⟨#[]⟩, .int .i64 0, noOps, noOps, .slice (some ⟨w1.heap.size + 1, 0, none⟩) 1 1], .bool true]) ?_ rfl ?_
    · simp [results, Tryd.results56, go_sem, c0, c1, c2, c3, c4, c5, hz]
    · rw [← hw2] at hr3 hfr3 hnew HO HFR
      exact Or.inl ⟨⟨kind, ⟨#[]⟩, 0, [], [], [em]⟩, n1, _, by rw [Rt.pValued, unhide HS], rfl, hr3, ⟨noOps, noOps, _, [_], rfl, World.ownsRow_nil _ _ _ _, World.ownsRow_nil _ _ _ _, hnew, ⟨((unhide HO).alloc _).alloc _, trivial⟩⟩, (unhide HFR).trans hfr3⟩
  · have HS := hide hs
    have HFR := hide (hfr0.trans hfr1')
    clear hs hr hfr1' hfr0
    go_wp2_with fail
    refine bodyPost_ret (v := .tuple #[.agg zForm, .bool false]) ?_ rfl ?_
    · simp [results, Tryd.results56, go_sem, c0, c1, c2, c3, c4, c5, hz]
    · exact Or.inr ⟨by rw [Rt.pValued, unhide HS], rfl, _, ((unhide HFR).set6 (N := w.heap.size) (Nat.le_refl _) _ _ _ _ _ _).alloc _⟩

end Go.Proofs.YtopeochnoefgcaaDoor

namespace Go.Proofs.YtopeochnoefgcaaDoor
open Go.RowKit


theorem RFr.keep {R : Nat} {ov : Value} {w1 w2 : World} {N : Nat} {o : Obj} (h : RFr R noOps ov w1 w2) (hN : w1.heap[N]? = some o) (hne : N ≠ R) : w2.heap[N]? = some o := by
  have hlt : N < w1.heap.size := by
    by_cases h : N < w1.heap.size
    · exact h
    · rw [Array.getElem?_eq_none (by omega)] at hN; cases hN
  rw [h.block N hlt hne (by simp [Value.ownBlock])]
  exact hN
theorem RFr.keepRow {R : Nat} {ov : Value} {w1 w2 : World} {B : Nat} {e : TypeId} {size : Nat} {v : Value} {n : Nat} {xs : List Value} (h : RFr R noOps ov w1 w2) (hown : w1.ownsRow B e size v n xs) (hB : R < B) : w2.ownsRow B e size v n xs := by
  obtain ⟨h1, h2⟩ := hown
  refine ⟨h1, ?_⟩
  rcases h2 with h2 | ⟨g, cap, cur, hv, hg, hh, r⟩
  · exact Or.inl h2
  · exact Or.inr ⟨g, cap, cur, hv, hg, h.keep hh (by omega), r⟩

theorem number_any (w : World) (R : Nat) (tv : Value) (ts : List Rt.Tk) (n : Nat) (ov : Value) (ops : List Pop) (hr : RdS w R tv ts n ov ops) (hsm : ∀ t ∈ ts, t.text.size ≤ 40000) :
    Calls Tryd.prog 67 #[.pointer (some ⟨R, 0, none⟩)] w fun e w' =>
      (∃ v, Rt.pNumber (ts.drop n) = some (v, ts.drop (n + 1)) ∧ e = .returned (.tuple #[.int .i64 v, .bool true]) ∧ RdS w' R tv ts (n + 1) ov ops ∧ RFr R ov ov w w') ∨
      (Rt.pNumber (ts.drop n) = none ∧ e = .returned (.tuple #[.int .i64 0, .bool false]) ∧ RdS w' R tv ts n ov ops ∧ RFr R ov ov w w') := by
  by_cases hn : n < ts.length
  · by_cases hk : ts[n].kind = 2
    · refine (number_yes w R tv ts n ov ops hr hn hk (by have := hsm _ (List.getElem_mem hn); unfold maxLen; omega)).mono ?_
      rintro e w' ⟨rfl, h3, h4⟩
      exact Or.inl ⟨_, by rw [drop_at hn, Rt.pNumber, if_pos hk], rfl, h3, h4⟩
    · refine (number_no' w R tv ts n ov ops hr hn hk).mono ?_
      rintro e w' ⟨rfl, h3, h4⟩
      exact Or.inr ⟨by rw [drop_at hn, Rt.pNumber, if_neg hk], rfl, h3, h4⟩
  · refine (number_end' w R tv ts n ov ops hr hn).mono ?_
    rintro e w' ⟨rfl, h3, h4⟩
    exact Or.inr ⟨by rw [drop_end hn, Rt.pNumber], rfl, h3, h4⟩

set_option maxHeartbeats 1000000 in
theorem array_any (w : World) (R : Nat) (tv : Value) (ts : List Rt.Tk) (n : Nat) (hr : RdS w R tv ts n noOps []) (hsm : ∀ t ∈ ts, t.text.size ≤ 40000) :
    Calls Tryd.prog 54 #[.pointer (some ⟨R, 0, none⟩)] w (LineP Rt.pArray R tv ts n w) := by
  have hlt : R < w.heap.size := World.block_lt_of_cell? w _ (cell_of_block hr.block 0 (by simp))
  have HSM := hide hsm
  clear hsm
  go_enter Tryd.func54, Tryd.ntmps54
  go_wp2_with fail
  obtain ⟨hr0, hfr0⟩ := hr.later ((Below.refl w.heap.size w).alloc (Nat.le_refl _) (.cells zForm 62))
  have hN0 : (w.alloc (.cells zForm 62)).heap[w.heap.size]? = some (.cells zForm 62 (0, 0)) := heap_alloc_new w _
  refine (name_any _ _ _ _ _ _ _ hr0).mono ?_
  rintro e w1 (⟨nm, hn, hs, rfl, hr1, hfr1⟩ | ⟨hs, rfl, hr1, hfr1⟩)
  · have hN := hfr1.keep hN0 (by omega)
    have HS := hide hs
    have HFR := hide (hfr0.trans hfr1)
    clear hr hr0 hfr0 hfr1 hs hN0
    go_wp2_with fail
    refine (number_any _ _ _ _ _ _ _ hr1 (unhide HSM)).mono ?_
    rintro e w2 (⟨v, hs2, rfl, hr2, hfr2⟩ | ⟨hs2, rfl, hr2, hfr2⟩)
    · obtain ⟨c0, c1, c2, c3, c4, c5, f0, f1, f2, f3, f4, f5⟩ := six (hfr2.keep hN (by omega))
      have HS2 := hide hs2
      have HR := hide hr2
      have HFR2 := hide ((unhide HFR).trans hfr2)
      clear hr1 hr2 hfr2 hs2 HFR hN
      by_cases hv1 : v < 1
      · go_wp2_with fail
        refine bodyPost_ret (v := .tuple #[.agg zForm, .bool false]) ?_ rfl (Or.inr ⟨by rw [Rt.pArray, unhide HS]; simp only; rw [unhide HS2]; simp only; rw [if_pos (Or.inl hv1)], rfl, _, (unhide HFR2).set6 (Nat.le_refl _) _ _ _ _ _ _⟩)
        simp [results, Tryd.results54, go_sem, c0, c1, c2, c3, c4, c5]
      · by_cases hv2 : 32 < v
        · go_wp2_with fail
          refine bodyPost_ret (v := .tuple #[.agg zForm, .bool false]) ?_ rfl (Or.inr ⟨by rw [Rt.pArray, unhide HS]; simp only; rw [unhide HS2]; simp only; rw [if_pos (Or.inr hv2)], rfl, _, (unhide HFR2).set6 (Nat.le_refl _) _ _ _ _ _ _⟩)
          simp [results, Tryd.results54, go_sem, c0, c1, c2, c3, c4, c5]
        · have HE : Hid (Rt.pArray (ts.drop n) = some (⟨2, nm, v, [], [], []⟩, ts.drop (n + 1 + 1))) := by
            refine hide ?_
            rw [Rt.pArray, unhide HS]
            simp only
            rw [unhide HS2]
            simp only
            rw [if_neg (by omega)]
          go_wp2_with fail
          refine bodyPost_ret (v := .tuple #[.agg #[.int .i64 2, .string nm, .int .i64 v, noOps, noOps, noOps], .bool true]) ?_ rfl
            (Or.inl ⟨_, _, _, unhide HE, rfl, (unhide HR).set6 hlt _ _ _ _ _ _, FormV_plain _ _ _ _ _, (unhide HFR2).set6 (Nat.le_refl _) _ _ _ _ _ _⟩)
          simp [results, Tryd.results54, go_sem, c0, c1, c2, c3, c4, c5]
    · obtain ⟨c0, c1, c2, c3, c4, c5, f0, f1, f2, f3, f4, f5⟩ := six (hfr2.keep hN (by omega))
      have HS2 := hide hs2
      have HFR2 := hide ((unhide HFR).trans hfr2)
      clear hr1 hr2 hfr2 hs2 HFR hN
      go_wp2_with fail
      refine bodyPost_ret (v := .tuple #[.agg zForm, .bool false]) ?_ rfl (Or.inr ⟨by rw [Rt.pArray, unhide HS]; simp only; rw [unhide HS2], rfl, _, (unhide HFR2).set6 (Nat.le_refl _) _ _ _ _ _ _⟩)
      simp [results, Tryd.results54, go_sem, c0, c1, c2, c3, c4, c5]
  · obtain ⟨c0, c1, c2, c3, c4, c5, f0, f1, f2, f3, f4, f5⟩ := six (hfr1.keep hN0 (by omega))
    have HS := hide hs
    have HFR := hide (hfr0.trans hfr1)
    clear hr hr0 hfr0 hfr1 hs hN0
    go_wp2_with fail
    refine bodyPost_ret (v := .tuple #[.agg zForm, .bool false]) ?_ rfl (Or.inr ⟨by rw [Rt.pArray, unhide HS], rfl, _, (unhide HFR).set6 (Nat.le_refl _) _ _ _ _ _ _⟩)
    simp [results, Tryd.results54, go_sem, c0, c1, c2, c3, c4, c5]

end Go.Proofs.YtopeochnoefgcaaDoor

namespace Go.Proofs.YtopeochnoefgcaaDoor
open Go.RowKit

theorem RdS.kept {w w1 : World} {R : Nat} {tv : Value} {ts : List Rt.Tk} {n : Nat} (hr : RdS w R tv ts n noOps []) (h : ∀ k, k ≤ R → w1.heap[k]? = w.heap[k]?) : RdS w1 R tv ts n noOps [] := by
  refine ⟨hr.le, hr.few, hr.fewOps, by rw [h R (Nat.le_refl _)]; exact hr.block, ?_, World.ownsRow_nil _ _ _ _⟩
  obtain ⟨b, cap, rfl, hbR, hc⟩ := hr.toks
  have hc' : ∀ j, w1.cell? ⟨b, j, none⟩ = w.cell? ⟨b, j, none⟩ := fun j => World.cell?_of_block (w := w) (h b (by omega))
  exact ⟨b, cap, rfl, hbR, fun i h => ⟨by rw [hc']; exact (hc i h).1, by rw [hc']; exact (hc i h).2⟩⟩

/-- Behind an append to a row of the call's own. -/
theorem RFr.grown {R : Nat} {a b : Value} {w wr w1 : World} {o : Obj} {row : Option Nat} (h : RFr R a b w wr) (hg : (wr.alloc o).grownBy w1 row) (hr : ∀ k, row = some k → w.heap.size ≤ k) : RFr R a b w w1 :=
  ⟨hg.os.trans h.os, hg.tape.trans h.tape, hg.output.trans h.output, by have := hg.size; have := h.size; simp at *; omega,
    fun k hk h1 h2 => ((hg.block k (by have := h.size; simp; omega) (fun e => by have := hr k e.symm; omega)).trans (Below.heap_alloc wr o k (Nat.lt_of_lt_of_le hk h.size))).trans (h.block k hk h1 h2), h.own⟩
theorem grown_low {wr w1 : World} {o : Obj} {row : Option Nat} {R : Nat} (hg : (wr.alloc o).grownBy w1 row) (hR : R < wr.heap.size) (hr : ∀ k, row = some k → R < k) : ∀ k, k ≤ R → w1.heap[k]? = wr.heap[k]? := fun k hk => by
  rw [hg.block k (by simp; omega) (fun e => by have := hr k e.symm; omega), Below.heap_alloc wr o k (by omega)]

theorem more' (w : World) (R : Nat) (tv : Value) (ts : List Rt.Tk) (n : Nat) (ov : Value) (ops : List Pop) (hr : RdS w R tv ts n ov ops) :
    Calls Tryd.prog 40 #[.pointer (some ⟨R, 0, none⟩)] w fun e w' => e = .returned (.bool (decide (n < ts.length))) ∧ RdS w' R tv ts n ov ops ∧ RFr R ov ov w w' :=
  (more_any w R tv ts n ov ops hr).mono (by rintro e w' ⟨rfl, q, rfl⟩; exact ⟨rfl, hr.quiet q⟩)

theorem set_other {w : World} {M N : Nat} {o : Obj} (h : w.heap[N]? = some o) (hne : N ≠ M) (i : Nat) (v : Value) : (w.setCell ⟨M, i, none⟩ v).heap[N]? = some o := by
  rw [Below.heap_setCell w ⟨M, i, none⟩ v N hne]
  exact h

theorem setIf6_3 (a b c d e f x : Value) : (#[a, b, c, d, e, f].setIfInBounds 3 x) = #[a, b, c, x, e, f] := rfl

theorem params_step {ts : List Rt.Tk} {n2 : Nat} {acc : List ByteArray} {nm2 : ByteArray} (hn : n2 < ts.length) (h : Rt.pName (ts.drop n2) = some (nm2, ts.drop (n2 + 1))) (hl : acc.length < 4) :
    Rt.pParams acc (ts.drop n2) = Rt.pParams (acc ++ [nm2]) (ts.drop (n2 + 1)) := by
  rw [drop_at hn, Rt.pName] at h
  rw [drop_at hn, Rt.pParams]
  split at h
  · next hk =>
    rw [if_pos ⟨hk, hl⟩]
    simp at h
    rw [h]
  · cases h
theorem params_full {ts : List Rt.Tk} {n2 : Nat} {acc : List ByteArray} (hn : n2 < ts.length) (hl : 4 ≤ acc.length) : Rt.pParams acc (ts.drop n2) = none := by
  rw [drop_at hn, Rt.pParams, if_neg (by omega)]
theorem params_bad {ts : List Rt.Tk} {n2 : Nat} {acc : List ByteArray} (hn : n2 < ts.length) (h : Rt.pName (ts.drop n2) = none) : Rt.pParams acc (ts.drop n2) = none := by
  rw [drop_at hn, Rt.pName] at h
  rw [drop_at hn, Rt.pParams]
  split at h
  · cases h
  · next hk => rw [if_neg (fun x => hk x.1)]
theorem proc_none {rem r : List Rt.Tk} {nm : ByteArray} (h : Rt.pName rem = some (nm, r)) (hp : Rt.pParams [] r = none) : Rt.pProc rem = none := by
  rw [Rt.pProc, h]; simp only; rw [hp]
theorem proc_some {rem r : List Rt.Tk} {nm : ByteArray} {ps : List ByteArray} (h : Rt.pName rem = some (nm, r)) (hp : Rt.pParams [] r = some ps) : Rt.pProc rem = some (⟨3, nm, 0, ps, [], []⟩, []) := by
  rw [Rt.pProc, h]; simp only; rw [hp]

set_option maxHeartbeats 2000000 in
set_option maxRecDepth 100000 in
theorem procedure_any (w : World) (R : Nat) (tv : Value) (ts : List Rt.Tk) (n : Nat) (hr : RdS w R tv ts n noOps []) :
    Calls Tryd.prog 55 #[.pointer (some ⟨R, 0, none⟩)] w (LineP Rt.pProc R tv ts n w) := by
  have hlt : R < w.heap.size := World.block_lt_of_cell? w _ (cell_of_block hr.block 0 (by simp))
  obtain ⟨i0, hi, hz0, hz1, hz2⟩ := info_parts Tryd.infoStr
  go_enter Tryd.func55, Tryd.ntmps55
  go_wp2_with fail
  obtain ⟨hr0, hfr0⟩ := hr.later ((Below.refl w.heap.size w).alloc (Nat.le_refl _) (.cells zForm 62))
  have hN0 : (w.alloc (.cells zForm 62)).heap[w.heap.size]? = some (.cells zForm 62 (0, 0)) := heap_alloc_new w _
  refine (name_any _ _ _ _ _ _ _ hr0).mono ?_
  rintro e w1 (⟨nm, hn, hs, rfl, hr1, hfr1⟩ | ⟨hs, rfl, hr1, hfr1⟩)
  · have hN := hfr1.keep hN0 (by omega)
    have hNlt := block_lt hN
    have hfrA := hfr0.trans hfr1
    have HS := hide hs
    have hst : RdS (w1.alloc (.cells #[.int .i64 3, .string nm, .int .i64 0, noOps, noOps, noOps] 62)) R tv ts (n + 1) noOps [] := (hr1.later ((Below.refl w1.heap.size w1).alloc (Nat.le_refl _) _)).1
    have hfrB := hfrA.alloc (.cells #[.int .i64 3, .string nm, .int .i64 0, noOps, noOps, noOps] 62)
    have hNB := block_alloc hN (.cells #[.int .i64 3, .string nm, .int .i64 0, noOps, noOps, noOps] 62)
    have hMB := heap_alloc_new w1 (.cells #[.int .i64 3, .string nm, .int .i64 0, noOps, noOps, noOps] 62)
    clear hr hr0 hfr0 hfr1 hs hN0 hfrA hN hr1
    go_wp2_with fail
    go_loopg [7, 8] (ts.length - (n + 1)) (fun k _ _ wr => ∃ (n2 : Nat) (pv : Value) (acc : List ByteArray), k = ts.length - n2 ∧ n + 1 ≤ n2 ∧ acc.length ≤ 4 ∧ Rt.pParams acc (ts.drop n2) = Rt.pParams [] (ts.drop (n + 1)) ∧
      RdS wr R tv ts n2 noOps [] ∧ RFr R noOps noOps w wr ∧ wr.heap[w.heap.size]? = some (.cells zForm 62 (0, 0)) ∧
      wr.heap[w1.heap.size]? = some (.cells #[.int .i64 3, .string nm, .int .i64 0, pv, noOps, noOps] 62 (0, 0)) ∧ wr.ownsRow (w1.heap.size + 1) 9 1 pv acc.length (acc.map Value.string))
    case atStart => exact ⟨n + 1, noOps, [], rfl, Nat.le_refl _, by simp, rfl, hst, hfrB, hNB, hMB, World.ownsRow_nil _ _ _ _⟩
    case round =>
      clear hst hfrB hNB hMB
      obtain ⟨n2, pv, acc, hk, hn2, hacc, hT, hr2, hfr2, hN2, hM2, hown⟩ := hrel
      have HK := hide hk
      have HT := hide hT
      clear hk hT
      obtain ⟨ad, cap, rfl⟩ := ownsRow_form hown
      go_wp2_with fail
      refine (more' _ _ _ _ _ _ _ hr2).mono ?_
      rintro e w3 ⟨rfl, hr3, hfr3⟩
      have hN3 := hfr3.keep hN2 (by omega)
      have hM3 := hfr3.keep hM2 (by omega)
      have hown3 := hfr3.keepRow hown (by omega)
      have hfrC := hfr2.trans hfr3
      clear hr2 hfr2 hN2 hM2 hown hfr3
      by_cases hn3 : n2 < ts.length
      · have hd : decide (n2 < ts.length) = true := by simpa using hn3
        rw [hd]
        go_wp2_with fail
        refine (name_any _ _ _ _ _ _ _ hr3).mono ?_
        rintro e w4 (⟨nm2, hn4, hs4, rfl, hr4, hfr4⟩ | ⟨hs4, rfl, hr4, hfr4⟩)
        · have hN4 := hfr4.keep hN3 (by omega)
          have hM4 := hfr4.keep hM3 (by omega)
          have hown4 := hfr4.keepRow hown3 (by omega)
          have hfrD := hfrC.trans hfr4
          have HS4 := hide hs4
          clear hr3 hN3 hM3 hown3 hfrC hfr4 hs4
          by_cases hfull : 4 ≤ acc.length
          · obtain ⟨c0, c1, c2, c3, c4, c5, f0, f1, f2, f3, f4, f5⟩ := six hN4
            have ⟨_, _, _, d3, _, _, _, _, _, _, _, _⟩ := six hM4
            have HFR := hide hfrD
            have HE := hide (proc_none (unhide HS) ((unhide HT).symm.trans (params_full hn3 hfull)))
            have hfull' : (4 : Int) ≤ (acc.length : Int) := by omega
            clear hN4 hM4 hr4 hfrD
            go_wp2_with fail
            refine bodyPost_ret (v := .tuple #[.agg zForm, .bool false]) ?_ rfl (Or.inr ⟨unhide HE, rfl, _, (unhide HFR).set6 (Nat.le_refl _) _ _ _ _ _ _⟩)
            simp [results, Tryd.results55, go_sem, c0, c1, c2, c3, c4, c5]
          · have hfull' : ¬ (4 : Int) ≤ (acc.length : Int) := by omega
            have HT2 := hide ((params_step hn3 (unhide HS4) (by omega)).symm.trans (unhide HT))
            have ⟨_, _, _, d3, _, _, _, _, _, g3, _, _⟩ := six hM4
            have hMlt := block_lt hM4
            have hRlt : R < w4.heap.size := by omega
            go_wp2_with (at_builtin; refine wpList_append_own _ rfl (.tmp 36) (.tmp 38) 37 rfl (w1.heap.size + 1) 9 i0 _ 1 16 Tryd.underlying37 hi hz0 hz1 hz2 rfl (by decide) _ _ _ rfl (hown4.alloc _) ⟨_, 0, none⟩ 1 1 [.string nm2] rfl rfl (cell_one_new _ _ _) ?c2 ?c3 ?c4 ?c5 ?_)
            case c2 => intro u hu; simp at hu; rcases hu with rfl; rfl
            case c3 => unfold maxLen; omega
            case c4 => omega
            case c5 => simp; omega
            intro v' w5 hown5 hgrow _
            have hrow : ∀ k, (Value.slice ad acc.length cap).ownBlock = some k → w1.heap.size < k := fun k hk => by have := (hown4.lt k hk).1; omega
            have hM5 := grown_keep hgrow hM4 (fun h => by have := hrow _ h; omega)
            have hN5 := grown_keep hgrow hN4 (fun h => by have := hrow _ h; omega)
            have hr5 := hr4.kept (grown_low hgrow hRlt (fun k hk => by have := hrow k hk; omega))
            have hfr5 := hfrD.grown hgrow (fun k hk => by have := hrow k hk; omega)
            obtain ⟨ad5, cap5, rfl⟩ := ownsRow_form hown5
            have ⟨_, _, _, e3, _, _, _, _, _, k3, _, _⟩ := six hM5
            have hM6 := set_block hM5 3 (Value.slice ad5 (acc.length + 1) cap5)
            rw [setIf6_3] at hM6
            have hN6 := set_other hN5 (M := w1.heap.size) (by omega) 3 (Value.slice ad5 (acc.length + 1) cap5)
            have hr6 := hr5.setOther (N := w1.heap.size) (i := 3) (by omega) (by intro g h; cases h) (Value.slice ad5 (acc.length + 1) cap5)
            have hfr6 := hfr5.setNew (N := w1.heap.size) (i := 3) (by omega) (Value.slice ad5 (acc.length + 1) cap5)
            have hown6 := ownsRow_setCell_ne hown5 (a := ⟨w1.heap.size, 3, none⟩) (fun g hg => by have := (hown5.lt g hg).1; show g ≠ w1.heap.size; omega) (Value.slice ad5 (acc.length + 1) cap5)
            have HH := hide (And.intro hM6 (And.intro hN6 (And.intro hr6 (And.intro hfr6 hown6))))
            clear hM6 hN6 hr6 hfr6 hown6 hM5 hN5 hr5 hfr5 hown5 hgrow hr4 hfrD hM4 hN4 hown4 hrow
            go_wp2_with fail
            go_roundg (ts.length - (n2 + 1))
            case measure => have := unhide HK; omega
            case rel =>
              obtain ⟨hM6, hN6, hr6, hfr6, hown6⟩ := unhide HH
              exact ⟨n2 + 1, _, acc ++ [nm2], rfl, by omega, by simp; omega, unhide HT2, hr6, hfr6, hN6, hM6, by simpa using hown6⟩
        · have hN4 := hfr4.keep hN3 (by omega)
          obtain ⟨c0, c1, c2, c3, c4, c5, f0, f1, f2, f3, f4, f5⟩ := six hN4
          have HFR := hide (hfrC.trans hfr4)
          have HE := hide (proc_none (unhide HS) ((unhide HT).symm.trans (params_bad hn3 hs4)))
          clear hr3 hr4 hN3 hM3 hown3 hfrC hfr4 hs4 hN4
          go_wp2_with fail
          refine bodyPost_ret (v := .tuple #[.agg zForm, .bool false]) ?_ rfl (Or.inr ⟨unhide HE, rfl, _, (unhide HFR).set6 (Nat.le_refl _) _ _ _ _ _ _⟩)
          simp [results, Tryd.results55, go_sem, c0, c1, c2, c3, c4, c5]
      · have hd : decide (n2 < ts.length) = false := by simpa using hn3
        rw [hd]
        have HE : Hid (Rt.pProc (ts.drop n) = some (⟨3, nm, 0, acc, [], []⟩, ts.drop n2)) := by
          refine hide ?_
          have h := unhide HT
          rw [drop_end hn3, Rt.pParams] at h
          rw [proc_some (unhide HS) h.symm, drop_end hn3]
        obtain ⟨c0, c1, c2, c3, c4, c5, f0, f1, f2, f3, f4, f5⟩ := six hN3
        have ⟨d0, d1, d2, d3, d4, d5, _, _, _, _, _, _⟩ := six hM3
        have HR := hide hr3
        have HFR := hide hfrC
        have HO := hide (ownsRow_mono (b' := w.heap.size) (own_set6 (N := w.heap.size) hown3 (fun g hg => by have := (hown3.lt g hg).1; omega) (.int .i64 3) (.string nm) (.int .i64 0) (.slice ad acc.length cap) noOps noOps) (by omega))
        clear hr3 hN3 hM3 hown3 hfrC
        go_wp2_with fail
        refine bodyPost_ret (v := .tuple #[.agg #[.int .i64 3, .string nm, .int .i64 0, .slice ad acc.length cap, noOps, noOps], .bool true]) ?_ rfl
          (Or.inl ⟨⟨3, nm, 0, acc, [], []⟩, n2, _, unhide HE, rfl, (unhide HR).set6 hlt _ _ _ _ _ _, ⟨_, noOps, noOps, [], rfl, unhide HO, World.ownsRow_nil _ _ _ _, World.ownsRow_nil _ _ _ _, trivial⟩, (unhide HFR).set6 (Nat.le_refl _) _ _ _ _ _ _⟩)
        simp [results, Tryd.results55, go_sem, c0, c1, c2, c3, c4, c5]
  · obtain ⟨c0, c1, c2, c3, c4, c5, f0, f1, f2, f3, f4, f5⟩ := six (hfr1.keep hN0 (by omega))
    have HS := hide hs
    have HFR := hide (hfr0.trans hfr1)
    clear hr hr0 hfr0 hfr1 hs hN0
    go_wp2_with fail
    refine bodyPost_ret (v := .tuple #[.agg zForm, .bool false]) ?_ rfl (Or.inr ⟨by rw [Rt.pProc, unhide HS], rfl, _, (unhide HFR).set6 (Nat.le_refl _) _ _ _ _ _ _⟩)
    simp [results, Tryd.results55, go_sem, c0, c1, c2, c3, c4, c5]

end Go.Proofs.YtopeochnoefgcaaDoor

namespace Go.Proofs.YtopeochnoefgcaaDoor
open Go.RowKit


theorem take_any (w : World) (R : Nat) (tv : Value) (ts : List Rt.Tk) (n : Nat) (ov : Value) (ops : List Pop) (x : ByteArray) (hr : RdS w R tv ts n ov ops) :
    Calls Tryd.prog 69 #[.pointer (some ⟨R, 0, none⟩), .string x] w fun e w' =>
      (Rt.pTake x (ts.drop n) = some (ts.drop (n + 1)) ∧ e = .returned (.bool true) ∧ RdS w' R tv ts (n + 1) ov ops ∧ RFr R ov ov w w') ∨
      (Rt.pTake x (ts.drop n) = none ∧ e = .returned (.bool false) ∧ RdS w' R tv ts n ov ops ∧ RFr R ov ov w w') := by
  by_cases hn : n < ts.length
  · by_cases hk : ts[n].text = x
    · refine (take_yes w R tv ts n ov ops x hr hn hk).mono ?_
      rintro e w' ⟨rfl, h3, h4⟩
      exact Or.inl ⟨by rw [drop_at hn, Rt.pTake, if_pos hk], rfl, h3, h4⟩
    · refine (take_no' w R tv ts n ov ops x hr hn hk).mono ?_
      rintro e w' ⟨rfl, h3, h4⟩
      exact Or.inr ⟨by rw [drop_at hn, Rt.pTake, if_neg hk], rfl, h3, h4⟩
  · refine (take_end' w R tv ts n ov ops x hr hn).mono ?_
    rintro e w' ⟨rfl, h3, h4⟩
    exact Or.inr ⟨by rw [drop_end hn, Rt.pTake], rfl, h3, h4⟩

theorem setIf6_0 (a b c d e f x : Value) : (#[a, b, c, d, e, f].setIfInBounds 0 x) = #[x, b, c, d, e, f] := rfl
theorem setIf6_4 (a b c d e f x : Value) : (#[a, b, c, d, e, f].setIfInBounds 4 x) = #[a, b, c, d, x, f] := rfl

set_option maxHeartbeats 4000000 in
set_option maxRecDepth 100000 in
theorem set_any (w : World) (R : Nat) (tv : Value) (ts : List Rt.Tk) (n : Nat) (hr : RdS w R tv ts n noOps []) (hsm : ∀ t ∈ ts, t.text.size ≤ 40000) :
    Calls Tryd.prog 57 #[.pointer (some ⟨R, 0, none⟩)] w (LineP Rt.pSet R tv ts n w) := by
  have hlt : R < w.heap.size := World.block_lt_of_cell? w _ (cell_of_block hr.block 0 (by simp))
  have HSM := hide hsm
  clear hsm
  go_enter Tryd.func57, Tryd.ntmps57
  go_wp2_with fail
  obtain ⟨hr0, hfr0⟩ := hr.later ((Below.refl w.heap.size w).alloc (Nat.le_refl _) (.cells zForm 62))
  have hN0 : (w.alloc (.cells zForm 62)).heap[w.heap.size]? = some (.cells zForm 62 (0, 0)) := heap_alloc_new w _
  refine (name_any _ _ _ _ _ _ _ hr0).mono ?_
  rintro e w1 (⟨nm, hn, hs, rfl, hr1, hfr1⟩ | ⟨hs, rfl, hr1, hfr1⟩)
  · have hN := hfr1.keep hN0 (by omega)
    have hNlt := block_lt hN
    have hfrA := hfr0.trans hfr1
    have HS := hide hs
    have hrB := (hr1.later ((Below.refl w1.heap.size w1).alloc (Nat.le_refl _) (.cells #[.int .i64 8, .string nm, .int .i64 0, noOps, noOps, noOps] 62))).1
    have hfrB := hfrA.alloc (.cells #[.int .i64 8, .string nm, .int .i64 0, noOps, noOps, noOps] 62)
    have hNB := block_alloc hN (.cells #[.int .i64 8, .string nm, .int .i64 0, noOps, noOps, noOps] 62)
    have hMB := heap_alloc_new w1 (.cells #[.int .i64 8, .string nm, .int .i64 0, noOps, noOps, noOps] 62)
    clear hr hr0 hfr0 hfr1 hs hN0 hfrA hN hr1
    go_wp2_with fail
    refine (take_any _ _ _ _ _ _ _ _ hrB).mono ?_
    rintro e w2 (⟨hs2, rfl, hr2, hfr2⟩ | ⟨hs2, rfl, hr2, hfr2⟩)
    · have hN2 := hfr2.keep hNB (by omega)
      have hM2 := hfr2.keep hMB (by omega)
      have hfrC := hfrB.trans hfr2
      have HS2 := hide hs2
      clear hs2 hfr2 hfrB hNB hMB hrB
      go_wp2_with fail
      refine (expression_any _ _ _ _ _ hr2 (unhide HSM)).mono ?_
      rintro e w3 (⟨ix, n3, iv, hs3, rfl, hn3, hix, hr3, hiv, hfr3⟩ | ⟨hs3, rfl, ov3, hfr3⟩)
      · obtain ⟨adi, capi, rfl⟩ := ownsRow_form hiv
        have hM2lt := block_lt hM2
        have hN3 := block_alloc (hfr3.keep hN2 (by omega)) (.cells #[.slice adi ix.length capi] 59)
        have hM3 := block_alloc (hfr3.keep hM2 (by omega)) (.cells #[.slice adi ix.length capi] 59)
        have hE3 := heap_alloc_new w3 (.cells #[.slice adi ix.length capi] 59)
        have hrD := (hr3.later ((Below.refl w3.heap.size w3).alloc (Nat.le_refl _) (.cells #[.slice adi ix.length capi] 59))).1
        have hfrD := (hfrC.trans hfr3).alloc (.cells #[.slice adi ix.length capi] 59)
        have hivD := (ownsRow_mono (b' := w1.heap.size + 1) hiv (by omega)).alloc (.cells #[.slice adi ix.length capi] 59)
        have hM3lt := block_lt (hfr3.keep hM2 (by omega))
        have HS3 := hide hs3
        clear hs3 hfr3 hr3 hiv hN2 hM2 hfrC hr2
        go_wp2_with fail
        refine (take_any _ _ _ _ _ _ _ _ hrD).mono ?_
        rintro e w4 (⟨hs4, rfl, hr4, hfr4⟩ | ⟨hs4, rfl, hr4, hfr4⟩)
        · have hN4 := hfr4.keep hN3 (by omega)
          have hM4 := hfr4.keep hM3 (by omega)
          have hE4 := hfr4.keep hE3 (by omega)
          have hiv4 := hfr4.keepRow hivD (by omega)
          have hfrE := hfrD.trans hfr4
          have HS4 := hide hs4
          have ⟨d0, d1, d2, d3, d4, d5, g0, g1, g2, g3, g4, g5⟩ := six hM4
          have x0 := cell_of_block hE4 0 (by simp)
          simp at x0
          have hMf := set_block (set_block hM4 0 (.int .i64 9)) 4 (.slice adi ix.length capi)
          rw [setIf6_0, setIf6_4] at hMf
          have hNf := set_other (set_other hN4 (M := w1.heap.size) (by omega) 0 (.int .i64 9)) (M := w1.heap.size) (by omega) 4 (.slice adi ix.length capi)
          have hrf := (hr4.setOther (N := w1.heap.size) (i := 0) (by omega) (by intro g h; cases h) (.int .i64 9)).setOther (N := w1.heap.size) (i := 4) (by omega) (by intro g h; cases h) (.slice adi ix.length capi)
          have hfrf := (hfrE.setNew (N := w1.heap.size) (i := 0) (by omega) (.int .i64 9)).setNew (N := w1.heap.size) (i := 4) (by omega) (.slice adi ix.length capi)
          have hivf := ownsRow_setCell_ne (ownsRow_setCell_ne hiv4 (a := ⟨w1.heap.size, 0, none⟩) (fun g hg => by have := (hiv4.lt g hg).1; show g ≠ w1.heap.size; omega) (.int .i64 9)) (a := ⟨w1.heap.size, 4, none⟩) (fun g hg => by have := (hiv4.lt g hg).1; show g ≠ w1.heap.size; omega) (.slice adi ix.length capi)
          clear hs4 hfr4 hr4 hN4 hM4 hE4 hiv4 hfrE hN3 hM3 hE3 hrD hfrD hivD
          go_wp2_with fail
          refine (take_any _ _ _ _ _ _ _ _ hrf).mono ?_
          rintro e w5 (⟨hs5, rfl, hr5, hfr5⟩ | ⟨hs5, rfl, hr5, hfr5⟩)
          · have hN5 := hfr5.keep hNf (by omega)
            have hM5 := hfr5.keep hMf (by omega)
            have hiv5 := hfr5.keepRow hivf (by omega)
            have hfrE := hfrf.trans hfr5
            have HS5 := hide hs5
            clear hs5 hfr5 hrf hNf hMf hivf hfrf
            go_wp2_with fail
            refine (expression_any _ _ _ _ _ hr5 (unhide HSM)).mono ?_
            rintro e w6 (⟨em, n6, xv, hs6, rfl, hn6, hem, hr6, hxv, hfr6⟩ | ⟨hs6, rfl, ov6, hfr6⟩)
            · obtain ⟨adx, capx, rfl⟩ := ownsRow_form hxv
              have hN6 := hfr6.keep hN5 (by omega)
              have hM6 := hfr6.keep hM5 (by omega)
              have hiv6 := hfr6.keepRow hiv5 (by omega)
              have hfrF := hfrE.trans hfr6
              have HE := hide (Rt.set_b (unhide HS) (unhide HS2) (unhide HS3) (unhide HS4) (Rt.to_ok (unhide HS5) hs6))
              have hM6lt := block_lt hM6
              have hxg : ∀ g, (Value.slice adx em.length capx).ownBlock = some g → w5.heap.size ≤ g := fun g hg => (hxv.lt g hg).1
              have hM5lt := block_lt hM5
              obtain ⟨c0, c1, c2, c3, c4, c5, f0, f1, f2, f3, f4, f5⟩ := six hN6
              have ⟨d0, d1, d2, d3, d4, d5, _, _, _, _, _, g5⟩ := six hM6
              have hne : ¬ w1.heap.size = w.heap.size := by omega
              have hz : w.heap.size < w6.heap.size := by omega
              have a1 := (hr6.setOther (N := w1.heap.size) (i := 5) (by omega) (by intro g h; cases h) (Value.slice (some ⟨w6.heap.size + 1, 0, none⟩) 1 1)).set6 hlt (.int .i64 9) (.string nm) (.int .i64 0) noOps (Value.slice adi ix.length capi) (Value.slice (some ⟨w6.heap.size + 1, 0, none⟩) 1 1)
              have a2 := (hfrF.setNew (N := w1.heap.size) (i := 5) (by omega) (Value.slice (some ⟨w6.heap.size + 1, 0, none⟩) 1 1)).set6 (N := w.heap.size) (Nat.le_refl _) (.int .i64 9) (.string nm) (.int .i64 0) noOps (Value.slice adi ix.length capi) (Value.slice (some ⟨w6.heap.size + 1, 0, none⟩) 1 1)
              have a3 := ownsRow_mono (b' := w.heap.size) (own_set6 (N := w.heap.size) (ownsRow_setCell_ne hxv (a := ⟨w1.heap.size, 5, none⟩) (fun g hg => by have := hxg g hg; show g ≠ w1.heap.size; omega) (Value.slice (some ⟨w6.heap.size + 1, 0, none⟩) 1 1)) (fun g hg => by have := hxg g hg; omega) (.int .i64 9) (.string nm) (.int .i64 0) noOps (Value.slice adi ix.length capi) (Value.slice (some ⟨w6.heap.size + 1, 0, none⟩) 1 1)) (by omega)
              have a4 := ownsRow_mono (b' := w.heap.size) (own_set6 (N := w.heap.size) (ownsRow_setCell_ne hiv6 (a := ⟨w1.heap.size, 5, none⟩) (fun g hg => by have := (hiv6.lt g hg).1; show g ≠ w1.heap.size; omega) (Value.slice (some ⟨w6.heap.size + 1, 0, none⟩) 1 1)) (fun g hg => by have := (hiv6.lt g hg).1; omega) (.int .i64 9) (.string nm) (.int .i64 0) noOps (Value.slice adi ix.length capi) (Value.slice (some ⟨w6.heap.size + 1, 0, none⟩) 1 1)) (by omega)
              have HH := hide (And.intro a1 (And.intro a2 (And.intro a3 a4)))
              clear a1 a2 a3 a4 hr6 hfrF hxv hiv6 hN6 hM6 hfrE hfr6 hN5 hM5 hiv5 hr5 hs6 hxg
              go_wp2_with fail
              refine bodyPost_ret (v := .tuple #[.agg #[.int .i64 9, .string nm, .int .i64 0, noOps, Value.slice adi ix.length capi, .slice (some ⟨w6.heap.size + 1, 0, none⟩) 1 1], .bool true]) ?_ rfl ?_
              · simp [results, Tryd.results57, go_sem, c0, c1, c2, c3, c4, c5, hz]
              · obtain ⟨a1, a2, a3, a4⟩ := unhide HH
                have hszA := size_W6 (w6.setCell ⟨w1.heap.size, 5, none⟩ (Value.slice (some ⟨w6.heap.size + 1, 0, none⟩) 1 1)) w.heap.size (.int .i64 9) (.string nm) (.int .i64 0) noOps (Value.slice adi ix.length capi) (Value.slice (some ⟨w6.heap.size + 1, 0, none⟩) 1 1)
                have hszB : (w6.setCell ⟨w1.heap.size, 5, none⟩ (Value.slice (some ⟨w6.heap.size + 1, 0, none⟩) 1 1)).heap.size = w6.heap.size := by simp [World.setCell]
                generalize hwA : W6 (w6.setCell ⟨w1.heap.size, 5, none⟩ (Value.slice (some ⟨w6.heap.size + 1, 0, none⟩) 1 1)) w.heap.size (.int .i64 9) (.string nm) (.int .i64 0) noOps (Value.slice adi ix.length capi) (Value.slice (some ⟨w6.heap.size + 1, 0, none⟩) 1 1) = wA at a1 a2 a3 a4 hszA
                obtain ⟨b1, b2⟩ := a1.later (((Below.refl wA.heap.size wA).alloc (Nat.le_refl _) (.cells #[.slice adx em.length capx] 59)).alloc (by simp) (.cells #[.slice adx em.length capx] 59))
                have hnew := ownsRow_new (wA.alloc (.cells #[.slice adx em.length capx] 59)) w.heap.size 59 (.slice adx em.length capx) (by simp; omega)
                have hszC : (wA.alloc (.cells #[.slice adx em.length capx] 59)).heap.size = w6.heap.size + 1 := by simp [hszA, hszB]
                rw [hszC] at hnew
                skip
                rw [← hwA] at b1 b2 hnew a2 a3 a4
                exact Or.inl ⟨⟨9, nm, 0, [], ix, [em]⟩, n6, _, unhide HE, rfl, b1, ⟨noOps, Value.slice adi ix.length capi, _, [_], rfl, World.ownsRow_nil _ _ _ _, (a4.alloc _).alloc _, hnew, ⟨(a3.alloc _).alloc _, trivial⟩⟩, a2.trans b2⟩
            · have hN6 := hfr6.keep hN5 (by omega)
              have HE := hide (Rt.set_b (unhide HS) (unhide HS2) (unhide HS3) (unhide HS4) (Rt.to_no (unhide HS5) hs6))
              have HFR := hide (hfrE.trans hfr6)
              obtain ⟨c0, c1, c2, c3, c4, c5, f0, f1, f2, f3, f4, f5⟩ := six hN6
              have hz := block_lt hN6
              clear hN6 hN5 hM5 hiv5 hr5 hfrE hfr6 hs6
              go_wp2_with fail
              refine bodyPost_ret (v := .tuple #[.agg zForm, .bool false]) ?_ rfl (Or.inr ⟨unhide HE, rfl, _, ((unhide HFR).set6 (N := w.heap.size) (Nat.le_refl _) _ _ _ _ _ _).alloc _⟩)
              simp [results, Tryd.results57, go_sem, c0, c1, c2, c3, c4, c5, hz]
          · have hN5 := hfr5.keep hNf (by omega)
            have HE := hide (Rt.set_b (unhide HS) (unhide HS2) (unhide HS3) (unhide HS4) (Rt.to_none hs5))
            have HFR := hide (hfrf.trans hfr5)
            obtain ⟨c0, c1, c2, c3, c4, c5, f0, f1, f2, f3, f4, f5⟩ := six hN5
            clear hN5 hr5 hfr5 hs5 hrf hNf hMf hivf hfrf
            go_wp2_with fail
            refine bodyPost_ret (v := .tuple #[.agg zForm, .bool false]) ?_ rfl (Or.inr ⟨unhide HE, rfl, _, (unhide HFR).set6 (Nat.le_refl _) _ _ _ _ _ _⟩)
            simp [results, Tryd.results57, go_sem, c0, c1, c2, c3, c4, c5]
        · have hN4 := hfr4.keep hN3 (by omega)
          have HE := hide (Rt.set_c (unhide HS) (unhide HS2) (unhide HS3) hs4)
          have HFR := hide (hfrD.trans hfr4)
          obtain ⟨c0, c1, c2, c3, c4, c5, f0, f1, f2, f3, f4, f5⟩ := six hN4
          clear hN4 hr4 hfr4 hs4 hN3 hM3 hE3 hrD hfrD hivD
          go_wp2_with fail
          refine bodyPost_ret (v := .tuple #[.agg zForm, .bool false]) ?_ rfl (Or.inr ⟨unhide HE, rfl, _, (unhide HFR).set6 (Nat.le_refl _) _ _ _ _ _ _⟩)
          simp [results, Tryd.results57, go_sem, c0, c1, c2, c3, c4, c5]
      · have hN3 := hfr3.keep hN2 (by omega)
        have HE := hide (Rt.set_d (unhide HS) (unhide HS2) hs3)
        have HFR := hide (hfrC.trans hfr3)
        obtain ⟨c0, c1, c2, c3, c4, c5, f0, f1, f2, f3, f4, f5⟩ := six hN3
        have hz := block_lt hN3
        clear hN3 hfr3 hs3 hN2 hM2 hfrC hr2
        go_wp2_with fail
        refine bodyPost_ret (v := .tuple #[.agg zForm, .bool false]) ?_ rfl (Or.inr ⟨unhide HE, rfl, _, ((unhide HFR).set6 (N := w.heap.size) (Nat.le_refl _) _ _ _ _ _ _).alloc _⟩)
        simp [results, Tryd.results57, go_sem, c0, c1, c2, c3, c4, c5, hz]
    · have hN2 := hfr2.keep hNB (by omega)
      have hM2 := hfr2.keep hMB (by omega)
      have hfrC := hfrB.trans hfr2
      have HS2 := hide hs2
      have hivn : w2.ownsRow (w1.heap.size + 1) 124 3 noOps 0 (popsCells []) := World.ownsRow_nil _ _ _ _
      clear hs2 hfr2 hfrB hNB hMB hrB
      go_wp2_with fail
      refine (take_any _ _ _ _ _ _ _ _ hr2).mono ?_
      rintro e w5 (⟨hs5, rfl, hr5, hfr5⟩ | ⟨hs5, rfl, hr5, hfr5⟩)
      · have hN5 := hfr5.keep hN2 (by omega)
        have hM5 := hfr5.keep hM2 (by omega)
        have hiv5 := hfr5.keepRow hivn (by omega)
        have hfrE := hfrC.trans hfr5
        have HS5 := hide hs5
        clear hs5 hfr5 hr2 hN2 hM2 hivn hfrC
        go_wp2_with fail
        refine (expression_any _ _ _ _ _ hr5 (unhide HSM)).mono ?_
        rintro e w6 (⟨em, n6, xv, hs6, rfl, hn6, hem, hr6, hxv, hfr6⟩ | ⟨hs6, rfl, ov6, hfr6⟩)
        · obtain ⟨adx, capx, rfl⟩ := ownsRow_form hxv
          have hN6 := hfr6.keep hN5 (by omega)
          have hM6 := hfr6.keep hM5 (by omega)
          have hiv6 := hfr6.keepRow hiv5 (by omega)
          have hfrF := hfrE.trans hfr6
          have HE := hide (Rt.set_a (unhide HS) (unhide HS2) (Rt.to_ok (unhide HS5) hs6))
          have hM6lt := block_lt hM6
          have hxg : ∀ g, (Value.slice adx em.length capx).ownBlock = some g → w5.heap.size ≤ g := fun g hg => (hxv.lt g hg).1
          have hM5lt := block_lt hM5
          obtain ⟨c0, c1, c2, c3, c4, c5, f0, f1, f2, f3, f4, f5⟩ := six hN6
          have ⟨d0, d1, d2, d3, d4, d5, _, _, _, _, _, g5⟩ := six hM6
          have hne : ¬ w1.heap.size = w.heap.size := by omega
          have hz : w.heap.size < w6.heap.size := by omega
          have a1 := (hr6.setOther (N := w1.heap.size) (i := 5) (by omega) (by intro g h; cases h) (Value.slice (some ⟨w6.heap.size + 1, 0, none⟩) 1 1)).set6 hlt (.int .i64 8) (.string nm) (.int .i64 0) noOps (noOps) (Value.slice (some ⟨w6.heap.size + 1, 0, none⟩) 1 1)
          have a2 := (hfrF.setNew (N := w1.heap.size) (i := 5) (by omega) (Value.slice (some ⟨w6.heap.size + 1, 0, none⟩) 1 1)).set6 (N := w.heap.size) (Nat.le_refl _) (.int .i64 8) (.string nm) (.int .i64 0) noOps (noOps) (Value.slice (some ⟨w6.heap.size + 1, 0, none⟩) 1 1)
          have a3 := ownsRow_mono (b' := w.heap.size) (own_set6 (N := w.heap.size) (ownsRow_setCell_ne hxv (a := ⟨w1.heap.size, 5, none⟩) (fun g hg => by have := hxg g hg; show g ≠ w1.heap.size; omega) (Value.slice (some ⟨w6.heap.size + 1, 0, none⟩) 1 1)) (fun g hg => by have := hxg g hg; omega) (.int .i64 8) (.string nm) (.int .i64 0) noOps (noOps) (Value.slice (some ⟨w6.heap.size + 1, 0, none⟩) 1 1)) (by omega)
          have a4 := ownsRow_mono (b' := w.heap.size) (own_set6 (N := w.heap.size) (ownsRow_setCell_ne hiv6 (a := ⟨w1.heap.size, 5, none⟩) (fun g hg => by have := (hiv6.lt g hg).1; show g ≠ w1.heap.size; omega) (Value.slice (some ⟨w6.heap.size + 1, 0, none⟩) 1 1)) (fun g hg => by have := (hiv6.lt g hg).1; omega) (.int .i64 8) (.string nm) (.int .i64 0) noOps (noOps) (Value.slice (some ⟨w6.heap.size + 1, 0, none⟩) 1 1)) (by omega)
          have HH := hide (And.intro a1 (And.intro a2 (And.intro a3 a4)))
          clear a1 a2 a3 a4 hr6 hfrF hxv hiv6 hN6 hM6 hfrE hfr6 hN5 hM5 hiv5 hr5 hs6 hxg
          go_wp2_with fail
          refine bodyPost_ret (v := .tuple #[.agg #[.int .i64 8, .string nm, .int .i64 0, noOps, noOps, .slice (some ⟨w6.heap.size + 1, 0, none⟩) 1 1], .bool true]) ?_ rfl ?_
          · simp [results, Tryd.results57, go_sem, c0, c1, c2, c3, c4, c5, hz]
          · obtain ⟨a1, a2, a3, a4⟩ := unhide HH
            have hszA := size_W6 (w6.setCell ⟨w1.heap.size, 5, none⟩ (Value.slice (some ⟨w6.heap.size + 1, 0, none⟩) 1 1)) w.heap.size (.int .i64 8) (.string nm) (.int .i64 0) noOps (noOps) (Value.slice (some ⟨w6.heap.size + 1, 0, none⟩) 1 1)
            have hszB : (w6.setCell ⟨w1.heap.size, 5, none⟩ (Value.slice (some ⟨w6.heap.size + 1, 0, none⟩) 1 1)).heap.size = w6.heap.size := by simp [World.setCell]
            generalize hwA : W6 (w6.setCell ⟨w1.heap.size, 5, none⟩ (Value.slice (some ⟨w6.heap.size + 1, 0, none⟩) 1 1)) w.heap.size (.int .i64 8) (.string nm) (.int .i64 0) noOps (noOps) (Value.slice (some ⟨w6.heap.size + 1, 0, none⟩) 1 1) = wA at a1 a2 a3 a4 hszA
            obtain ⟨b1, b2⟩ := a1.later (((Below.refl wA.heap.size wA).alloc (Nat.le_refl _) (.cells #[.slice adx em.length capx] 59)).alloc (by simp) (.cells #[.slice adx em.length capx] 59))
            have hnew := ownsRow_new (wA.alloc (.cells #[.slice adx em.length capx] 59)) w.heap.size 59 (.slice adx em.length capx) (by simp; omega)
            have hszC : (wA.alloc (.cells #[.slice adx em.length capx] 59)).heap.size = w6.heap.size + 1 := by simp [hszA, hszB]
            rw [hszC] at hnew
            skip
            rw [← hwA] at b1 b2 hnew a2 a3 a4
            exact Or.inl ⟨⟨8, nm, 0, [], [], [em]⟩, n6, _, unhide HE, rfl, b1, ⟨noOps, noOps, _, [_], rfl, World.ownsRow_nil _ _ _ _, (a4.alloc _).alloc _, hnew, ⟨(a3.alloc _).alloc _, trivial⟩⟩, a2.trans b2⟩
        · have hN6 := hfr6.keep hN5 (by omega)
          have HE := hide (Rt.set_a (unhide HS) (unhide HS2) (Rt.to_no (unhide HS5) hs6))
          have HFR := hide (hfrE.trans hfr6)
          obtain ⟨c0, c1, c2, c3, c4, c5, f0, f1, f2, f3, f4, f5⟩ := six hN6
          have hz := block_lt hN6
          clear hN6 hN5 hM5 hiv5 hr5 hfrE hfr6 hs6
          go_wp2_with fail
          refine bodyPost_ret (v := .tuple #[.agg zForm, .bool false]) ?_ rfl (Or.inr ⟨unhide HE, rfl, _, ((unhide HFR).set6 (N := w.heap.size) (Nat.le_refl _) _ _ _ _ _ _).alloc _⟩)
          simp [results, Tryd.results57, go_sem, c0, c1, c2, c3, c4, c5, hz]
      · have hN5 := hfr5.keep hN2 (by omega)
        have HE := hide (Rt.set_a (unhide HS) (unhide HS2) (Rt.to_none hs5))
        have HFR := hide (hfrC.trans hfr5)
        obtain ⟨c0, c1, c2, c3, c4, c5, f0, f1, f2, f3, f4, f5⟩ := six hN5
        clear hN5 hr5 hfr5 hs5 hr2 hN2 hM2 hivn hfrC
        go_wp2_with fail
        refine bodyPost_ret (v := .tuple #[.agg zForm, .bool false]) ?_ rfl (Or.inr ⟨unhide HE, rfl, _, (unhide HFR).set6 (Nat.le_refl _) _ _ _ _ _ _⟩)
        simp [results, Tryd.results57, go_sem, c0, c1, c2, c3, c4, c5]
  · obtain ⟨c0, c1, c2, c3, c4, c5, f0, f1, f2, f3, f4, f5⟩ := six (hfr1.keep hN0 (by omega))
    have HS := hide hs
    have HFR := hide (hfr0.trans hfr1)
    clear hr hr0 hfr0 hfr1 hs hN0
    go_wp2_with fail
    refine bodyPost_ret (v := .tuple #[.agg zForm, .bool false]) ?_ rfl (Or.inr ⟨by rw [Rt.pSet, unhide HS], rfl, _, (unhide HFR).set6 (Nat.le_refl _) _ _ _ _ _ _⟩)
    simp [results, Tryd.results57, go_sem, c0, c1, c2, c3, c4, c5]

end Go.Proofs.YtopeochnoefgcaaDoor

namespace Go.Proofs.YtopeochnoefgcaaDoor
open Go.RowKit


theorem ExprsR.map {w w' : World} {B : Nat} (h : ∀ x o, w.ownsRow B 124 3 x (List.length o) (popsCells o) → w'.ownsRow B 124 3 x (List.length o) (popsCells o)) : ∀ xs os, ExprsR w B xs os → ExprsR w' B xs os
  | [], [], _ => trivial
  | x :: xs, o :: os, ⟨h1, h2⟩ => ⟨h x o h1, ExprsR.map h xs os h2⟩
  | [], _ :: _, h => h.elim
  | _ :: _, [], h => h.elim
theorem ExprsR.snoc {w : World} {B : Nat} {x : Value} {o : List Pop} (h : w.ownsRow B 124 3 x o.length (popsCells o)) : ∀ xs os, ExprsR w B xs os → ExprsR w B (xs ++ [x]) (os ++ [o])
  | [], [], _ => ⟨h, trivial⟩
  | _ :: xs, _ :: os, ⟨h1, h2⟩ => ⟨h1, ExprsR.snoc h xs os h2⟩
  | [], _ :: _, h => h.elim
  | _ :: _, [], h => h.elim

theorem exprs_mono {w : World} {B B' : Nat} (hB : B' ≤ B) : ∀ xs os, ExprsR w B xs os → ExprsR w B' xs os
  | [], [], _ => trivial
  | _ :: xs, _ :: os, ⟨h1, h2⟩ => ⟨ownsRow_mono h1 hB, exprs_mono hB xs os h2⟩
  | [], _ :: _, h => h.elim
  | _ :: _, [], h => h.elim
theorem cell_one_new2 (w : World) (o : Obj) (x : Value) (t : TypeId) : ∀ j u, [x][j]? = some u → ((w.alloc o).alloc (.cells #[x] t)).cell? ((⟨w.heap.size + 1, 0, none⟩ : Addr).add j) = some u := by
  have h := cell_one_new (w.alloc o) x t
  simpa using h

theorem setIf6_5 (a b c d e f x : Value) : (#[a, b, c, d, e, f].setIfInBounds 5 x) = #[a, b, c, d, e, x] := rfl
theorem Tryd.infoExpr : (Tryd.prog.info? 59).map (fun i => (i.zero, i.size, i.bytes)) = some (some (.agg #[.slice none 0 0]), 1, 24) := by kernel_rfl

set_option maxHeartbeats 4000000 in
set_option maxRecDepth 100000 in
theorem call_any (w : World) (R : Nat) (tv : Value) (ts : List Rt.Tk) (n : Nat) (hr : RdS w R tv ts n noOps []) (hsm : ∀ t ∈ ts, t.text.size ≤ 40000) :
    Calls Tryd.prog 58 #[.pointer (some ⟨R, 0, none⟩)] w (LineP Rt.pCall R tv ts n w) := by
  have hlt : R < w.heap.size := World.block_lt_of_cell? w _ (cell_of_block hr.block 0 (by simp))
  obtain ⟨i0, hi, hz0, hz1, hz2⟩ := info_parts Tryd.infoExpr
  have hfew := hr.few
  have HSM := hide hsm
  clear hsm
  go_enter Tryd.func58, Tryd.ntmps58
  go_wp2_with fail
  obtain ⟨hr0, hfr0⟩ := hr.later ((Below.refl w.heap.size w).alloc (Nat.le_refl _) (.cells zForm 62))
  have hN0 : (w.alloc (.cells zForm 62)).heap[w.heap.size]? = some (.cells zForm 62 (0, 0)) := heap_alloc_new w _
  refine (name_any _ _ _ _ _ _ _ hr0).mono ?_
  rintro e w1 (⟨nm, hn, hs, rfl, hr1, hfr1⟩ | ⟨hs, rfl, hr1, hfr1⟩)
  · have hN := hfr1.keep hN0 (by omega)
    have hNlt := block_lt hN
    have hfrA := hfr0.trans hfr1
    have HS := hide hs
    have hrB := (hr1.later ((Below.refl w1.heap.size w1).alloc (Nat.le_refl _) (.cells #[.int .i64 12, .string nm, .int .i64 0, noOps, noOps, noOps] 62))).1
    have hfrB := hfrA.alloc (.cells #[.int .i64 12, .string nm, .int .i64 0, noOps, noOps, noOps] 62)
    have hNB := block_alloc hN (.cells #[.int .i64 12, .string nm, .int .i64 0, noOps, noOps, noOps] 62)
    have hMB := heap_alloc_new w1 (.cells #[.int .i64 12, .string nm, .int .i64 0, noOps, noOps, noOps] 62)
    clear hr hr0 hfr0 hfr1 hs hN0 hfrA hN hr1
    go_wp2_with fail
    refine (more' _ _ _ _ _ _ _ hrB).mono ?_
    rintro e w2 ⟨rfl, hr2, hfr2⟩
    have hN2 := hfr2.keep hNB (by omega)
    have hM2 := hfr2.keep hMB (by omega)
    have hfrC := hfrB.trans hfr2
    clear hfr2 hfrB hNB hMB hrB
    go_wp2_with fail
    go_loopg [7, 8, 9] (if n + 1 < ts.length then ts.length - (n + 1) + 1 else 0) (fun k wn _ _ wr => ∃ (b : Bool) (n2 f : Nat) (vv : Value) (vs : List Value) (acc : List (List Pop)), wn = .bool b ∧ k = (if b = true then ts.length - n2 + 1 else 0) ∧ n + 1 ≤ n2 ∧ n2 ≤ 24 ∧ acc.length + (n + 1) ≤ n2 ∧
      (b = true → ts.length - n2 < f ∧ Rt.pArgs f acc (ts.drop n2) = Rt.pArgsAll (ts.drop (n + 1))) ∧ (b = false → Rt.pArgsAll (ts.drop (n + 1)) = some (acc, ts.drop n2)) ∧
      RdS wr R tv ts n2 noOps [] ∧ RFr R noOps noOps w wr ∧ wr.heap[w.heap.size]? = some (.cells zForm 62 (0, 0)) ∧
      wr.heap[w1.heap.size]? = some (.cells #[.int .i64 12, .string nm, .int .i64 0, noOps, noOps, vv] 62 (0, 0)) ∧ wr.ownsRow (w1.heap.size + 1) 59 1 vv acc.length vs ∧ ExprsR wr (w1.heap.size + 1) vs acc)
    case atStart =>
      refine ⟨decide (n + 1 < ts.length), n + 1, 25, noOps, [], [], rfl, ?_, Nat.le_refl _, by have := hr2.le; omega, by simp, ?_, ?_, hr2, hfrC, hN2, hM2, World.ownsRow_nil _ _ _ _, trivial⟩
      · simp only [decide_eq_true_eq]
      · intro h
        simp at h
        refine ⟨by omega, ?_⟩
        rw [Rt.pArgsAll, if_neg (fun e => by rw [drop_at h] at e; cases e)]
      · intro h
        simp at h
        rw [Rt.pArgsAll, if_pos (drop_end (by omega))]
    case round =>
      clear hr2 hfrC hN2 hM2
      obtain ⟨b, n2, f, vv, vs, acc, rfl, hk, hn2, hn24, hacc, hTt, hTf, hr2, hfr2, hN2, hM2, hvv, hvs⟩ := hrel
      obtain ⟨ad, cap, rfl⟩ := ownsRow_form hvv
      cases b with
      | false =>
        have HE := hide (Rt.call_some (unhide HS) (hTf rfl))
        obtain ⟨c0, c1, c2, c3, c4, c5, f0, f1, f2, f3, f4, f5⟩ := six hN2
        have ⟨d0, d1, d2, d3, d4, d5, _, _, _, _, _, _⟩ := six hM2
        have HO := hide (ownsRow_mono (b' := w.heap.size) (own_set6 (N := w.heap.size) hvv (fun g hg => by have := (hvv.lt g hg).1; omega) (.int .i64 12) (.string nm) (.int .i64 0) noOps noOps (.slice ad acc.length cap)) (by omega))
        have HV : Hid (ExprsR (W6 wr w.heap.size (.int .i64 12) (.string nm) (.int .i64 0) noOps noOps (.slice ad acc.length cap)) w.heap.size vs acc) := by
          refine hide ?_
          have hx : ∀ x o, wr.ownsRow (w1.heap.size + 1) 124 3 x (List.length o) (popsCells o) → (W6 wr w.heap.size (.int .i64 12) (.string nm) (.int .i64 0) noOps noOps (.slice ad acc.length cap)).ownsRow (w1.heap.size + 1) 124 3 x (List.length o) (popsCells o) := fun x o h => own_set6 h (fun g hg => by have := (h.lt g hg).1; omega) _ _ _ _ _ _
          have h2 := ExprsR.map hx _ _ hvs
          clear hx
          exact exprs_mono (by omega) _ _ h2
        have HR := hide hr2
        have HFR := hide hfr2
        clear hk hTt hTf hr2 hfr2 hN2 hM2 hvv hvs
        go_wp2_with fail
        refine bodyPost_ret (v := .tuple #[.agg #[.int .i64 12, .string nm, .int .i64 0, noOps, noOps, .slice ad acc.length cap], .bool true]) ?_ rfl
          (Or.inl ⟨⟨12, nm, 0, [], [], acc⟩, n2, _, unhide HE, rfl, (unhide HR).set6 hlt _ _ _ _ _ _, ⟨noOps, noOps, _, vs, rfl, World.ownsRow_nil _ _ _ _, World.ownsRow_nil _ _ _ _, unhide HO, unhide HV⟩, (unhide HFR).set6 (Nat.le_refl _) _ _ _ _ _ _⟩)
        simp [results, Tryd.results58, go_sem, c0, c1, c2, c3, c4, c5]
      | true =>
        obtain ⟨hf, hT⟩ := hTt rfl
        obtain ⟨f, rfl⟩ : ∃ f', f = f' + 1 := ⟨f - 1, by omega⟩
        have HT := hide hT
        have HK := hide hk
        clear hTt hTf hT hk
        go_wp2_with fail
        refine (expression_any _ _ _ _ _ hr2 (unhide HSM)).mono ?_
        rintro e w3 (⟨em, n3, xv, hs3, rfl, hn3, hem, hr3, hxv, hfr3⟩ | ⟨hs3, rfl, ov3, hfr3⟩)
        · obtain ⟨adx, capx, rfl⟩ := ownsRow_form hxv
          have hMlt2 := block_lt hM2
          have hN3 := hfr3.keep hN2 (by omega)
          have hM3 := hfr3.keep hM2 (by omega)
          have hvv3 := hfr3.keepRow hvv (by omega)
          have hvs3 := ExprsR.map (w' := w3) (fun x o h => hfr3.keepRow h (by omega)) _ _ hvs
          have hfr4 := hfr2.trans hfr3
          have hxv3 := ownsRow_mono (b' := w1.heap.size + 1) hxv (by omega)
          have hle3 := hr3.le
          have HS3 := hide hs3
          clear hr2 hfr2 hN2 hM2 hvv hvs hxv hfr3 hs3
          -- behind the new variable for the expression
          have hN4 := block_alloc hN3 (.cells #[.slice adx em.length capx] 59)
          have hM4 := block_alloc hM3 (.cells #[.slice adx em.length capx] 59)
          have hMlt := block_lt hM3
          have hvv4 := hvv3.alloc (.cells #[.slice adx em.length capx] 59)
          have hvs4 := ExprsR.map (w' := w3.alloc (.cells #[.slice adx em.length capx] 59)) (fun x o h => h.alloc _) _ _ hvs3
          have hxv4 := hxv3.alloc (.cells #[.slice adx em.length capx] 59)
          have hr4 := (hr3.later ((Below.refl w3.heap.size w3).alloc (Nat.le_refl _) (.cells #[.slice adx em.length capx] 59))).1
          have hfr5 := hfr4.alloc (.cells #[.slice adx em.length capx] 59)
          have ⟨_, _, _, _, _, d5, _, _, _, _, _, g5⟩ := six hM3
          clear hr3 hfr4 hN3 hM3 hvv3 hvs3 hxv3
          go_wp2_with (at_builtin; refine wpList_append_own _ rfl (.tmp 32) (.tmp 34) 60 rfl (w1.heap.size + 1) 59 i0 _ 1 24 Tryd.underlying60 hi hz0 hz1 hz2 rfl (by decide) _ _ _ rfl (hvv4.alloc _) ⟨_, 0, none⟩ 1 1 [.slice adx em.length capx] rfl rfl (cell_one_new2 _ _ _ _) ?c2 ?c3 ?c4 ?c5 ?_)
          case c2 => intro u hu; simp at hu; rcases hu with rfl; rfl
          case c3 => unfold maxLen; omega
          case c4 => omega
          case c5 => simp; omega
          intro v' w5 hown5 hgrow _
          have hrow : ∀ k, (Value.slice ad acc.length cap).ownBlock = some k → w1.heap.size < k := fun k hk => by have := (hvv4.lt k hk).1; omega
          have hM5 := grown_keep hgrow hM4 (fun h => by have := hrow _ h; omega)
          have hN5 := grown_keep hgrow hN4 (fun h => by have := hrow _ h; omega)
          have hr5 := hr4.kept (grown_low hgrow (by simp; omega) (fun k hk => by have := hrow k hk; omega))
          have hfr6 := hfr5.grown hgrow (fun k hk => by have := hrow k hk; omega)
          have hvs5 := ExprsR.map (w' := w5) (fun x o h => own_grown h hgrow (own_ne h hvv4 (by decide))) _ _ hvs4
          have hxv5 := own_grown hxv4 hgrow (own_ne hxv4 hvv4 (by decide))
          obtain ⟨ad5, cap5, rfl⟩ := ownsRow_form hown5
          have ⟨_, _, _, _, _, e5, _, _, _, _, _, k5⟩ := six hM5
          have hM6 := set_block hM5 5 (Value.slice ad5 (acc.length + 1) cap5)
          rw [setIf6_5] at hM6
          have hN6 := set_other hN5 (M := w1.heap.size) (by omega) 5 (Value.slice ad5 (acc.length + 1) cap5)
          have hr6 := hr5.setOther (N := w1.heap.size) (i := 5) (by omega) (by intro g h; cases h) (Value.slice ad5 (acc.length + 1) cap5)
          have hfr7 := hfr6.setNew (N := w1.heap.size) (i := 5) (by omega) (Value.slice ad5 (acc.length + 1) cap5)
          have hown6 := ownsRow_setCell_ne hown5 (a := ⟨w1.heap.size, 5, none⟩) (fun g hg => by have := (hown5.lt g hg).1; show g ≠ w1.heap.size; omega) (Value.slice ad5 (acc.length + 1) cap5)
          have hvs6 := ExprsR.map (w' := w5.setCell ⟨w1.heap.size, 5, none⟩ (Value.slice ad5 (acc.length + 1) cap5)) (fun x o h => ownsRow_setCell_ne h (fun g hg => by have := (h.lt g hg).1; show g ≠ w1.heap.size; omega) _) _ _ (ExprsR.snoc hxv5 _ _ hvs5)
          clear hM5 hN5 hr5 hfr6 hown5 hgrow hr4 hfr5 hM4 hN4 hvv4 hrow hvs5 hxv5 hvs4 hxv4
          go_wp2_with fail
          refine (take_any _ _ _ _ _ _ _ _ hr6).mono ?_
          rintro e w7 (⟨hs7, rfl, hr7, hfr8⟩ | ⟨hs7, rfl, hr7, hfr8⟩)
          · have HT2 := hide ((Rt.args_next (f := f) (acc := acc) (unhide HS3) hs7).symm.trans (unhide HT))
            have HH := hide (And.intro (hfr8.keep hN6 (by omega)) (And.intro (hfr8.keep hM6 (by omega)) (And.intro hr7 (And.intro (hfr7.trans hfr8) (And.intro (hfr8.keepRow hown6 (by omega)) (ExprsR.map (w' := w7) (fun x o h => hfr8.keepRow h (by omega)) _ _ hvs6))))))
            have hle7 := hr7.le
            clear hr7 hfr8 hN6 hM6 hr6 hfr7 hown6 hvs6 hs7
            go_wp2_with fail
            go_roundg (ts.length - (n3 + 1) + 1)
            case measure => have := unhide HK; simp at this; omega
            case rel =>
              obtain ⟨q1, q2, q3, q4, q5, q6⟩ := unhide HH
              exact ⟨true, n3 + 1, f, _, _, acc ++ [em], rfl, by simp, by omega, by omega, by simp; omega, fun _ => ⟨by omega, unhide HT2⟩, (fun h => by cases h), q3, q4, q1, q2, by simpa using q5, q6⟩
          · have HT2 := hide ((unhide HT).symm.trans (Rt.args_stop (f := f) (acc := acc) (unhide HS3) hs7))
            have HH := hide (And.intro (hfr8.keep hN6 (by omega)) (And.intro (hfr8.keep hM6 (by omega)) (And.intro hr7 (And.intro (hfr7.trans hfr8) (And.intro (hfr8.keepRow hown6 (by omega)) (ExprsR.map (w' := w7) (fun x o h => hfr8.keepRow h (by omega)) _ _ hvs6))))))
            clear hr7 hfr8 hN6 hM6 hr6 hfr7 hown6 hvs6 hs7
            go_wp2_with fail
            go_roundg 0
            case measure => have := unhide HK; simp at this; omega
            case rel =>
              obtain ⟨q1, q2, q3, q4, q5, q6⟩ := unhide HH
              exact ⟨false, n3, f, _, _, acc ++ [em], rfl, by simp, by omega, by omega, by simp; omega, (fun h => by cases h), fun _ => unhide HT2, q3, q4, q1, q2, by simpa using q5, q6⟩
        · have hN3 := hfr3.keep hN2 (by omega)
          have HE := hide (Rt.call_none (unhide HS) ((unhide HT).symm.trans (Rt.args_none hs3)))
          have HFR := hide (hfr2.trans hfr3)
          obtain ⟨c0, c1, c2, c3, c4, c5, f0, f1, f2, f3, f4, f5⟩ := six hN3
          have hz := block_lt hN3
          clear hN3 hfr3 hs3 hr2 hfr2 hN2 hM2 hvv hvs
          go_wp2_with fail
          refine bodyPost_ret (v := .tuple #[.agg zForm, .bool false]) ?_ rfl (Or.inr ⟨unhide HE, rfl, _, ((unhide HFR).set6 (N := w.heap.size) (Nat.le_refl _) _ _ _ _ _ _).alloc _⟩)
          simp [results, Tryd.results58, go_sem, c0, c1, c2, c3, c4, c5, hz]
  · obtain ⟨c0, c1, c2, c3, c4, c5, f0, f1, f2, f3, f4, f5⟩ := six (hfr1.keep hN0 (by omega))
    have HS := hide hs
    have HFR := hide (hfr0.trans hfr1)
    clear hr hr0 hfr0 hfr1 hs hN0
    go_wp2_with fail
    refine bodyPost_ret (v := .tuple #[.agg zForm, .bool false]) ?_ rfl (Or.inr ⟨by rw [Rt.pCall, unhide HS], rfl, _, (unhide HFR).set6 (Nat.le_refl _) _ _ _ _ _ _⟩)
    simp [results, Tryd.results58, go_sem, c0, c1, c2, c3, c4, c5]

end Go.Proofs.YtopeochnoefgcaaDoor

