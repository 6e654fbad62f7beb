/- The walks of the readers of lines: line. -/
import Derived.Test.YthleadfkfnnadaaGreatFormsf
namespace Go.Proofs.YthleadfkfnnadaaGreat
open Go.RowKit
theorem FormV_set6 {w : World} {B B' N : Nat} {v : Array Value} {fm : Rt.PForm} (h : FormV w B v fm) (hN : N < B) (hB : B' ≤ B) (a b c d e f : Value) : FormV (W6 w N a b c d e f) B' v fm := by
  obtain ⟨pv, iv, vv, vs, rfl, h1, h2, h3, h4⟩ := h
  have hx : ∀ (t : TypeId) (size n : Nat) (v : Value) (xs : List Value), w.ownsRow B t size v n xs → (W6 w N a b c d e f).ownsRow B' t size v n xs := fun t size n v xs h => ownsRow_mono (own_set6 h (fun g hg => by have := (h.lt g hg).1; omega) _ _ _ _ _ _) hB
  refine ⟨pv, iv, vv, vs, rfl, hx _ _ _ _ _ h1, hx _ _ _ _ _ h2, hx _ _ _ _ _ h3, ?_⟩
  exact exprs_mono hB _ _ (ExprsR.map (fun x o h => own_set6 h (fun g hg => by have := (h.lt g hg).1; omega) _ _ _ _ _ _) _ _ h4)
set_option maxHeartbeats 2000000 in
set_option maxRecDepth 100000 in
theorem line_var (w : World) (R : Nat) (tv : Value) (ts : List Rt.Tk) (n : Nat) (first : ByteArray) (hr : RdS w R tv ts n noOps []) (h0 : (first.toList == [118, 97, 114]) = true) :
    Calls Tryz.prog 169 #[.pointer (some ⟨R, 0, none⟩), .string first] w (LineP (Rt.pLine first) R tv ts n w) := by
  have hlt : R < w.heap.size := World.block_lt_of_cell? w _ (cell_of_block hr.block 0 (by simp))
  have HP : Hid (Rt.pLine first (ts.drop n) = Rt.pNamed 1 (ts.drop n)) := by
    refine hide ?_
    simp [Rt.pLine, h0]
  go_enter Tryz.func169, Tryz.ntmps169
  go_wp2_with fail
  obtain ⟨hr0, hfr0⟩ := hr.later ((Below.refl w.heap.size w).alloc (Nat.le_refl _) (.cells zForm 143))
  have hN0 : (w.alloc (.cells zForm 143)).heap[w.heap.size]? = some (.cells zForm 143 (0, 0)) := heap_alloc_new w _
  refine (named_any _ _ _ _ _ 1 hr0).mono ?_
  rintro e w1 (⟨fm, n1, fv, hs, rfl, hr1, hfv, hfr1⟩ | ⟨hs, rfl, ov, hfr1⟩)
  · obtain ⟨c0, c1, c2, c3, c4, c5, f0, f1, f2, f3, f4, f5⟩ := six (hfr1.keep hN0 (by omega))
    have hfv2 := hfv
    obtain ⟨pv, iv, vv, vs, rfl, b1, b2, b3, _⟩ := hfv
    obtain ⟨ad1, cap1, rfl⟩ := ownsRow_form b1
    obtain ⟨ad2, cap2, rfl⟩ := ownsRow_form b2
    obtain ⟨ad3, cap3, rfl⟩ := ownsRow_form b3
    have HE := hide ((unhide HP).trans hs)
    have HV := hide hfv2
    have HR := hide hr1
    have HFR := hide (hfr0.trans hfr1)
    clear hr hr0 hr1 hfr0 hfr1 hs hN0 hfv2 b1 b2 b3
    go_wp2_with fail
    refine bodyPost_ret (v := .tuple #[.agg #[.int .i64 fm.kind, .string fm.name, .int .i64 fm.cells, .slice ad1 fm.params.length cap1, .slice ad2 fm.index.length cap2, .slice ad3 fm.values.length cap3], .bool true]) ?_ rfl
      (Or.inl ⟨fm, n1, _, unhide HE, rfl, (unhide HR).set6 hlt _ _ _ _ _ _, FormV_set6 (unhide HV) (by simp) (by simp) _ _ _ _ _ _, (unhide HFR).set6 (Nat.le_refl _) _ _ _ _ _ _⟩)
    simp [results, Tryz.results169, go_sem, c0, c1, c2, c3, c4, c5]
  · obtain ⟨c0, c1, c2, c3, c4, c5, f0, f1, f2, f3, f4, f5⟩ := six (hfr1.keep hN0 (by omega))
    have HE := hide ((unhide HP).trans hs)
    have HFR := hide (hfr0.trans hfr1)
    clear hr hr0 hfr0 hfr1 hs hN0
    go_wp2_with fail
    refine bodyPost_ret (v := .tuple #[.agg zForm, .bool false]) ?_ rfl (Or.inr ⟨unhide HE, rfl, _, (unhide HFR).set6 (Nat.le_refl _) _ _ _ _ _ _⟩)
    simp [results, Tryz.results169, go_sem, c0, c1, c2, c3, c4, c5]
set_option maxHeartbeats 2000000 in
set_option maxRecDepth 100000 in
theorem line_array (w : World) (R : Nat) (tv : Value) (ts : List Rt.Tk) (n : Nat) (first : ByteArray) (hr : RdS w R tv ts n noOps []) (hsm : ∀ t ∈ ts, t.text.size ≤ 40000) (h0 : (first.toList == [118, 97, 114]) = false) (h1 : (first.toList == [97, 114, 114, 97, 121]) = true) :
    Calls Tryz.prog 169 #[.pointer (some ⟨R, 0, none⟩), .string first] w (LineP (Rt.pLine first) R tv ts n w) := by
  have hlt : R < w.heap.size := World.block_lt_of_cell? w _ (cell_of_block hr.block 0 (by simp))
  have HSM := hide hsm
  clear hsm
  have HP : Hid (Rt.pLine first (ts.drop n) = Rt.pArray (ts.drop n)) := by
    refine hide ?_
    simp [Rt.pLine, h0, h1]
  go_enter Tryz.func169, Tryz.ntmps169
  go_wp2_with fail
  obtain ⟨hr0, hfr0⟩ := hr.later ((Below.refl w.heap.size w).alloc (Nat.le_refl _) (.cells zForm 143))
  have hN0 : (w.alloc (.cells zForm 143)).heap[w.heap.size]? = some (.cells zForm 143 (0, 0)) := heap_alloc_new w _
  refine (array_any _ _ _ _ _ hr0 (unhide HSM)).mono ?_
  rintro e w1 (⟨fm, n1, fv, hs, rfl, hr1, hfv, hfr1⟩ | ⟨hs, rfl, ov, hfr1⟩)
  · obtain ⟨c0, c1, c2, c3, c4, c5, f0, f1, f2, f3, f4, f5⟩ := six (hfr1.keep hN0 (by omega))
    have hfv2 := hfv
    obtain ⟨pv, iv, vv, vs, rfl, b1, b2, b3, _⟩ := hfv
    obtain ⟨ad1, cap1, rfl⟩ := ownsRow_form b1
    obtain ⟨ad2, cap2, rfl⟩ := ownsRow_form b2
    obtain ⟨ad3, cap3, rfl⟩ := ownsRow_form b3
    have HE := hide ((unhide HP).trans hs)
    have HV := hide hfv2
    have HR := hide hr1
    have HFR := hide (hfr0.trans hfr1)
    clear hr hr0 hr1 hfr0 hfr1 hs hN0 hfv2 b1 b2 b3
    go_wp2_with fail
    refine bodyPost_ret (v := .tuple #[.agg #[.int .i64 fm.kind, .string fm.name, .int .i64 fm.cells, .slice ad1 fm.params.length cap1, .slice ad2 fm.index.length cap2, .slice ad3 fm.values.length cap3], .bool true]) ?_ rfl
      (Or.inl ⟨fm, n1, _, unhide HE, rfl, (unhide HR).set6 hlt _ _ _ _ _ _, FormV_set6 (unhide HV) (by simp) (by simp) _ _ _ _ _ _, (unhide HFR).set6 (Nat.le_refl _) _ _ _ _ _ _⟩)
    simp [results, Tryz.results169, go_sem, c0, c1, c2, c3, c4, c5]
  · obtain ⟨c0, c1, c2, c3, c4, c5, f0, f1, f2, f3, f4, f5⟩ := six (hfr1.keep hN0 (by omega))
    have HE := hide ((unhide HP).trans hs)
    have HFR := hide (hfr0.trans hfr1)
    clear hr hr0 hfr0 hfr1 hs hN0
    go_wp2_with fail
    refine bodyPost_ret (v := .tuple #[.agg zForm, .bool false]) ?_ rfl (Or.inr ⟨unhide HE, rfl, _, (unhide HFR).set6 (Nat.le_refl _) _ _ _ _ _ _⟩)
    simp [results, Tryz.results169, go_sem, c0, c1, c2, c3, c4, c5]
set_option maxHeartbeats 2000000 in
set_option maxRecDepth 100000 in
theorem line_proc (w : World) (R : Nat) (tv : Value) (ts : List Rt.Tk) (n : Nat) (first : ByteArray) (hr : RdS w R tv ts n noOps []) (h0 : (first.toList == [118, 97, 114]) = false) (h1 : (first.toList == [97, 114, 114, 97, 121]) = false) (h2 : (first.toList == [112, 114, 111, 99]) = true) :
    Calls Tryz.prog 169 #[.pointer (some ⟨R, 0, none⟩), .string first] w (LineP (Rt.pLine first) R tv ts n w) := by
  have hlt : R < w.heap.size := World.block_lt_of_cell? w _ (cell_of_block hr.block 0 (by simp))
  have HP : Hid (Rt.pLine first (ts.drop n) = Rt.pProc (ts.drop n)) := by
    refine hide ?_
    simp [Rt.pLine, h0, h1, h2]
  go_enter Tryz.func169, Tryz.ntmps169
  go_wp2_with fail
  obtain ⟨hr0, hfr0⟩ := hr.later ((Below.refl w.heap.size w).alloc (Nat.le_refl _) (.cells zForm 143))
  have hN0 : (w.alloc (.cells zForm 143)).heap[w.heap.size]? = some (.cells zForm 143 (0, 0)) := heap_alloc_new w _
  refine (procedure_any _ _ _ _ _ hr0).mono ?_
  rintro e w1 (⟨fm, n1, fv, hs, rfl, hr1, hfv, hfr1⟩ | ⟨hs, rfl, ov, hfr1⟩)
  · obtain ⟨c0, c1, c2, c3, c4, c5, f0, f1, f2, f3, f4, f5⟩ := six (hfr1.keep hN0 (by omega))
    have hfv2 := hfv
    obtain ⟨pv, iv, vv, vs, rfl, b1, b2, b3, _⟩ := hfv
    obtain ⟨ad1, cap1, rfl⟩ := ownsRow_form b1
    obtain ⟨ad2, cap2, rfl⟩ := ownsRow_form b2
    obtain ⟨ad3, cap3, rfl⟩ := ownsRow_form b3
    have HE := hide ((unhide HP).trans hs)
    have HV := hide hfv2
    have HR := hide hr1
    have HFR := hide (hfr0.trans hfr1)
    clear hr hr0 hr1 hfr0 hfr1 hs hN0 hfv2 b1 b2 b3
    go_wp2_with fail
    refine bodyPost_ret (v := .tuple #[.agg #[.int .i64 fm.kind, .string fm.name, .int .i64 fm.cells, .slice ad1 fm.params.length cap1, .slice ad2 fm.index.length cap2, .slice ad3 fm.values.length cap3], .bool true]) ?_ rfl
      (Or.inl ⟨fm, n1, _, unhide HE, rfl, (unhide HR).set6 hlt _ _ _ _ _ _, FormV_set6 (unhide HV) (by simp) (by simp) _ _ _ _ _ _, (unhide HFR).set6 (Nat.le_refl _) _ _ _ _ _ _⟩)
    simp [results, Tryz.results169, go_sem, c0, c1, c2, c3, c4, c5]
  · obtain ⟨c0, c1, c2, c3, c4, c5, f0, f1, f2, f3, f4, f5⟩ := six (hfr1.keep hN0 (by omega))
    have HE := hide ((unhide HP).trans hs)
    have HFR := hide (hfr0.trans hfr1)
    clear hr hr0 hfr0 hfr1 hs hN0
    go_wp2_with fail
    refine bodyPost_ret (v := .tuple #[.agg zForm, .bool false]) ?_ rfl (Or.inr ⟨unhide HE, rfl, _, (unhide HFR).set6 (Nat.le_refl _) _ _ _ _ _ _⟩)
    simp [results, Tryz.results169, go_sem, c0, c1, c2, c3, c4, c5]
set_option maxHeartbeats 2000000 in
set_option maxRecDepth 100000 in
theorem line_end (w : World) (R : Nat) (tv : Value) (ts : List Rt.Tk) (n : Nat) (first : ByteArray) (hr : RdS w R tv ts n noOps []) (h0 : (first.toList == [118, 97, 114]) = false) (h1 : (first.toList == [97, 114, 114, 97, 121]) = false) (h2 : (first.toList == [112, 114, 111, 99]) = false) (h3 : (first.toList == [101, 110, 100]) = true) :
    Calls Tryz.prog 169 #[.pointer (some ⟨R, 0, none⟩), .string first] w (LineP (Rt.pLine first) R tv ts n w) := by
  have hlt : R < w.heap.size := World.block_lt_of_cell? w _ (cell_of_block hr.block 0 (by simp))
  have HP : Hid (Rt.pLine first (ts.drop n) = some (⟨4, ⟨#[]⟩, 0, [], [], []⟩, ts.drop n)) := by
    refine hide ?_
    simp [Rt.pLine, h0, h1, h2, h3]
  have HR := hide (hr.later ((Below.refl w.heap.size w).alloc (Nat.le_refl _) (.cells #[.int .i64 4, .string ⟨#[]⟩, .int .i64 0, noOps, noOps, noOps] 143)))
  clear hr
  go_enter Tryz.func169, Tryz.ntmps169
  go_wp2_with fail
  refine bodyPost_ret (v := .tuple #[.agg #[.int .i64 4, .string ⟨#[]⟩, .int .i64 0, noOps, noOps, noOps], .bool true]) ?_ rfl
    (Or.inl ⟨_, n, _, unhide HP, rfl, (unhide HR).1, FormV_plain _ _ _ _ _, (unhide HR).2⟩)
  simp [results, Tryz.results169, go_sem]
set_option maxHeartbeats 2000000 in
set_option maxRecDepth 100000 in
theorem line_if (w : World) (R : Nat) (tv : Value) (ts : List Rt.Tk) (n : Nat) (first : ByteArray) (hr : RdS w R tv ts n noOps []) (hsm : ∀ t ∈ ts, t.text.size ≤ 40000) (h0 : (first.toList == [118, 97, 114]) = false) (h1 : (first.toList == [97, 114, 114, 97, 121]) = false) (h2 : (first.toList == [112, 114, 111, 99]) = false) (h3 : (first.toList == [101, 110, 100]) = false) (h4 : (first.toList == [105, 102]) = true) :
    Calls Tryz.prog 169 #[.pointer (some ⟨R, 0, none⟩), .string first] w (LineP (Rt.pLine first) R tv ts n w) := by
  have hlt : R < w.heap.size := World.block_lt_of_cell? w _ (cell_of_block hr.block 0 (by simp))
  have HSM := hide hsm
  clear hsm
  have HP : Hid (Rt.pLine first (ts.drop n) = Rt.pValued 5 (ts.drop n)) := by
    refine hide ?_
    simp [Rt.pLine, h0, h1, h2, h3, h4]
  go_enter Tryz.func169, Tryz.ntmps169
  go_wp2_with fail
  obtain ⟨hr0, hfr0⟩ := hr.later ((Below.refl w.heap.size w).alloc (Nat.le_refl _) (.cells zForm 143))
  have hN0 : (w.alloc (.cells zForm 143)).heap[w.heap.size]? = some (.cells zForm 143 (0, 0)) := heap_alloc_new w _
  refine (valued_any _ _ _ _ _ 5 hr0 (unhide HSM)).mono ?_
  rintro e w1 (⟨fm, n1, fv, hs, rfl, hr1, hfv, hfr1⟩ | ⟨hs, rfl, ov, hfr1⟩)
  · obtain ⟨c0, c1, c2, c3, c4, c5, f0, f1, f2, f3, f4, f5⟩ := six (hfr1.keep hN0 (by omega))
    have hfv2 := hfv
    obtain ⟨pv, iv, vv, vs, rfl, b1, b2, b3, _⟩ := hfv
    obtain ⟨ad1, cap1, rfl⟩ := ownsRow_form b1
    obtain ⟨ad2, cap2, rfl⟩ := ownsRow_form b2
    obtain ⟨ad3, cap3, rfl⟩ := ownsRow_form b3
    have HE := hide ((unhide HP).trans hs)
    have HV := hide hfv2
    have HR := hide hr1
    have HFR := hide (hfr0.trans hfr1)
    clear hr hr0 hr1 hfr0 hfr1 hs hN0 hfv2 b1 b2 b3
    go_wp2_with fail
    refine bodyPost_ret (v := .tuple #[.agg #[.int .i64 fm.kind, .string fm.name, .int .i64 fm.cells, .slice ad1 fm.params.length cap1, .slice ad2 fm.index.length cap2, .slice ad3 fm.values.length cap3], .bool true]) ?_ rfl
      (Or.inl ⟨fm, n1, _, unhide HE, rfl, (unhide HR).set6 hlt _ _ _ _ _ _, FormV_set6 (unhide HV) (by simp) (by simp) _ _ _ _ _ _, (unhide HFR).set6 (Nat.le_refl _) _ _ _ _ _ _⟩)
    simp [results, Tryz.results169, go_sem, c0, c1, c2, c3, c4, c5]
  · obtain ⟨c0, c1, c2, c3, c4, c5, f0, f1, f2, f3, f4, f5⟩ := six (hfr1.keep hN0 (by omega))
    have HE := hide ((unhide HP).trans hs)
    have HFR := hide (hfr0.trans hfr1)
    clear hr hr0 hfr0 hfr1 hs hN0
    go_wp2_with fail
    refine bodyPost_ret (v := .tuple #[.agg zForm, .bool false]) ?_ rfl (Or.inr ⟨unhide HE, rfl, _, (unhide HFR).set6 (Nat.le_refl _) _ _ _ _ _ _⟩)
    simp [results, Tryz.results169, go_sem, c0, c1, c2, c3, c4, c5]
set_option maxHeartbeats 2000000 in
set_option maxRecDepth 100000 in
theorem line_else (w : World) (R : Nat) (tv : Value) (ts : List Rt.Tk) (n : Nat) (first : ByteArray) (hr : RdS w R tv ts n noOps []) (h0 : (first.toList == [118, 97, 114]) = false) (h1 : (first.toList == [97, 114, 114, 97, 121]) = false) (h2 : (first.toList == [112, 114, 111, 99]) = false) (h3 : (first.toList == [101, 110, 100]) = false) (h4 : (first.toList == [105, 102]) = false) (h5 : (first.toList == [101, 108, 115, 101]) = true) :
    Calls Tryz.prog 169 #[.pointer (some ⟨R, 0, none⟩), .string first] w (LineP (Rt.pLine first) R tv ts n w) := by
  have hlt : R < w.heap.size := World.block_lt_of_cell? w _ (cell_of_block hr.block 0 (by simp))
  have HP : Hid (Rt.pLine first (ts.drop n) = some (⟨6, ⟨#[]⟩, 0, [], [], []⟩, ts.drop n)) := by
    refine hide ?_
    simp [Rt.pLine, h0, h1, h2, h3, h4, h5]
  have HR := hide (hr.later ((Below.refl w.heap.size w).alloc (Nat.le_refl _) (.cells #[.int .i64 6, .string ⟨#[]⟩, .int .i64 0, noOps, noOps, noOps] 143)))
  clear hr
  go_enter Tryz.func169, Tryz.ntmps169
  go_wp2_with fail
  refine bodyPost_ret (v := .tuple #[.agg #[.int .i64 6, .string ⟨#[]⟩, .int .i64 0, noOps, noOps, noOps], .bool true]) ?_ rfl
    (Or.inl ⟨_, n, _, unhide HP, rfl, (unhide HR).1, FormV_plain _ _ _ _ _, (unhide HR).2⟩)
  simp [results, Tryz.results169, go_sem]
set_option maxHeartbeats 2000000 in
set_option maxRecDepth 100000 in
theorem line_while (w : World) (R : Nat) (tv : Value) (ts : List Rt.Tk) (n : Nat) (first : ByteArray) (hr : RdS w R tv ts n noOps []) (hsm : ∀ t ∈ ts, t.text.size ≤ 40000) (h0 : (first.toList == [118, 97, 114]) = false) (h1 : (first.toList == [97, 114, 114, 97, 121]) = false) (h2 : (first.toList == [112, 114, 111, 99]) = false) (h3 : (first.toList == [101, 110, 100]) = false) (h4 : (first.toList == [105, 102]) = false) (h5 : (first.toList == [101, 108, 115, 101]) = false) (h6 : (first.toList == [119, 104, 105, 108, 101]) = true) :
    Calls Tryz.prog 169 #[.pointer (some ⟨R, 0, none⟩), .string first] w (LineP (Rt.pLine first) R tv ts n w) := by
  have hlt : R < w.heap.size := World.block_lt_of_cell? w _ (cell_of_block hr.block 0 (by simp))
  have HSM := hide hsm
  clear hsm
  have HP : Hid (Rt.pLine first (ts.drop n) = Rt.pValued 7 (ts.drop n)) := by
    refine hide ?_
    simp [Rt.pLine, h0, h1, h2, h3, h4, h5, h6]
  go_enter Tryz.func169, Tryz.ntmps169
  go_wp2_with fail
  obtain ⟨hr0, hfr0⟩ := hr.later ((Below.refl w.heap.size w).alloc (Nat.le_refl _) (.cells zForm 143))
  have hN0 : (w.alloc (.cells zForm 143)).heap[w.heap.size]? = some (.cells zForm 143 (0, 0)) := heap_alloc_new w _
  refine (valued_any _ _ _ _ _ 7 hr0 (unhide HSM)).mono ?_
  rintro e w1 (⟨fm, n1, fv, hs, rfl, hr1, hfv, hfr1⟩ | ⟨hs, rfl, ov, hfr1⟩)
  · obtain ⟨c0, c1, c2, c3, c4, c5, f0, f1, f2, f3, f4, f5⟩ := six (hfr1.keep hN0 (by omega))
    have hfv2 := hfv
    obtain ⟨pv, iv, vv, vs, rfl, b1, b2, b3, _⟩ := hfv
    obtain ⟨ad1, cap1, rfl⟩ := ownsRow_form b1
    obtain ⟨ad2, cap2, rfl⟩ := ownsRow_form b2
    obtain ⟨ad3, cap3, rfl⟩ := ownsRow_form b3
    have HE := hide ((unhide HP).trans hs)
    have HV := hide hfv2
    have HR := hide hr1
    have HFR := hide (hfr0.trans hfr1)
    clear hr hr0 hr1 hfr0 hfr1 hs hN0 hfv2 b1 b2 b3
    go_wp2_with fail
    refine bodyPost_ret (v := .tuple #[.agg #[.int .i64 fm.kind, .string fm.name, .int .i64 fm.cells, .slice ad1 fm.params.length cap1, .slice ad2 fm.index.length cap2, .slice ad3 fm.values.length cap3], .bool true]) ?_ rfl
      (Or.inl ⟨fm, n1, _, unhide HE, rfl, (unhide HR).set6 hlt _ _ _ _ _ _, FormV_set6 (unhide HV) (by simp) (by simp) _ _ _ _ _ _, (unhide HFR).set6 (Nat.le_refl _) _ _ _ _ _ _⟩)
    simp [results, Tryz.results169, go_sem, c0, c1, c2, c3, c4, c5]
  · obtain ⟨c0, c1, c2, c3, c4, c5, f0, f1, f2, f3, f4, f5⟩ := six (hfr1.keep hN0 (by omega))
    have HE := hide ((unhide HP).trans hs)
    have HFR := hide (hfr0.trans hfr1)
    clear hr hr0 hfr0 hfr1 hs hN0
    go_wp2_with fail
    refine bodyPost_ret (v := .tuple #[.agg zForm, .bool false]) ?_ rfl (Or.inr ⟨unhide HE, rfl, _, (unhide HFR).set6 (Nat.le_refl _) _ _ _ _ _ _⟩)
    simp [results, Tryz.results169, go_sem, c0, c1, c2, c3, c4, c5]
set_option maxHeartbeats 2000000 in
set_option maxRecDepth 100000 in
theorem line_set (w : World) (R : Nat) (tv : Value) (ts : List Rt.Tk) (n : Nat) (first : ByteArray) (hr : RdS w R tv ts n noOps []) (hsm : ∀ t ∈ ts, t.text.size ≤ 40000) (h0 : (first.toList == [118, 97, 114]) = false) (h1 : (first.toList == [97, 114, 114, 97, 121]) = false) (h2 : (first.toList == [112, 114, 111, 99]) = false) (h3 : (first.toList == [101, 110, 100]) = false) (h4 : (first.toList == [105, 102]) = false) (h5 : (first.toList == [101, 108, 115, 101]) = false) (h6 : (first.toList == [119, 104, 105, 108, 101]) = false) (h7 : (first.toList == [115, 101, 116]) = true) :
    Calls Tryz.prog 169 #[.pointer (some ⟨R, 0, none⟩), .string first] w (LineP (Rt.pLine first) R tv ts n w) := by
  have hlt : R < w.heap.size := World.block_lt_of_cell? w _ (cell_of_block hr.block 0 (by simp))
  have HSM := hide hsm
  clear hsm
  have HP : Hid (Rt.pLine first (ts.drop n) = Rt.pSet (ts.drop n)) := by
    refine hide ?_
    simp [Rt.pLine, h0, h1, h2, h3, h4, h5, h6, h7]
  go_enter Tryz.func169, Tryz.ntmps169
  go_wp2_with fail
  obtain ⟨hr0, hfr0⟩ := hr.later ((Below.refl w.heap.size w).alloc (Nat.le_refl _) (.cells zForm 143))
  have hN0 : (w.alloc (.cells zForm 143)).heap[w.heap.size]? = some (.cells zForm 143 (0, 0)) := heap_alloc_new w _
  refine (set_any _ _ _ _ _ hr0 (unhide HSM)).mono ?_
  rintro e w1 (⟨fm, n1, fv, hs, rfl, hr1, hfv, hfr1⟩ | ⟨hs, rfl, ov, hfr1⟩)
  · obtain ⟨c0, c1, c2, c3, c4, c5, f0, f1, f2, f3, f4, f5⟩ := six (hfr1.keep hN0 (by omega))
    have hfv2 := hfv
    obtain ⟨pv, iv, vv, vs, rfl, b1, b2, b3, _⟩ := hfv
    obtain ⟨ad1, cap1, rfl⟩ := ownsRow_form b1
    obtain ⟨ad2, cap2, rfl⟩ := ownsRow_form b2
    obtain ⟨ad3, cap3, rfl⟩ := ownsRow_form b3
    have HE := hide ((unhide HP).trans hs)
    have HV := hide hfv2
    have HR := hide hr1
    have HFR := hide (hfr0.trans hfr1)
    clear hr hr0 hr1 hfr0 hfr1 hs hN0 hfv2 b1 b2 b3
    go_wp2_with fail
    refine bodyPost_ret (v := .tuple #[.agg #[.int .i64 fm.kind, .string fm.name, .int .i64 fm.cells, .slice ad1 fm.params.length cap1, .slice ad2 fm.index.length cap2, .slice ad3 fm.values.length cap3], .bool true]) ?_ rfl
      (Or.inl ⟨fm, n1, _, unhide HE, rfl, (unhide HR).set6 hlt _ _ _ _ _ _, FormV_set6 (unhide HV) (by simp) (by simp) _ _ _ _ _ _, (unhide HFR).set6 (Nat.le_refl _) _ _ _ _ _ _⟩)
    simp [results, Tryz.results169, go_sem, c0, c1, c2, c3, c4, c5]
  · obtain ⟨c0, c1, c2, c3, c4, c5, f0, f1, f2, f3, f4, f5⟩ := six (hfr1.keep hN0 (by omega))
    have HE := hide ((unhide HP).trans hs)
    have HFR := hide (hfr0.trans hfr1)
    clear hr hr0 hfr0 hfr1 hs hN0
    go_wp2_with fail
    refine bodyPost_ret (v := .tuple #[.agg zForm, .bool false]) ?_ rfl (Or.inr ⟨unhide HE, rfl, _, (unhide HFR).set6 (Nat.le_refl _) _ _ _ _ _ _⟩)
    simp [results, Tryz.results169, go_sem, c0, c1, c2, c3, c4, c5]
set_option maxHeartbeats 2000000 in
set_option maxRecDepth 100000 in
theorem line_print (w : World) (R : Nat) (tv : Value) (ts : List Rt.Tk) (n : Nat) (first : ByteArray) (hr : RdS w R tv ts n noOps []) (hsm : ∀ t ∈ ts, t.text.size ≤ 40000) (h0 : (first.toList == [118, 97, 114]) = false) (h1 : (first.toList == [97, 114, 114, 97, 121]) = false) (h2 : (first.toList == [112, 114, 111, 99]) = false) (h3 : (first.toList == [101, 110, 100]) = false) (h4 : (first.toList == [105, 102]) = false) (h5 : (first.toList == [101, 108, 115, 101]) = false) (h6 : (first.toList == [119, 104, 105, 108, 101]) = false) (h7 : (first.toList == [115, 101, 116]) = false) (h8 : (first.toList == [112, 114, 105, 110, 116]) = true) :
    Calls Tryz.prog 169 #[.pointer (some ⟨R, 0, none⟩), .string first] w (LineP (Rt.pLine first) R tv ts n w) := by
  have hlt : R < w.heap.size := World.block_lt_of_cell? w _ (cell_of_block hr.block 0 (by simp))
  have HSM := hide hsm
  clear hsm
  have HP : Hid (Rt.pLine first (ts.drop n) = Rt.pValued 10 (ts.drop n)) := by
    refine hide ?_
    simp [Rt.pLine, h0, h1, h2, h3, h4, h5, h6, h7, h8]
  go_enter Tryz.func169, Tryz.ntmps169
  go_wp2_with fail
  obtain ⟨hr0, hfr0⟩ := hr.later ((Below.refl w.heap.size w).alloc (Nat.le_refl _) (.cells zForm 143))
  have hN0 : (w.alloc (.cells zForm 143)).heap[w.heap.size]? = some (.cells zForm 143 (0, 0)) := heap_alloc_new w _
  refine (valued_any _ _ _ _ _ 10 hr0 (unhide HSM)).mono ?_
  rintro e w1 (⟨fm, n1, fv, hs, rfl, hr1, hfv, hfr1⟩ | ⟨hs, rfl, ov, hfr1⟩)
  · obtain ⟨c0, c1, c2, c3, c4, c5, f0, f1, f2, f3, f4, f5⟩ := six (hfr1.keep hN0 (by omega))
    have hfv2 := hfv
    obtain ⟨pv, iv, vv, vs, rfl, b1, b2, b3, _⟩ := hfv
    obtain ⟨ad1, cap1, rfl⟩ := ownsRow_form b1
    obtain ⟨ad2, cap2, rfl⟩ := ownsRow_form b2
    obtain ⟨ad3, cap3, rfl⟩ := ownsRow_form b3
    have HE := hide ((unhide HP).trans hs)
    have HV := hide hfv2
    have HR := hide hr1
    have HFR := hide (hfr0.trans hfr1)
    clear hr hr0 hr1 hfr0 hfr1 hs hN0 hfv2 b1 b2 b3
    go_wp2_with fail
    refine bodyPost_ret (v := .tuple #[.agg #[.int .i64 fm.kind, .string fm.name, .int .i64 fm.cells, .slice ad1 fm.params.length cap1, .slice ad2 fm.index.length cap2, .slice ad3 fm.values.length cap3], .bool true]) ?_ rfl
      (Or.inl ⟨fm, n1, _, unhide HE, rfl, (unhide HR).set6 hlt _ _ _ _ _ _, FormV_set6 (unhide HV) (by simp) (by simp) _ _ _ _ _ _, (unhide HFR).set6 (Nat.le_refl _) _ _ _ _ _ _⟩)
    simp [results, Tryz.results169, go_sem, c0, c1, c2, c3, c4, c5]
  · obtain ⟨c0, c1, c2, c3, c4, c5, f0, f1, f2, f3, f4, f5⟩ := six (hfr1.keep hN0 (by omega))
    have HE := hide ((unhide HP).trans hs)
    have HFR := hide (hfr0.trans hfr1)
    clear hr hr0 hfr0 hfr1 hs hN0
    go_wp2_with fail
    refine bodyPost_ret (v := .tuple #[.agg zForm, .bool false]) ?_ rfl (Or.inr ⟨unhide HE, rfl, _, (unhide HFR).set6 (Nat.le_refl _) _ _ _ _ _ _⟩)
    simp [results, Tryz.results169, go_sem, c0, c1, c2, c3, c4, c5]
set_option maxHeartbeats 2000000 in
set_option maxRecDepth 100000 in
theorem line_read (w : World) (R : Nat) (tv : Value) (ts : List Rt.Tk) (n : Nat) (first : ByteArray) (hr : RdS w R tv ts n noOps []) (h0 : (first.toList == [118, 97, 114]) = false) (h1 : (first.toList == [97, 114, 114, 97, 121]) = false) (h2 : (first.toList == [112, 114, 111, 99]) = false) (h3 : (first.toList == [101, 110, 100]) = false) (h4 : (first.toList == [105, 102]) = false) (h5 : (first.toList == [101, 108, 115, 101]) = false) (h6 : (first.toList == [119, 104, 105, 108, 101]) = false) (h7 : (first.toList == [115, 101, 116]) = false) (h8 : (first.toList == [112, 114, 105, 110, 116]) = false) (h9 : (first.toList == [114, 101, 97, 100]) = true) :
    Calls Tryz.prog 169 #[.pointer (some ⟨R, 0, none⟩), .string first] w (LineP (Rt.pLine first) R tv ts n w) := by
  have hlt : R < w.heap.size := World.block_lt_of_cell? w _ (cell_of_block hr.block 0 (by simp))
  have HP : Hid (Rt.pLine first (ts.drop n) = Rt.pNamed 11 (ts.drop n)) := by
    refine hide ?_
    simp [Rt.pLine, h0, h1, h2, h3, h4, h5, h6, h7, h8, h9]
  go_enter Tryz.func169, Tryz.ntmps169
  go_wp2_with fail
  obtain ⟨hr0, hfr0⟩ := hr.later ((Below.refl w.heap.size w).alloc (Nat.le_refl _) (.cells zForm 143))
  have hN0 : (w.alloc (.cells zForm 143)).heap[w.heap.size]? = some (.cells zForm 143 (0, 0)) := heap_alloc_new w _
  refine (named_any _ _ _ _ _ 11 hr0).mono ?_
  rintro e w1 (⟨fm, n1, fv, hs, rfl, hr1, hfv, hfr1⟩ | ⟨hs, rfl, ov, hfr1⟩)
  · obtain ⟨c0, c1, c2, c3, c4, c5, f0, f1, f2, f3, f4, f5⟩ := six (hfr1.keep hN0 (by omega))
    have hfv2 := hfv
    obtain ⟨pv, iv, vv, vs, rfl, b1, b2, b3, _⟩ := hfv
    obtain ⟨ad1, cap1, rfl⟩ := ownsRow_form b1
    obtain ⟨ad2, cap2, rfl⟩ := ownsRow_form b2
    obtain ⟨ad3, cap3, rfl⟩ := ownsRow_form b3
    have HE := hide ((unhide HP).trans hs)
    have HV := hide hfv2
    have HR := hide hr1
    have HFR := hide (hfr0.trans hfr1)
    clear hr hr0 hr1 hfr0 hfr1 hs hN0 hfv2 b1 b2 b3
    go_wp2_with fail
    refine bodyPost_ret (v := .tuple #[.agg #[.int .i64 fm.kind, .string fm.name, .int .i64 fm.cells, .slice ad1 fm.params.length cap1, .slice ad2 fm.index.length cap2, .slice ad3 fm.values.length cap3], .bool true]) ?_ rfl
      (Or.inl ⟨fm, n1, _, unhide HE, rfl, (unhide HR).set6 hlt _ _ _ _ _ _, FormV_set6 (unhide HV) (by simp) (by simp) _ _ _ _ _ _, (unhide HFR).set6 (Nat.le_refl _) _ _ _ _ _ _⟩)
    simp [results, Tryz.results169, go_sem, c0, c1, c2, c3, c4, c5]
  · obtain ⟨c0, c1, c2, c3, c4, c5, f0, f1, f2, f3, f4, f5⟩ := six (hfr1.keep hN0 (by omega))
    have HE := hide ((unhide HP).trans hs)
    have HFR := hide (hfr0.trans hfr1)
    clear hr hr0 hfr0 hfr1 hs hN0
    go_wp2_with fail
    refine bodyPost_ret (v := .tuple #[.agg zForm, .bool false]) ?_ rfl (Or.inr ⟨unhide HE, rfl, _, (unhide HFR).set6 (Nat.le_refl _) _ _ _ _ _ _⟩)
    simp [results, Tryz.results169, go_sem, c0, c1, c2, c3, c4, c5]
set_option maxHeartbeats 2000000 in
set_option maxRecDepth 100000 in
theorem line_call (w : World) (R : Nat) (tv : Value) (ts : List Rt.Tk) (n : Nat) (first : ByteArray) (hr : RdS w R tv ts n noOps []) (hsm : ∀ t ∈ ts, t.text.size ≤ 40000) (h0 : (first.toList == [118, 97, 114]) = false) (h1 : (first.toList == [97, 114, 114, 97, 121]) = false) (h2 : (first.toList == [112, 114, 111, 99]) = false) (h3 : (first.toList == [101, 110, 100]) = false) (h4 : (first.toList == [105, 102]) = false) (h5 : (first.toList == [101, 108, 115, 101]) = false) (h6 : (first.toList == [119, 104, 105, 108, 101]) = false) (h7 : (first.toList == [115, 101, 116]) = false) (h8 : (first.toList == [112, 114, 105, 110, 116]) = false) (h9 : (first.toList == [114, 101, 97, 100]) = false) (h10 : (first.toList == [99, 97, 108, 108]) = true) :
    Calls Tryz.prog 169 #[.pointer (some ⟨R, 0, none⟩), .string first] w (LineP (Rt.pLine first) R tv ts n w) := by
  have hlt : R < w.heap.size := World.block_lt_of_cell? w _ (cell_of_block hr.block 0 (by simp))
  have HSM := hide hsm
  clear hsm
  have HP : Hid (Rt.pLine first (ts.drop n) = Rt.pCall (ts.drop n)) := by
    refine hide ?_
    simp [Rt.pLine, h0, h1, h2, h3, h4, h5, h6, h7, h8, h9, h10]
  go_enter Tryz.func169, Tryz.ntmps169
  go_wp2_with fail
  obtain ⟨hr0, hfr0⟩ := hr.later ((Below.refl w.heap.size w).alloc (Nat.le_refl _) (.cells zForm 143))
  have hN0 : (w.alloc (.cells zForm 143)).heap[w.heap.size]? = some (.cells zForm 143 (0, 0)) := heap_alloc_new w _
  refine (call_any _ _ _ _ _ hr0 (unhide HSM)).mono ?_
  rintro e w1 (⟨fm, n1, fv, hs, rfl, hr1, hfv, hfr1⟩ | ⟨hs, rfl, ov, hfr1⟩)
  · obtain ⟨c0, c1, c2, c3, c4, c5, f0, f1, f2, f3, f4, f5⟩ := six (hfr1.keep hN0 (by omega))
    have hfv2 := hfv
    obtain ⟨pv, iv, vv, vs, rfl, b1, b2, b3, _⟩ := hfv
    obtain ⟨ad1, cap1, rfl⟩ := ownsRow_form b1
    obtain ⟨ad2, cap2, rfl⟩ := ownsRow_form b2
    obtain ⟨ad3, cap3, rfl⟩ := ownsRow_form b3
    have HE := hide ((unhide HP).trans hs)
    have HV := hide hfv2
    have HR := hide hr1
    have HFR := hide (hfr0.trans hfr1)
    clear hr hr0 hr1 hfr0 hfr1 hs hN0 hfv2 b1 b2 b3
    go_wp2_with fail
    refine bodyPost_ret (v := .tuple #[.agg #[.int .i64 fm.kind, .string fm.name, .int .i64 fm.cells, .slice ad1 fm.params.length cap1, .slice ad2 fm.index.length cap2, .slice ad3 fm.values.length cap3], .bool true]) ?_ rfl
      (Or.inl ⟨fm, n1, _, unhide HE, rfl, (unhide HR).set6 hlt _ _ _ _ _ _, FormV_set6 (unhide HV) (by simp) (by simp) _ _ _ _ _ _, (unhide HFR).set6 (Nat.le_refl _) _ _ _ _ _ _⟩)
    simp [results, Tryz.results169, go_sem, c0, c1, c2, c3, c4, c5]
  · obtain ⟨c0, c1, c2, c3, c4, c5, f0, f1, f2, f3, f4, f5⟩ := six (hfr1.keep hN0 (by omega))
    have HE := hide ((unhide HP).trans hs)
    have HFR := hide (hfr0.trans hfr1)
    clear hr hr0 hfr0 hfr1 hs hN0
    go_wp2_with fail
    refine bodyPost_ret (v := .tuple #[.agg zForm, .bool false]) ?_ rfl (Or.inr ⟨unhide HE, rfl, _, (unhide HFR).set6 (Nat.le_refl _) _ _ _ _ _ _⟩)
    simp [results, Tryz.results169, go_sem, c0, c1, c2, c3, c4, c5]
set_option maxHeartbeats 2000000 in
set_option maxRecDepth 100000 in
theorem line_return (w : World) (R : Nat) (tv : Value) (ts : List Rt.Tk) (n : Nat) (first : ByteArray) (hr : RdS w R tv ts n noOps []) (h0 : (first.toList == [118, 97, 114]) = false) (h1 : (first.toList == [97, 114, 114, 97, 121]) = false) (h2 : (first.toList == [112, 114, 111, 99]) = false) (h3 : (first.toList == [101, 110, 100]) = false) (h4 : (first.toList == [105, 102]) = false) (h5 : (first.toList == [101, 108, 115, 101]) = false) (h6 : (first.toList == [119, 104, 105, 108, 101]) = false) (h7 : (first.toList == [115, 101, 116]) = false) (h8 : (first.toList == [112, 114, 105, 110, 116]) = false) (h9 : (first.toList == [114, 101, 97, 100]) = false) (h10 : (first.toList == [99, 97, 108, 108]) = false) (h11 : (first.toList == [114, 101, 116, 117, 114, 110]) = true) :
    Calls Tryz.prog 169 #[.pointer (some ⟨R, 0, none⟩), .string first] w (LineP (Rt.pLine first) R tv ts n w) := by
  have hlt : R < w.heap.size := World.block_lt_of_cell? w _ (cell_of_block hr.block 0 (by simp))
  have HP : Hid (Rt.pLine first (ts.drop n) = some (⟨13, ⟨#[]⟩, 0, [], [], []⟩, ts.drop n)) := by
    refine hide ?_
    simp [Rt.pLine, h0, h1, h2, h3, h4, h5, h6, h7, h8, h9, h10, h11]
  have HR := hide (hr.later ((Below.refl w.heap.size w).alloc (Nat.le_refl _) (.cells #[.int .i64 13, .string ⟨#[]⟩, .int .i64 0, noOps, noOps, noOps] 143)))
  clear hr
  go_enter Tryz.func169, Tryz.ntmps169
  go_wp2_with fail
  refine bodyPost_ret (v := .tuple #[.agg #[.int .i64 13, .string ⟨#[]⟩, .int .i64 0, noOps, noOps, noOps], .bool true]) ?_ rfl
    (Or.inl ⟨_, n, _, unhide HP, rfl, (unhide HR).1, FormV_plain _ _ _ _ _, (unhide HR).2⟩)
  simp [results, Tryz.results169, go_sem]
set_option maxHeartbeats 2000000 in
set_option maxRecDepth 100000 in
theorem line_other (w : World) (R : Nat) (tv : Value) (ts : List Rt.Tk) (n : Nat) (first : ByteArray) (hr : RdS w R tv ts n noOps []) (h0 : (first.toList == [118, 97, 114]) = false) (h1 : (first.toList == [97, 114, 114, 97, 121]) = false) (h2 : (first.toList == [112, 114, 111, 99]) = false) (h3 : (first.toList == [101, 110, 100]) = false) (h4 : (first.toList == [105, 102]) = false) (h5 : (first.toList == [101, 108, 115, 101]) = false) (h6 : (first.toList == [119, 104, 105, 108, 101]) = false) (h7 : (first.toList == [115, 101, 116]) = false) (h8 : (first.toList == [112, 114, 105, 110, 116]) = false) (h9 : (first.toList == [114, 101, 97, 100]) = false) (h10 : (first.toList == [99, 97, 108, 108]) = false) (h11 : (first.toList == [114, 101, 116, 117, 114, 110]) = false) :
    Calls Tryz.prog 169 #[.pointer (some ⟨R, 0, none⟩), .string first] w (LineP (Rt.pLine first) R tv ts n w) := by
  have hlt : R < w.heap.size := World.block_lt_of_cell? w _ (cell_of_block hr.block 0 (by simp))
  have HP : Hid (Rt.pLine first (ts.drop n) = none) := by
    refine hide ?_
    simp [Rt.pLine, h0, h1, h2, h3, h4, h5, h6, h7, h8, h9, h10, h11]
  have HR := hide (hr.later ((Below.refl w.heap.size w).alloc (Nat.le_refl _) (.cells zForm 143)))
  clear hr
  go_enter Tryz.func169, Tryz.ntmps169
  go_wp2_with fail
  refine bodyPost_ret (v := .tuple #[.agg zForm, .bool false]) ?_ rfl (Or.inr ⟨unhide HP, rfl, _, (unhide HR).2⟩)
  simp [results, Tryz.results169, go_sem]
theorem line_any (w : World) (R : Nat) (tv : Value) (ts : List Rt.Tk) (n : Nat) (first : ByteArray) (hr : RdS w R tv ts n noOps []) (hsm : ∀ t ∈ ts, t.text.size ≤ 40000) :
    Calls Tryz.prog 169 #[.pointer (some ⟨R, 0, none⟩), .string first] w (LineP (Rt.pLine first) R tv ts n w) := by
  cases h0 : (first.toList == [118, 97, 114]) with
  | true => exact line_var w R tv ts n first hr h0
  | false =>
  cases h1 : (first.toList == [97, 114, 114, 97, 121]) with
  | true => exact line_array w R tv ts n first hr hsm h0 h1
  | false =>
  cases h2 : (first.toList == [112, 114, 111, 99]) with
  | true => exact line_proc w R tv ts n first hr h0 h1 h2
  | false =>
  cases h3 : (first.toList == [101, 110, 100]) with
  | true => exact line_end w R tv ts n first hr h0 h1 h2 h3
  | false =>
  cases h4 : (first.toList == [105, 102]) with
  | true => exact line_if w R tv ts n first hr hsm h0 h1 h2 h3 h4
  | false =>
  cases h5 : (first.toList == [101, 108, 115, 101]) with
  | true => exact line_else w R tv ts n first hr h0 h1 h2 h3 h4 h5
  | false =>
  cases h6 : (first.toList == [119, 104, 105, 108, 101]) with
  | true => exact line_while w R tv ts n first hr hsm h0 h1 h2 h3 h4 h5 h6
  | false =>
  cases h7 : (first.toList == [115, 101, 116]) with
  | true => exact line_set w R tv ts n first hr hsm h0 h1 h2 h3 h4 h5 h6 h7
  | false =>
  cases h8 : (first.toList == [112, 114, 105, 110, 116]) with
  | true => exact line_print w R tv ts n first hr hsm h0 h1 h2 h3 h4 h5 h6 h7 h8
  | false =>
  cases h9 : (first.toList == [114, 101, 97, 100]) with
  | true => exact line_read w R tv ts n first hr h0 h1 h2 h3 h4 h5 h6 h7 h8 h9
  | false =>
  cases h10 : (first.toList == [99, 97, 108, 108]) with
  | true => exact line_call w R tv ts n first hr hsm h0 h1 h2 h3 h4 h5 h6 h7 h8 h9 h10
  | false =>
  cases h11 : (first.toList == [114, 101, 116, 117, 114, 110]) with
  | true => exact line_return w R tv ts n first hr h0 h1 h2 h3 h4 h5 h6 h7 h8 h9 h10 h11
  | false =>
  exact line_other w R tv ts n first hr h0 h1 h2 h3 h4 h5 h6 h7 h8 h9 h10 h11
end Go.Proofs.YthleadfkfnnadaaGreat
