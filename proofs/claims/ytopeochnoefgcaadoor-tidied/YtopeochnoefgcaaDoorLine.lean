/- The walks of the readers of lines: line. -/
import Derived.Test.YtopeochnoefgcaaDoorForms
namespace Go.Proofs.YtopeochnoefgcaaDoor
open Go.RowKit


theorem FormV_set6 {w : World} {B B' N : Nat} {v : Array Value} {fm : Rt.PForm} (h : FormV w B v fm) (hN : N < B) (hB : B' ≤ B) (a b c d e f : Value) : FormV (W6 w N a b c d e f) B' v fm := by
  obtain ⟨pv, iv, vv, vs, rfl, h1, h2, h3, h4⟩ := h
  have hx : ∀ (t : TypeId) (size n : Nat) (v : Value) (xs : List Value), w.ownsRow B t size v n xs → (W6 w N a b c d e f).ownsRow B' t size v n xs := fun t size n v xs h => ownsRow_mono (own_set6 h (fun g hg => by have := (h.lt g hg).1; omega) _ _ _ _ _ _) hB
  refine ⟨pv, iv, vv, vs, rfl, hx _ _ _ _ _ h1, hx _ _ _ _ _ h2, hx _ _ _ _ _ h3, ?_⟩
  exact exprs_mono hB _ _ (ExprsR.map (fun x o h => own_set6 h (fun g hg => by have := (h.lt g hg).1; omega) _ _ _ _ _ _) _ _ h4)

set_option maxHeartbeats 2000000 in
set_option maxRecDepth 100000 in
theorem line_var (w : World) (R : Nat) (tv : Value) (ts : List Rt.Tk) (n : Nat) (first : ByteArray) (hr : RdS w R tv ts n noOps []) (h0 : (first.toList == [118, 97, 114]) = true) :
    Calls Tryd.prog 39 #[.pointer (some ⟨R, 0, none⟩), .string first] w (LineP (Rt.pLine first) R tv ts n w) := by
  have hlt : R < w.heap.size := World.block_lt_of_cell? w _ (cell_of_block hr.block 0 (by simp))
  have HP : Hid (Rt.pLine first (ts.drop n) = Rt.pNamed 1 (ts.drop n)) := by
    refine hide ?_
    simp [Rt.pLine, h0]
  go_enter Tryd.func39, Tryd.ntmps39
  go_wp2_with fail
  obtain ⟨hr0, hfr0⟩ := hr.later ((Below.refl w.heap.size w).alloc (Nat.le_refl _) (.cells zForm 62))
  have hN0 : (w.alloc (.cells zForm 62)).heap[w.heap.size]? = some (.cells zForm 62 (0, 0)) := heap_alloc_new w _
  refine (named_any _ _ _ _ _ 1 hr0).mono ?_
  rintro e w1 (⟨fm, n1, fv, hs, rfl, hr1, hfv, hfr1⟩ | ⟨hs, rfl, ov, hfr1⟩)
  · obtain ⟨c0, c1, c2, c3, c4, c5, f0, f1, f2, f3, f4, f5⟩ := six (hfr1.keep hN0 (by omega))
    have hfv2 := hfv
    obtain ⟨pv, iv, vv, vs, rfl, b1, b2, b3, _⟩ := hfv
    obtain ⟨ad1, cap1, rfl⟩ := ownsRow_form b1
    obtain ⟨ad2, cap2, rfl⟩ := ownsRow_form b2
    obtain ⟨ad3, cap3, rfl⟩ := ownsRow_form b3
    have HE := hide ((unhide HP).trans hs)
    have HV := hide hfv2
    have HR := hide hr1
    have HFR := hide (hfr0.trans hfr1)
    clear hr hr0 hr1 hfr0 hfr1 hs hN0 hfv2 b1 b2 b3
    go_wp2_with fail
    refine bodyPost_ret (v := .tuple #[.agg #[.int .i64 fm.kind, .string fm.name, .int .i64 fm.cells, .slice ad1 fm.params.length cap1, .slice ad2 fm.index.length cap2, .slice ad3 fm.values.length cap3], .bool true]) ?_ rfl
      (Or.inl ⟨fm, n1, _, unhide HE, rfl, (unhide HR).set6 hlt _ _ _ _ _ _, FormV_set6 (unhide HV) (by simp) (by simp) _ _ _ _ _ _, (unhide HFR).set6 (Nat.le_refl _) _ _ _ _ _ _⟩)
    simp [results, Tryd.results39, go_sem, c0, c1, c2, c3, c4, c5]
  · obtain ⟨c0, c1, c2, c3, c4, c5, f0, f1, f2, f3, f4, f5⟩ := six (hfr1.keep hN0 (by omega))
    have HE := hide ((unhide HP).trans hs)
    have HFR := hide (hfr0.trans hfr1)
    clear hr hr0 hfr0 hfr1 hs hN0
    go_wp2_with fail
    refine bodyPost_ret (v := .tuple #[.agg zForm, .bool false]) ?_ rfl (Or.inr ⟨unhide HE, rfl, _, (unhide HFR).set6 (Nat.le_refl _) _ _ _ _ _ _⟩)
    simp [results, Tryd.results39, go_sem, c0, c1, c2, c3, c4, c5]

set_option maxHeartbeats 2000000 in
set_option maxRecDepth 100000 in
theorem line_array (w : World) (R : Nat) (tv : Value) (ts : List Rt.Tk) (n : Nat) (first : ByteArray) (hr : RdS w R tv ts n noOps []) (hsm : ∀ t ∈ ts, t.text.size ≤ 40000) (h0 : (first.toList == [118, 97, 114]) = false) (h1 : (first.toList == [97, 114, 114, 97, 121]) = true) :
    Calls Tryd.prog 39 #[.pointer (some ⟨R, 0, none⟩), .string first] w (LineP (Rt.pLine first) R tv ts n w) := by
  have hlt : R < w.heap.size := World.block_lt_of_cell? w _ (cell_of_block hr.block 0 (by simp))
  have HSM := hide hsm
  clear hsm
  have HP : Hid (Rt.pLine first (ts.drop n) = Rt.pArray (ts.drop n)) := by
    refine hide ?_
    simp [Rt.pLine, h0, h1]
  go_enter Tryd.func39, Tryd.ntmps39
  go_wp2_with fail
  obtain ⟨hr0, hfr0⟩ := hr.later ((Below.refl w.heap.size w).alloc (Nat.le_refl _) (.cells zForm 62))
  have hN0 : (w.alloc (.cells zForm 62)).heap[w.heap.size]? = some (.cells zForm 62 (0, 0)) := heap_alloc_new w _
  refine (array_any _ _ _ _ _ hr0 (unhide HSM)).mono ?_
  rintro e w1 (⟨fm, n1, fv, hs, rfl, hr1, hfv, hfr1⟩ | ⟨hs, rfl, ov, hfr1⟩)
  · obtain ⟨c0, c1, c2, c3, c4, c5, f0, f1, f2, f3, f4, f5⟩ := six (hfr1.keep hN0 (by omega))
    have hfv2 := hfv
    obtain ⟨pv, iv, vv, vs, rfl, b1, b2, b3, _⟩ := hfv
    obtain ⟨ad1, cap1, rfl⟩ := ownsRow_form b1
    obtain ⟨ad2, cap2, rfl⟩ := ownsRow_form b2
    obtain ⟨ad3, cap3, rfl⟩ := ownsRow_form b3
    have HE := hide ((unhide HP).trans hs)
    have HV := hide hfv2
    have HR := hide hr1
    have HFR := hide (hfr0.trans hfr1)
    clear hr hr0 hr1 hfr0 hfr1 hs hN0 hfv2 b1 b2 b3
    go_wp2_with fail
    refine bodyPost_ret (v := .tuple #[.agg #[.int .i64 fm.kind, .string fm.name, .int .i64 fm.cells, .slice ad1 fm.params.length cap1, .slice ad2 fm.index.length cap2, .slice ad3 fm.values.length cap3], .bool true]) ?_ rfl
      (Or.inl ⟨fm, n1, _, unhide HE, rfl, (unhide HR).set6 hlt _ _ _ _ _ _, FormV_set6 (unhide HV) (by simp) (by simp) _ _ _ _ _ _, (unhide HFR).set6 (Nat.le_refl _) _ _ _ _ _ _⟩)
    simp [results, Tryd.results39, go_sem, c0, c1, c2, c3, c4, c5]
  · obtain ⟨c0, c1, c2, c3, c4, c5, f0, f1, f2, f3, f4, f5⟩ := six (hfr1.keep hN0 (by omega))
    have HE := hide ((unhide HP).trans hs)
    have HFR := hide (hfr0.trans hfr1)
    clear hr hr0 hfr0 hfr1 hs hN0
    go_wp2_with fail
    refine bodyPost_ret (v := .tuple #[.agg zForm, .bool false]) ?_ rfl (Or.inr ⟨unhide HE, rfl, _, (unhide HFR).set6 (Nat.le_refl _) _ _ _ _ _ _⟩)
    simp [results, Tryd.results39, go_sem, c0, c1, c2, c3, c4, c5]

set_option maxHeartbeats 2000000 in
set_option maxRecDepth 100000 in
theorem line_proc (w : World) (R : Nat) (tv : Value) (ts : List Rt.Tk) (n : Nat) (first : ByteArray) (hr : RdS w R tv ts n noOps []) (h0 : (first.toList == [118, 97, 114]) = false) (h1 : (first.toList == [97, 114, 114, 97, 121]) = false) (h2 : (first.toList == [112, 114, 111, 99]) = true) :
    Calls Tryd.prog 39 #[.pointer (some ⟨R, 0, none⟩), .string first] w (LineP (Rt.pLine first) R tv ts n w) := by
  have hlt : R < w.heap.size := World.block_lt_of_cell? w _ (cell_of_block hr.block 0 (by simp))
  have HP : Hid (Rt.pLine first (ts.drop n) = Rt.pProc (ts.drop n)) := by
    refine hide ?_
    simp [Rt.pLine, h0, h1, h2]
  go_enter Tryd.func39, Tryd.ntmps39
  go_wp2_with fail
  obtain ⟨hr0, hfr0⟩ := hr.later ((Below.refl w.heap.size w).alloc (Nat.le_refl _) (.cells zForm 62))
  have hN0 : (w.alloc (.cells zForm 62)).heap[w.heap.size]? = some (.cells zForm 62 (0, 0)) := heap_alloc_new w _
  refine (procedure_any _ _ _ _ _ hr0).mono ?_
  rintro e w1 (⟨fm, n1, fv, hs, rfl, hr1, hfv, hfr1⟩ | ⟨hs, rfl, ov, hfr1⟩)
  · obtain ⟨c0, c1, c2, c3, c4, c5, f0, f1, f2, f3, f4, f5⟩ := six (hfr1.keep hN0 (by omega))
    have hfv2 := hfv
    obtain ⟨pv, iv, vv, vs, rfl, b1, b2, b3, _⟩ := hfv
    obtain ⟨ad1, cap1, rfl⟩ := ownsRow_form b1
    obtain ⟨ad2, cap2, rfl⟩ := ownsRow_form b2
    obtain ⟨ad3, cap3, rfl⟩ := ownsRow_form b3
    have HE := hide ((unhide HP).trans hs)
    have HV := hide hfv2
    have HR := hide hr1
    have HFR := hide (hfr0.trans hfr1)
    clear hr hr0 hr1 hfr0 hfr1 hs hN0 hfv2 b1 b2 b3
    go_wp2_with fail
    refine bodyPost_ret (v := .tuple #[.agg #[.int .i64 fm.kind, .string fm.name, .int .i64 fm.cells, .slice ad1 fm.params.length cap1, .slice ad2 fm.index.length cap2, .slice ad3 fm.values.length cap3], .bool true]) ?_ rfl
      (Or.inl ⟨fm, n1, _, unhide HE, rfl, (unhide HR).set6 hlt _ _ _ _ _ _, FormV_set6 (unhide HV) (by simp) (by simp) _ _ _ _ _ _, (unhide HFR).set6 (Nat.le_refl _) _ _ _ _ _ _⟩)
    simp [results, Tryd.results39, go_sem, c0, c1, c2, c3, c4, c5]
  · obtain ⟨c0, c1, c2, c3, c4, c5, f0, f1, f2, f3, f4, f5⟩ := six (hfr1.keep hN0 (by omega))
    have HE := hide ((unhide HP).trans hs)
    have HFR := hide (hfr0.trans hfr1)
    clear hr hr0 hfr0 hfr1 hs hN0
    go_wp2_with fail
    refine bodyPost_ret (v := .tuple #[.agg zForm, .bool false]) ?_ rfl (Or.inr ⟨unhide HE, rfl, _, (unhide HFR).set6 (Nat.le_refl _) _ _ _ _ _ _⟩)
    simp [results, Tryd.results39, go_sem, c0, c1, c2, c3, c4, c5]

set_option maxHeartbeats 2000000 in
set_option maxRecDepth 100000 in
theorem line_end (w : World) (R : Nat) (tv : Value) (ts : List Rt.Tk) (n : Nat) (first : ByteArray) (hr : RdS w R tv ts n noOps []) (h0 : (first.toList == [118, 97, 114]) = false) (h1 : (first.toList == [97, 114, 114, 97, 121]) = false) (h2 : (first.toList == [112, 114, 111, 99]) = false) (h3 : (first.toList == [101, 110, 100]) = true) :
    Calls Tryd.prog 39 #[.pointer (some ⟨R, 0, none⟩), .string first] w (LineP (Rt.pLine first) R tv ts n w) := by
  have hlt : R < w.heap.size := World.block_lt_of_cell? w _ (cell_of_block hr.block 0 (by simp))
  have HP : Hid (Rt.pLine first (ts.drop n) = some (⟨4, ⟨#[]⟩, 0, [], [], []⟩, ts.drop n)) := by
    refine hide ?_
    simp [Rt.pLine, h0, h1, h2, h3]
  have HR := hide (hr.later ((Below.refl w.heap.size w).alloc (Nat.le_refl _) (.cells #[.int .i64 4, .string ⟨#[]⟩, .int .i64 0, noOps, noOps, noOps] 62)))
  clear hr
  go_enter Tryd.func39, Tryd.ntmps39
  go_wp2_with fail
  refine bodyPost_ret (v := .tuple #[.agg #[.int .i64 4, .string ⟨#[]⟩, .int .i64 0, noOps, noOps, noOps], .bool true]) ?_ rfl
    (Or.inl ⟨_, n, _, unhide HP, rfl, (unhide HR).1, FormV_plain _ _ _ _ _, (unhide HR).2⟩)
  simp [results, Tryd.results39, go_sem]

set_option maxHeartbeats 2000000 in
set_option maxRecDepth 100000 in
theorem line_if (w : World) (R : Nat) (tv : Value) (ts : List Rt.Tk) (n : Nat) (first : ByteArray) (hr : RdS w R tv ts n noOps []) (hsm : ∀ t ∈ ts, t.text.size ≤ 40000) (h0 : (first.toList == [118, 97, 114]) = false) (h1 : (first.toList == [97, 114, 114, 97, 121]) = false) (h2 : (first.toList == [112, 114, 111, 99]) = false) (h3 : (first.toList == [101, 110, 100]) = false) (h4 : (first.toList == [105, 102]) = true) :
    Calls Tryd.prog 39 #[.pointer (some ⟨R, 0, none⟩), .string first] w (LineP (Rt.pLine first) R tv ts n w) := by
  have hlt : R < w.heap.size := World.block_lt_of_cell? w _ (cell_of_block hr.block 0 (by simp))
  have HSM := hide hsm
  clear hsm
  have HP : Hid (Rt.pLine first (ts.drop n) = Rt.pValued 5 (ts.drop n)) := by
    refine hide ?_
    simp [Rt.pLine, h0, h1, h2, h3, h4]
  go_enter Tryd.func39, Tryd.ntmps39
  go_wp2_with fail
  obtain ⟨hr0, hfr0⟩ := hr.later ((Below.refl w.heap.size w).alloc (Nat.le_refl _) (.cells zForm 62))
  have hN0 : (w.alloc (.cells zForm 62)).heap[w.heap.size]? = some (.cells zForm 62 (0, 0)) := heap_alloc_new w _
  refine (valued_any _ _ _ _ _ 5 hr0 (unhide HSM)).mono ?_
  rintro e w1 (⟨fm, n1, fv, hs, rfl, hr1, hfv, hfr1⟩ | ⟨hs, rfl, ov, hfr1⟩)
  · obtain ⟨c0, c1, c2, c3, c4, c5, f0, f1, f2, f3, f4, f5⟩ := six (hfr1.keep hN0 (by omega))
    have hfv2 := hfv
    obtain ⟨pv, iv, vv, vs, rfl, b1, b2, b3, _⟩ := hfv
    obtain ⟨ad1, cap1, rfl⟩ := ownsRow_form b1
    obtain ⟨ad2, cap2, rfl⟩ := ownsRow_form b2
    obtain ⟨ad3, cap3, rfl⟩ := ownsRow_form b3
    have HE := hide ((unhide HP).trans hs)
    have HV := hide hfv2
    have HR := hide hr1
    have HFR := hide (hfr0.trans hfr1)
    clear hr hr0 hr1 hfr0 hfr1 hs hN0 hfv2 b1 b2 b3
    go_wp2_with fail
    refine bodyPost_ret (v := .tuple #[.agg #[.int .i64 fm.kind, .string fm.name, .int .i64 fm.cells, .slice ad1 fm.params.length cap1, .slice ad2 fm.index.length cap2, .slice ad3 fm.values.length cap3], .bool true]) ?_ rfl
      (Or.inl ⟨fm, n1, _, unhide HE, rfl, (unhide HR).set6 hlt _ _ _ _ _ _, FormV_set6 (unhide HV) (by simp) (by simp) _ _ _ _ _ _, (unhide HFR).set6 (Nat.le_refl _) _ _ _ _ _ _⟩)
    simp [results, Tryd.results39, go_sem, c0, c1, c2, c3, c4, c5]
  · obtain ⟨c0, c1, c2, c3, c4, c5, f0, f1, f2, f3, f4, f5⟩ := six (hfr1.keep hN0 (by omega))
    have HE := hide ((unhide HP).trans hs)
    have HFR := hide (hfr0.trans hfr1)
    clear hr hr0 hfr0 hfr1 hs hN0
    go_wp2_with fail
    refine bodyPost_ret (v := .tuple #[.agg zForm, .bool false]) ?_ rfl (Or.inr ⟨unhide HE, rfl, _, (unhide HFR).set6 (Nat.le_refl _) _ _ _ _ _ _⟩)
    simp [results, Tryd.results39, go_sem, c0, c1, c2, c3, c4, c5]

set_option maxHeartbeats 2000000 in
set_option maxRecDepth 100000 in
theorem line_else (w : World) (R : Nat) (tv : Value) (ts : List Rt.Tk) (n : Nat) (first : ByteArray) (hr : RdS w R tv ts n noOps []) (h0 : (first.toList == [118, 97, 114]) = false) (h1 : (first.toList == [97, 114, 114, 97, 121]) = false) (h2 : (first.toList == [112, 114, 111, 99]) = false) (h3 : (first.toList == [101, 110, 100]) = false) (h4 : (first.toList == [105, 102]) = false) (h5 : (first.toList == [101, 108, 115, 101]) = true) :
    Calls Tryd.prog 39 #[.pointer (some ⟨R, 0, none⟩), .string first] w (LineP (Rt.pLine first) R tv ts n w) := by
  have hlt : R < w.heap.size := World.block_lt_of_cell? w _ (cell_of_block hr.block 0 (by simp))
  have HP : Hid (Rt.pLine first (ts.drop n) = some (⟨6, ⟨#[]⟩, 0, [], [], []⟩, ts.drop n)) := by
    refine hide ?_
    simp [Rt.pLine, h0, h1, h2, h3, h4, h5]
  have HR := hide (hr.later ((Below.refl w.heap.size w).alloc (Nat.le_refl _) (.cells #[.int .i64 6, .string ⟨#[]⟩, .int .i64 0, noOps, noOps, noOps] 62)))
  clear hr
  go_enter Tryd.func39, Tryd.ntmps39
  go_wp2_with fail
  refine bodyPost_ret (v := .tuple #[.agg #[.int .i64 6, .string ⟨#[]⟩, .int .i64 0, noOps, noOps, noOps], .bool true]) ?_ rfl
    (Or.inl ⟨_, n, _, unhide HP, rfl, (unhide HR).1, FormV_plain _ _ _ _ _, (unhide HR).2⟩)
  simp [results, Tryd.results39, go_sem]

set_option maxHeartbeats 2000000 in
set_option maxRecDepth 100000 in
theorem line_while (w : World) (R : Nat) (tv : Value) (ts : List Rt.Tk) (n : Nat) (first : ByteArray) (hr : RdS w R tv ts n noOps []) (hsm : ∀ t ∈ ts, t.text.size ≤ 40000) (h0 : (first.toList == [118, 97, 114]) = false) (h1 : (first.toList == [97, 114, 114, 97, 121]) = false) (h2 : (first.toList == [112, 114, 111, 99]) = false) (h3 : (first.toList == [101, 110, 100]) = false) (h4 : (first.toList == [105, 102]) = false) (h5 : (first.toList == [101, 108, 115, 101]) = false) (h6 : (first.toList == [119, 104, 105, 108, 101]) = true) :
    Calls Tryd.prog 39 #[.pointer (some ⟨R, 0, none⟩), .string first] w (LineP (Rt.pLine first) R tv ts n w) := by
  have hlt : R < w.heap.size := World.block_lt_of_cell? w _ (cell_of_block hr.block 0 (by simp))
  have HSM := hide hsm
  clear hsm
  have HP : Hid (Rt.pLine first (ts.drop n) = Rt.pValued 7 (ts.drop n)) := by
    refine hide ?_
    simp [Rt.pLine, h0, h1, h2, h3, h4, h5, h6]
  go_enter Tryd.func39, Tryd.ntmps39
  go_wp2_with fail
  obtain ⟨hr0, hfr0⟩ := hr.later ((Below.refl w.heap.size w).alloc (Nat.le_refl _) (.cells zForm 62))
  have hN0 : (w.alloc (.cells zForm 62)).heap[w.heap.size]? = some (.cells zForm 62 (0, 0)) := heap_alloc_new w _
  refine (valued_any _ _ _ _ _ 7 hr0 (unhide HSM)).mono ?_
  rintro e w1 (⟨fm, n1, fv, hs, rfl, hr1, hfv, hfr1⟩ | ⟨hs, rfl, ov, hfr1⟩)
  · obtain ⟨c0, c1, c2, c3, c4, c5, f0, f1, f2, f3, f4, f5⟩ := six (hfr1.keep hN0 (by omega))
    have hfv2 := hfv
    obtain ⟨pv, iv, vv, vs, rfl, b1, b2, b3, _⟩ := hfv
    obtain ⟨ad1, cap1, rfl⟩ := ownsRow_form b1
    obtain ⟨ad2, cap2, rfl⟩ := ownsRow_form b2
    obtain ⟨ad3, cap3, rfl⟩ := ownsRow_form b3
    have HE := hide ((unhide HP).trans hs)
    have HV := hide hfv2
    have HR := hide hr1
    have HFR := hide (hfr0.trans hfr1)
    clear hr hr0 hr1 hfr0 hfr1 hs hN0 hfv2 b1 b2 b3
    go_wp2_with fail
    refine bodyPost_ret (v := .tuple #[.agg #[.int .i64 fm.kind, .string fm.name, .int .i64 fm.cells, .slice ad1 fm.params.length cap1, .slice ad2 fm.index.length cap2, .slice ad3 fm.values.length cap3], .bool true]) ?_ rfl
      (Or.inl ⟨fm, n1, _, unhide HE, rfl, (unhide HR).set6 hlt _ _ _ _ _ _, FormV_set6 (unhide HV) (by simp) (by simp) _ _ _ _ _ _, (unhide HFR).set6 (Nat.le_refl _) _ _ _ _ _ _⟩)
    simp [results, Tryd.results39, go_sem, c0, c1, c2, c3, c4, c5]
  · obtain ⟨c0, c1, c2, c3, c4, c5, f0, f1, f2, f3, f4, f5⟩ := six (hfr1.keep hN0 (by omega))
    have HE := hide ((unhide HP).trans hs)
    have HFR := hide (hfr0.trans hfr1)
    clear hr hr0 hfr0 hfr1 hs hN0
    go_wp2_with fail
    refine bodyPost_ret (v := .tuple #[.agg zForm, .bool false]) ?_ rfl (Or.inr ⟨unhide HE, rfl, _, (unhide HFR).set6 (Nat.le_refl _) _ _ _ _ _ _⟩)
    simp [results, Tryd.results39, go_sem, c0, c1, c2, c3, c4, c5]

set_option maxHeartbeats 2000000 in
set_option maxRecDepth 100000 in
theorem line_set (w : World) (R : Nat) (tv : Value) (ts : List Rt.Tk) (n : Nat) (first : ByteArray) (hr : RdS w R tv ts n noOps []) (hsm : ∀ t ∈ ts, t.text.size ≤ 40000) (h0 : (first.toList == [118, 97, 114]) = false) (h1 : (first.toList == [97, 114, 114, 97, 121]) = false) (h2 : (first.toList == [112, 114, 111, 99]) = false) (h3 : (first.toList == [101, 110, 100]) = false) (h4 : (first.toList == [105, 102]) = false) (h5 : (first.toList == [101, 108, 115, 101]) = false) (h6 : (first.toList == [119, 104, 105, 108, 101]) = false) (h7 : (first.toList == [115, 101, 116]) = true) :
    Calls Tryd.prog 39 #[.pointer (some ⟨R, 0, none⟩), .string first] w (LineP (Rt.pLine first) R tv ts n w) := by
  have hlt : R < w.heap.size := World.block_lt_of_cell? w _ (cell_of_block hr.block 0 (by simp))
  have HSM := hide hsm
  clear hsm
  have HP : Hid (Rt.pLine first (ts.drop n) = Rt.pSet (ts.drop n)) := by
    refine hide ?_
    simp [Rt.pLine, h0, h1, h2, h3, h4, h5, h6, h7]
  go_enter Tryd.func39, Tryd.ntmps39
  go_wp2_with fail
  obtain ⟨hr0, hfr0⟩ := hr.later ((Below.refl w.heap.size w).alloc (Nat.le_refl _) (.cells zForm 62))
  have hN0 : (w.alloc (.cells zForm 62)).heap[w.heap.size]? = some (.cells zForm 62 (0, 0)) := heap_alloc_new w _
  refine (set_any _ _ _ _ _ hr0 (unhide HSM)).mono ?_
  rintro e w1 (⟨fm, n1, fv, hs, rfl, hr1, hfv, hfr1⟩ | ⟨hs, rfl, ov, hfr1⟩)
  · obtain ⟨c0, c1, c2, c3, c4, c5, f0, f1, f2, f3, f4, f5⟩ := six (hfr1.keep hN0 (by omega))
    have hfv2 := hfv
    obtain ⟨pv, iv, vv, vs, rfl, b1, b2, b3, _⟩ := hfv
    obtain ⟨ad1, cap1, rfl⟩ := ownsRow_form b1
    obtain ⟨ad2, cap2, rfl⟩ := ownsRow_form b2
    obtain ⟨ad3, cap3, rfl⟩ := ownsRow_form b3
    have HE := hide ((unhide HP).trans hs)
    have HV := hide hfv2
    have HR := hide hr1
    have HFR := hide (hfr0.trans hfr1)
    clear hr hr0 hr1 hfr0 hfr1 hs hN0 hfv2 b1 b2 b3
    go_wp2_with fail
    refine bodyPost_ret (v := .tuple #[.agg #[.int .i64 fm.kind, .string fm.name, .int .i64 fm.cells, .slice ad1 fm.params.length cap1, .slice ad2 fm.index.length cap2, .slice ad3 fm.values.length cap3], .bool true]) ?_ rfl
      (Or.inl ⟨fm, n1, _, unhide HE, rfl, (unhide HR).set6 hlt _ _ _ _ _ _, FormV_set6 (unhide HV) (by simp) (by simp) _ _ _ _ _ _, (unhide HFR).set6 (Nat.le_refl _) _ _ _ _ _ _⟩)
    simp [results, Tryd.results39, go_sem, c0, c1, c2, c3, c4, c5]
  · obtain ⟨c0, c1, c2, c3, c4, c5, f0, f1, f2, f3, f4, f5⟩ := six (hfr1.keep hN0 (by omega))
    have HE := hide ((unhide HP).trans hs)
    have HFR := hide (hfr0.trans hfr1)
    clear hr hr0 hfr0 hfr1 hs hN0
    go_wp2_with fail
    refine bodyPost_ret (v := .tuple #[.agg zForm, .bool false]) ?_ rfl (Or.inr ⟨unhide HE, rfl, _, (unhide HFR).set6 (Nat.le_refl _) _ _ _ _ _ _⟩)
    simp [results, Tryd.results39, go_sem, c0, c1, c2, c3, c4, c5]

set_option maxHeartbeats 2000000 in
set_option maxRecDepth 100000 in
theorem line_print (w : World) (R : Nat) (tv : Value) (ts : List Rt.Tk) (n : Nat) (first : ByteArray) (hr : RdS w R tv ts n noOps []) (hsm : ∀ t ∈ ts, t.text.size ≤ 40000) (h0 : (first.toList == [118, 97, 114]) = false) (h1 : (first.toList == [97, 114, 114, 97, 121]) = false) (h2 : (first.toList == [112, 114, 111, 99]) = false) (h3 : (first.toList == [101, 110, 100]) = false) (h4 : (first.toList == [105, 102]) = false) (h5 : (first.toList == [101, 108, 115, 101]) = false) (h6 : (first.toList == [119, 104, 105, 108, 101]) = false) (h7 : (first.toList == [115, 101, 116]) = false) (h8 : (first.toList == [112, 114, 105, 110, 116]) = true) :
    Calls Tryd.prog 39 #[.pointer (some ⟨R, 0, none⟩), .string first] w (LineP (Rt.pLine first) R tv ts n w) := by
  have hlt : R < w.heap.size := World.block_lt_of_cell? w _ (cell_of_block hr.block 0 (by simp))
  have HSM := hide hsm
  clear hsm
  have HP : Hid (Rt.pLine first (ts.drop n) = Rt.pValued 10 (ts.drop n)) := by
    refine hide ?_
    simp [Rt.pLine, h0, h1, h2, h3, h4, h5, h6, h7, h8]
  go_enter Tryd.func39, Tryd.ntmps39
  go_wp2_with fail
  obtain ⟨hr0, hfr0⟩ := hr.later ((Below.refl w.heap.size w).alloc (Nat.le_refl _) (.cells zForm 62))
  have hN0 : (w.alloc (.cells zForm 62)).heap[w.heap.size]? = some (.cells zForm 62 (0, 0)) := heap_alloc_new w _
  refine (valued_any _ _ _ _ _ 10 hr0 (unhide HSM)).mono ?_
  rintro e w1 (⟨fm, n1, fv, hs, rfl, hr1, hfv, hfr1⟩ | ⟨hs, rfl, ov, hfr1⟩)
  · obtain ⟨c0, c1, c2, c3, c4, c5, f0, f1, f2, f3, f4, f5⟩ := six (hfr1.keep hN0 (by omega))
    have hfv2 := hfv
    obtain ⟨pv, iv, vv, vs, rfl, b1, b2, b3, _⟩ := hfv
    obtain ⟨ad1, cap1, rfl⟩ := ownsRow_form b1
    obtain ⟨ad2, cap2, rfl⟩ := ownsRow_form b2
    obtain ⟨ad3, cap3, rfl⟩ := ownsRow_form b3
    have HE := hide ((unhide HP).trans hs)
    have HV := hide hfv2
    have HR := hide hr1
    have HFR := hide (hfr0.trans hfr1)
    clear hr hr0 hr1 hfr0 hfr1 hs hN0 hfv2 b1 b2 b3
    go_wp2_with fail
    refine bodyPost_ret (v := .tuple #[.agg #[.int .i64 fm.kind, .string fm.name, .int .i64 fm.cells, .slice ad1 fm.params.length cap1, .slice ad2 fm.index.length cap2, .slice ad3 fm.values.length cap3], .bool true]) ?_ rfl
      (Or.inl ⟨fm, n1, _, unhide HE, rfl, (unhide HR).set6 hlt _ _ _ _ _ _, FormV_set6 (unhide HV) (by simp) (by simp) _ _ _ _ _ _, (unhide HFR).set6 (Nat.le_refl _) _ _ _ _ _ _⟩)
    simp [results, Tryd.results39, go_sem, c0, c1, c2, c3, c4, c5]
  · obtain ⟨c0, c1, c2, c3, c4, c5, f0, f1, f2, f3, f4, f5⟩ := six (hfr1.keep hN0 (by omega))
    have HE := hide ((unhide HP).trans hs)
    have HFR := hide (hfr0.trans hfr1)
    clear hr hr0 hfr0 hfr1 hs hN0
    go_wp2_with fail
    refine bodyPost_ret (v := .tuple #[.agg zForm, .bool false]) ?_ rfl (Or.inr ⟨unhide HE, rfl, _, (unhide HFR).set6 (Nat.le_refl _) _ _ _ _ _ _⟩)
    simp [results, Tryd.results39, go_sem, c0, c1, c2, c3, c4, c5]

set_option maxHeartbeats 2000000 in
set_option maxRecDepth 100000 in
theorem line_read (w : World) (R : Nat) (tv : Value) (ts : List Rt.Tk) (n : Nat) (first : ByteArray) (hr : RdS w R tv ts n noOps []) (h0 : (first.toList == [118, 97, 114]) = false) (h1 : (first.toList == [97, 114, 114, 97, 121]) = false) (h2 : (first.toList == [112, 114, 111, 99]) = false) (h3 : (first.toList == [101, 110, 100]) = false) (h4 : (first.toList == [105, 102]) = false) (h5 : (first.toList == [101, 108, 115, 101]) = false) (h6 : (first.toList == [119, 104, 105, 108, 101]) = false) (h7 : (first.toList == [115, 101, 116]) = false) (h8 : (first.toList == [112, 114, 105, 110, 116]) = false) (h9 : (first.toList == [114, 101, 97, 100]) = true) :
    Calls Tryd.prog 39 #[.pointer (some ⟨R, 0, none⟩), .string first] w (LineP (Rt.pLine first) R tv ts n w) := by
  have hlt : R < w.heap.size := World.block_lt_of_cell? w _ (cell_of_block hr.block 0 (by simp))
  have HP : Hid (Rt.pLine first (ts.drop n) = Rt.pNamed 11 (ts.drop n)) := by
    refine hide ?_
    simp [Rt.pLine, h0, h1, h2, h3, h4, h5, h6, h7, h8, h9]
  go_enter Tryd.func39, Tryd.ntmps39
  go_wp2_with fail
  obtain ⟨hr0, hfr0⟩ := hr.later ((Below.refl w.heap.size w).alloc (Nat.le_refl _) (.cells zForm 62))
  have hN0 : (w.alloc (.cells zForm 62)).heap[w.heap.size]? = some (.cells zForm 62 (0, 0)) := heap_alloc_new w _
  refine (named_any _ _ _ _ _ 11 hr0).mono ?_
  rintro e w1 (⟨fm, n1, fv, hs, rfl, hr1, hfv, hfr1⟩ | ⟨hs, rfl, ov, hfr1⟩)
  · obtain ⟨c0, c1, c2, c3, c4, c5, f0, f1, f2, f3, f4, f5⟩ := six (hfr1.keep hN0 (by omega))
    have hfv2 := hfv
    obtain ⟨pv, iv, vv, vs, rfl, b1, b2, b3, _⟩ := hfv
    obtain ⟨ad1, cap1, rfl⟩ := ownsRow_form b1
    obtain ⟨ad2, cap2, rfl⟩ := ownsRow_form b2
    obtain ⟨ad3, cap3, rfl⟩ := ownsRow_form b3
    have HE := hide ((unhide HP).trans hs)
    have HV := hide hfv2
    have HR := hide hr1
    have HFR := hide (hfr0.trans hfr1)
    clear hr hr0 hr1 hfr0 hfr1 hs hN0 hfv2 b1 b2 b3
    go_wp2_with fail
    refine bodyPost_ret (v := .tuple #[.agg #[.int .i64 fm.kind, .string fm.name, .int .i64 fm.cells, .slice ad1 fm.params.length cap1, .slice ad2 fm.index.length cap2, .slice ad3 fm.values.length cap3], .bool true]) ?_ rfl
      (Or.inl ⟨fm, n1, _, unhide HE, rfl, (unhide HR).set6 hlt _ _ _ _ _ _, FormV_set6 (unhide HV) (by simp) (by simp) _ _ _ _ _ _, (unhide HFR).set6 (Nat.le_refl _) _ _ _ _ _ _⟩)
    simp [results, Tryd.results39, go_sem, c0, c1, c2, c3, c4, c5]
  · obtain ⟨c0, c1, c2, c3, c4, c5, f0, f1, f2, f3, f4, f5⟩ := six (hfr1.keep hN0 (by omega))
    have HE := hide ((unhide HP).trans hs)
    have HFR := hide (hfr0.trans hfr1)
    clear hr hr0 hfr0 hfr1 hs hN0
    go_wp2_with fail
    refine bodyPost_ret (v := .tuple #[.agg zForm, .bool false]) ?_ rfl (Or.inr ⟨unhide HE, rfl, _, (unhide HFR).set6 (Nat.le_refl _) _ _ _ _ _ _⟩)
    simp [results, Tryd.results39, go_sem, c0, c1, c2, c3, c4, c5]

set_option maxHeartbeats 2000000 in
set_option maxRecDepth 100000 in
theorem line_call (w : World) (R : Nat) (tv : Value) (ts : List Rt.Tk) (n : Nat) (first : ByteArray) (hr : RdS w R tv ts n noOps []) (hsm : ∀ t ∈ ts, t.text.size ≤ 40000) (h0 : (first.toList == [118, 97, 114]) = false) (h1 : (first.toList == [97, 114, 114, 97, 121]) = false) (h2 : (first.toList == [112, 114, 111, 99]) = false) (h3 : (first.toList == [101, 110, 100]) = false) (h4 : (first.toList == [105, 102]) = false) (h5 : (first.toList == [101, 108, 115, 101]) = false) (h6 : (first.toList == [119, 104, 105, 108, 101]) = false) (h7 : (first.toList == [115, 101, 116]) = false) (h8 : (first.toList == [112, 114, 105, 110, 116]) = false) (h9 : (first.toList == [114, 101, 97, 100]) = false) (h10 : (first.toList == [99, 97, 108, 108]) = true) :
    Calls Tryd.prog 39 #[.pointer (some ⟨R, 0, none⟩), .string first] w (LineP (Rt.pLine first) R tv ts n w) := by
  have hlt : R < w.heap.size := World.block_lt_of_cell? w _ (cell_of_block hr.block 0 (by simp))
  have HSM := hide hsm
  clear hsm
  have HP : Hid (Rt.pLine first (ts.drop n) = Rt.pCall (ts.drop n)) := by
    refine hide ?_
    simp [Rt.pLine, h0, h1, h2, h3, h4, h5, h6, h7, h8, h9, h10]
  go_enter Tryd.func39, Tryd.ntmps39
  go_wp2_with fail
  obtain ⟨hr0, hfr0⟩ := hr.later ((Below.refl w.heap.size w).alloc (Nat.le_refl _) (.cells zForm 62))
  have hN0 : (w.alloc (.cells zForm 62)).heap[w.heap.size]? = some (.cells zForm 62 (0, 0)) := heap_alloc_new w _
  refine (call_any _ _ _ _ _ hr0 (unhide HSM)).mono ?_
  rintro e w1 (⟨fm, n1, fv, hs, rfl, hr1, hfv, hfr1⟩ | ⟨hs, rfl, ov, hfr1⟩)
  · obtain ⟨c0, c1, c2, c3, c4, c5, f0, f1, f2, f3, f4, f5⟩ := six (hfr1.keep hN0 (by omega))
    have hfv2 := hfv
    obtain ⟨pv, iv, vv, vs, rfl, b1, b2, b3, _⟩ := hfv
    obtain ⟨ad1, cap1, rfl⟩ := ownsRow_form b1
    obtain ⟨ad2, cap2, rfl⟩ := ownsRow_form b2
    obtain ⟨ad3, cap3, rfl⟩ := ownsRow_form b3
    have HE := hide ((unhide HP).trans hs)
    have HV := hide hfv2
    have HR := hide hr1
    have HFR := hide (hfr0.trans hfr1)
    clear hr hr0 hr1 hfr0 hfr1 hs hN0 hfv2 b1 b2 b3
    go_wp2_with fail
    refine bodyPost_ret (v := .tuple #[.agg #[.int .i64 fm.kind, .string fm.name, .int .i64 fm.cells, .slice ad1 fm.params.length cap1, .slice ad2 fm.index.length cap2, .slice ad3 fm.values.length cap3], .bool true]) ?_ rfl
      (Or.inl ⟨fm, n1, _, unhide HE, rfl, (unhide HR).set6 hlt _ _ _ _ _ _, FormV_set6 (unhide HV) (by simp) (by simp) _ _ _ _ _ _, (unhide HFR).set6 (Nat.le_refl _) _ _ _ _ _ _⟩)
    simp [results, Tryd.results39, go_sem, c0, c1, c2, c3, c4, c5]
  · obtain ⟨c0, c1, c2, c3, c4, c5, f0, f1, f2, f3, f4, f5⟩ := six (hfr1.keep hN0 (by omega))
    have HE := hide ((unhide HP).trans hs)
    have HFR := hide (hfr0.trans hfr1)
    clear hr hr0 hfr0 hfr1 hs hN0
    go_wp2_with fail
    refine bodyPost_ret (v := .tuple #[.agg zForm, .bool false]) ?_ rfl (Or.inr ⟨unhide HE, rfl, _, (unhide HFR).set6 (Nat.le_refl _) _ _ _ _ _ _⟩)
    simp [results, Tryd.results39, go_sem, c0, c1, c2, c3, c4, c5]

set_option maxHeartbeats 2000000 in
set_option maxRecDepth 100000 in
theorem line_return (w : World) (R : Nat) (tv : Value) (ts : List Rt.Tk) (n : Nat) (first : ByteArray) (hr : RdS w R tv ts n noOps []) (h0 : (first.toList == [118, 97, 114]) = false) (h1 : (first.toList == [97, 114, 114, 97, 121]) = false) (h2 : (first.toList == [112, 114, 111, 99]) = false) (h3 : (first.toList == [101, 110, 100]) = false) (h4 : (first.toList == [105, 102]) = false) (h5 : (first.toList == [101, 108, 115, 101]) = false) (h6 : (first.toList == [119, 104, 105, 108, 101]) = false) (h7 : (first.toList == [115, 101, 116]) = false) (h8 : (first.toList == [112, 114, 105, 110, 116]) = false) (h9 : (first.toList == [114, 101, 97, 100]) = false) (h10 : (first.toList == [99, 97, 108, 108]) = false) (h11 : (first.toList == [114, 101, 116, 117, 114, 110]) = true) :
    Calls Tryd.prog 39 #[.pointer (some ⟨R, 0, none⟩), .string first] w (LineP (Rt.pLine first) R tv ts n w) := by
  have hlt : R < w.heap.size := World.block_lt_of_cell? w _ (cell_of_block hr.block 0 (by simp))
  have HP : Hid (Rt.pLine first (ts.drop n) = some (⟨13, ⟨#[]⟩, 0, [], [], []⟩, ts.drop n)) := by
    refine hide ?_
    simp [Rt.pLine, h0, h1, h2, h3, h4, h5, h6, h7, h8, h9, h10, h11]
  have HR := hide (hr.later ((Below.refl w.heap.size w).alloc (Nat.le_refl _) (.cells #[.int .i64 13, .string ⟨#[]⟩, .int .i64 0, noOps, noOps, noOps] 62)))
  clear hr
  go_enter Tryd.func39, Tryd.ntmps39
  go_wp2_with fail
  refine bodyPost_ret (v := .tuple #[.agg #[.int .i64 13, .string ⟨#[]⟩, .int .i64 0, noOps, noOps, noOps], .bool true]) ?_ rfl
    (Or.inl ⟨_, n, _, unhide HP, rfl, (unhide HR).1, FormV_plain _ _ _ _ _, (unhide HR).2⟩)
  simp [results, Tryd.results39, go_sem]

set_option maxHeartbeats 2000000 in
set_option maxRecDepth 100000 in
theorem line_other (w : World) (R : Nat) (tv : Value) (ts : List Rt.Tk) (n : Nat) (first : ByteArray) (hr : RdS w R tv ts n noOps []) (h0 : (first.toList == [118, 97, 114]) = false) (h1 : (first.toList == [97, 114, 114, 97, 121]) = false) (h2 : (first.toList == [112, 114, 111, 99]) = false) (h3 : (first.toList == [101, 110, 100]) = false) (h4 : (first.toList == [105, 102]) = false) (h5 : (first.toList == [101, 108, 115, 101]) = false) (h6 : (first.toList == [119, 104, 105, 108, 101]) = false) (h7 : (first.toList == [115, 101, 116]) = false) (h8 : (first.toList == [112, 114, 105, 110, 116]) = false) (h9 : (first.toList == [114, 101, 97, 100]) = false) (h10 : (first.toList == [99, 97, 108, 108]) = false) (h11 : (first.toList == [114, 101, 116, 117, 114, 110]) = false) :
    Calls Tryd.prog 39 #[.pointer (some ⟨R, 0, none⟩), .string first] w (LineP (Rt.pLine first) R tv ts n w) := by
  have hlt : R < w.heap.size := World.block_lt_of_cell? w _ (cell_of_block hr.block 0 (by simp))
  have HP : Hid (Rt.pLine first (ts.drop n) = none) := by
    refine hide ?_
    simp [Rt.pLine, h0, h1, h2, h3, h4, h5, h6, h7, h8, h9, h10, h11]
  have HR := hide (hr.later ((Below.refl w.heap.size w).alloc (Nat.le_refl _) (.cells zForm 62)))
  clear hr
  go_enter Tryd.func39, Tryd.ntmps39
  go_wp2_with fail
  refine bodyPost_ret (v := .tuple #[.agg zForm, .bool false]) ?_ rfl (Or.inr ⟨unhide HP, rfl, _, (unhide HR).2⟩)
  simp [results, Tryd.results39, go_sem]

theorem line_any (w : World) (R : Nat) (tv : Value) (ts : List Rt.Tk) (n : Nat) (first : ByteArray) (hr : RdS w R tv ts n noOps []) (hsm : ∀ t ∈ ts, t.text.size ≤ 40000) :
    Calls Tryd.prog 39 #[.pointer (some ⟨R, 0, none⟩), .string first] w (LineP (Rt.pLine first) R tv ts n w) := by
  cases h0 : (first.toList == [118, 97, 114]) with
  | true => exact line_var w R tv ts n first hr h0
  | false =>
  cases h1 : (first.toList == [97, 114, 114, 97, 121]) with
  | true => exact line_array w R tv ts n first hr hsm h0 h1
  | false =>
  cases h2 : (first.toList == [112, 114, 111, 99]) with
  | true => exact line_proc w R tv ts n first hr h0 h1 h2
  | false =>
  cases h3 : (first.toList == [101, 110, 100]) with
  | true => exact line_end w R tv ts n first hr h0 h1 h2 h3
  | false =>
  cases h4 : (first.toList == [105, 102]) with
  | true => exact line_if w R tv ts n first hr hsm h0 h1 h2 h3 h4
  | false =>
  cases h5 : (first.toList == [101, 108, 115, 101]) with
  | true => exact line_else w R tv ts n first hr h0 h1 h2 h3 h4 h5
  | false =>
  cases h6 : (first.toList == [119, 104, 105, 108, 101]) with
  | true => exact line_while w R tv ts n first hr hsm h0 h1 h2 h3 h4 h5 h6
  | false =>
  cases h7 : (first.toList == [115, 101, 116]) with
  | true => exact line_set w R tv ts n first hr hsm h0 h1 h2 h3 h4 h5 h6 h7
  | false =>
  cases h8 : (first.toList == [112, 114, 105, 110, 116]) with
  | true => exact line_print w R tv ts n first hr hsm h0 h1 h2 h3 h4 h5 h6 h7 h8
  | false =>
  cases h9 : (first.toList == [114, 101, 97, 100]) with
  | true => exact line_read w R tv ts n first hr h0 h1 h2 h3 h4 h5 h6 h7 h8 h9
  | false =>
  cases h10 : (first.toList == [99, 97, 108, 108]) with
  | true => exact line_call w R tv ts n first hr hsm h0 h1 h2 h3 h4 h5 h6 h7 h8 h9 h10
  | false =>
  cases h11 : (first.toList == [114, 101, 116, 117, 114, 110]) with
  | true => exact line_return w R tv ts n first hr h0 h1 h2 h3 h4 h5 h6 h7 h8 h9 h10 h11
  | false =>
  exact line_other w R tv ts n first hr h0 h1 h2 h3 h4 h5 h6 h7 h8 h9 h10 h11

end Go.Proofs.YtopeochnoefgcaaDoor

namespace Go.Proofs.YtopeochnoefgcaaDoor
open Go.RowKit



theorem tokR_of {w : World} {B R : Nat} {tv : Value} {ts : List Rt.Tk} (h : w.ownsRow B 81 2 tv ts.length (Rt.toksCells ts)) (hne : 0 < ts.length) (hR : w.heap.size ≤ R) : TokR w R tv ts := by
  obtain ⟨g, cap, rfl, _, hlt, _⟩ := own_cell h (Rt.toksCells_get ts 0 hne).1
  refine ⟨g, cap, rfl, by omega, fun i hi => ⟨?_, ?_⟩⟩
  · obtain ⟨g', cap', he, _, _, hc⟩ := own_cell h (Rt.toksCells_get ts i hi).1
    simp at he
    rw [he.1]
    exact hc
  · obtain ⟨g', cap', he, _, _, hc⟩ := own_cell h (Rt.toksCells_get ts i hi).2
    simp at he
    rw [he.1]
    exact hc

theorem RFr.toBelow {R : Nat} {ov : Value} {w w' : World} (h : RFr R noOps ov w w') {B : Nat} (hB : B ≤ R) (hs : B ≤ w.heap.size) : Below B w w' :=
  ⟨h.os, h.tape, h.output, h.size, fun k hk => h.block k (by omega) (by omega) (by simp [Value.ownBlock])⟩

theorem below_set6 {B N : Nat} {w w1 : World} (h : Below B w w1) (hN : B ≤ N) (a b c d e f : Value) : Below B w (W6 w1 N a b c d e f) :=
  (((((h.setCell (p := ⟨N, 0, none⟩) hN a).setCell (p := ⟨N, 1, none⟩) hN b).setCell (p := ⟨N, 2, none⟩) hN c).setCell (p := ⟨N, 3, none⟩) hN d).setCell (p := ⟨N, 4, none⟩) hN e).setCell (p := ⟨N, 5, none⟩) hN f

theorem exprs_later {w w' : World} {B B' : Nat} (hx : ∀ (t : TypeId) (size n : Nat) (v : Value) (xs : List Value), w.ownsRow B t size v n xs → w'.ownsRow B' t size v n xs) : ∀ xs os, ExprsR w B xs os → ExprsR w' B' xs os
  | [], [], _ => trivial
  | _ :: xs, _ :: os, ⟨h1, h2⟩ => ⟨hx _ _ _ _ _ h1, exprs_later hx xs os h2⟩
  | [], _ :: _, h => h.elim
  | _ :: _, [], h => h.elim
theorem FormV_later {w w' : World} {B B' : Nat} {v : Array Value} {fm : Rt.PForm} (h : FormV w B v fm) (hx : ∀ (t : TypeId) (size n : Nat) (v : Value) (xs : List Value), w.ownsRow B t size v n xs → w'.ownsRow B' t size v n xs) : FormV w' B' v fm := by
  obtain ⟨pv, iv, vv, vs, rfl, h1, h2, h3, h4⟩ := h
  refine ⟨pv, iv, vv, vs, rfl, hx _ _ _ _ _ h1, hx _ _ _ _ _ h2, hx _ _ _ _ _ h3, ?_⟩
  exact exprs_later hx _ _ h4

/-- What parse.Line says. -/
def LineAll (ts : List Rt.Tk) (w : World) (e : Ending) (w' : World) : Prop :=
  Below w.heap.size w w' ∧ ((∃ fm fv, Rt.pLineAll ts = some fm ∧ e = .returned (.tuple #[.agg fv, .bool true]) ∧ FormV w' w.heap.size fv fm) ∨ (Rt.pLineAll ts = none ∧ e = .returned (.tuple #[.agg zForm, .bool false])))

set_option maxHeartbeats 4000000 in
set_option maxRecDepth 100000 in
theorem parseLine_any (w : World) (tv : Value) (ts : List Rt.Tk) (B : Nat) (ht : w.ownsRow B 81 2 tv ts.length (Rt.toksCells ts)) (hfew : ts.length ≤ 24) (hsm : ∀ t ∈ ts, t.text.size ≤ 40000) :
    Calls Tryd.prog 29 #[tv] w (LineAll ts w) := by
  obtain ⟨ad, cap, rfl⟩ := ownsRow_form ht
  match ts, ht, hfew, hsm with
  | [], ht, _, _ =>
    have HB := hide ((Below.refl w.heap.size w).alloc (Nat.le_refl _) (.cells zForm 62))
    clear ht
    go_enter Tryd.func29, Tryd.ntmps29
    go_wp2_with fail
    refine bodyPost_ret (v := .tuple #[.agg zForm, .bool true]) ?_ rfl ⟨unhide HB, Or.inl ⟨_, _, rfl, rfl, FormV_plain _ _ _ _ _⟩⟩
    simp [results, Tryd.results29, go_sem]
  | t :: r, ht, hfew, hsm =>
    have HSM := hide hsm
    clear hsm
    have htk := tokR_of (R := w.heap.size) ht (by simp) (Nat.le_refl _)
    obtain ⟨b, cap', he, hb, hc⟩ := htk
    obtain ⟨hc0, hc1⟩ := hc 0 (by simp)
    simp at he hc0 hc1
    obtain ⟨rfl, rfl⟩ := he
    have hbel := ((Below.refl w.heap.size w).alloc (Nat.le_refl _) (.cells zForm 62)).alloc (by simp) (.cells #[.slice (some ⟨b, 0, none⟩) (t :: r).length cap, .int .i64 1, noOps] 87)
    have hr : RdS ((w.alloc (.cells zForm 62)).alloc (.cells #[.slice (some ⟨b, 0, none⟩) (t :: r).length cap, .int .i64 1, noOps] 87)) (w.heap.size + 1) (.slice (some ⟨b, 0, none⟩) (t :: r).length cap) (t :: r) 1 noOps [] := by
      refine ⟨by simp, hfew, by simp, ?_, ?_, World.ownsRow_nil _ _ _ _⟩
      · have := heap_alloc_new (w.alloc (.cells zForm 62)) (.cells #[.slice (some ⟨b, 0, none⟩) (t :: r).length cap, .int .i64 1, noOps] 87)
        simpa using this
      · exact ⟨b, cap, rfl, by omega, fun i hi => ⟨cell_later hbel (hc i hi).1, cell_later hbel (hc i hi).2⟩⟩
    have hN0 : ((w.alloc (.cells zForm 62)).alloc (.cells #[.slice (some ⟨b, 0, none⟩) (t :: r).length cap, .int .i64 1, noOps] 87)).heap[w.heap.size]? = some (.cells zForm 62 (0, 0)) := block_alloc (heap_alloc_new w _) _
    clear hc
    have hlen : (((t :: r).length : Int) == 0) = false := by rw [beq_eq_false_iff_ne]; simp only [List.length_cons]; omega
    have hlen2 : (0 : Int) < ((t :: r).length : Int) := by simp only [List.length_cons]; omega
    generalize hLN : (t :: r).length = LN at *
    go_enter Tryd.func29, Tryd.ntmps29
    go_wp2_with fail
    refine (line_any _ _ _ _ _ t.text hr (unhide HSM)).mono ?_
    rintro e w1 (⟨fm, n1, fv, hs, rfl, hr1, hfv, hfr1⟩ | ⟨hs, rfl, ov, hfr1⟩)
    · have hN1 := hfr1.keep hN0 (by omega)
      have hz1 : w.heap.size + 2 ≤ w1.heap.size := by have := hfr1.size; simp at this; omega
      have hfv2 := hfv
      obtain ⟨pv, iv, vv, vs, rfl, b1, b2, b3, _⟩ := hfv
      obtain ⟨ad1, cap1, rfl⟩ := ownsRow_form b1
      obtain ⟨ad2, cap2, rfl⟩ := ownsRow_form b2
      obtain ⟨ad3, cap3, rfl⟩ := ownsRow_form b3
      have hbelA := hbel.trans (hfr1.toBelow (B := w.heap.size) (by omega) (by simp <;> omega))
      have hA := hr1.later ((Below.refl w1.heap.size w1).alloc (Nat.le_refl _) (.cells #[.int .i64 fm.kind, .string fm.name, .int .i64 fm.cells, .slice ad1 fm.params.length cap1, .slice ad2 fm.index.length cap2, .slice ad3 fm.values.length cap3] 62))
      have hbelB := hbelA.alloc (by omega) (.cells #[.int .i64 fm.kind, .string fm.name, .int .i64 fm.cells, .slice ad1 fm.params.length cap1, .slice ad2 fm.index.length cap2, .slice ad3 fm.values.length cap3] 62)
      have hN2 := block_alloc hN1 (.cells #[.int .i64 fm.kind, .string fm.name, .int .i64 fm.cells, .slice ad1 fm.params.length cap1, .slice ad2 fm.index.length cap2, .slice ad3 fm.values.length cap3] 62)
      have hM2 := heap_alloc_new w1 (.cells #[.int .i64 fm.kind, .string fm.name, .int .i64 fm.cells, .slice ad1 fm.params.length cap1, .slice ad2 fm.index.length cap2, .slice ad3 fm.values.length cap3] 62)
      have hfvB : FormV (w1.alloc (.cells #[.int .i64 fm.kind, .string fm.name, .int .i64 fm.cells, .slice ad1 fm.params.length cap1, .slice ad2 fm.index.length cap2, .slice ad3 fm.values.length cap3] 62)) (w.heap.size + 2) _ fm := FormV_later hfv2 (fun t size n v xs h => ownsRow_mono (h.alloc _) (by simp <;> omega))
      have HS := hide hs
      clear hr hr1 hN0 hN1 hfr1 hbel hbelA hs hfv2 b1 b2 b3
      go_wp2_with fail
      refine (more' _ _ _ _ _ _ _ hA.1).mono ?_
      rintro e w3 ⟨rfl, hr3, hfr3⟩
      have hN3 := hfr3.keep hN2 (by omega)
      have hM3 := hfr3.keep hM2 (by omega)
      have hfv3 := FormV_later hfvB (w' := w3) (B' := w.heap.size + 2) (fun t size n v xs h => hfr3.keepRow h (by omega))
      have hbel3 := hbelB.trans (hfr3.toBelow (B := w.heap.size) (by omega) (by simp <;> omega))
      obtain ⟨c0, c1, c2, c3, c4, c5, f0, f1, f2, f3, f4, f5⟩ := six hN3
      have ⟨d0, d1, d2, d3, d4, d5, _, _, _, _, _, _⟩ := six hM3
      have hne : ¬ w1.heap.size = w.heap.size := by omega
      by_cases hmore : n1 < (t :: r).length
      · have hd : decide (n1 < (t :: r).length) = true := by simpa using hmore
        rw [hd]
        have HE : Hid (Rt.pLineAll (t :: r) = none) := by
          refine hide ?_
          have h := unhide HS
          simp only [List.drop_one, List.tail_cons] at h
          rw [Rt.pLineAll, h]
          simp only
          rw [if_neg (fun e => by rw [drop_at hmore] at e; cases e)]
        have HB := hide hbel3
        clear hr3 hfr3 hN3 hM3 hfv3 hbel3 hA hbelB hN2 hM2 hfvB hmore
        go_wp2_with fail
        refine bodyPost_ret (v := .tuple #[.agg zForm, .bool false]) ?_ rfl ⟨below_set6 (unhide HB) (Nat.le_refl _) _ _ _ _ _ _, Or.inr ⟨unhide HE, rfl⟩⟩
        simp [results, Tryd.results29, go_sem, c0, c1, c2, c3, c4, c5]
      · have hd : decide (n1 < (t :: r).length) = false := by simpa using hmore
        rw [hd]
        have HE : Hid (Rt.pLineAll (t :: r) = some fm) := by
          refine hide ?_
          have h := unhide HS
          simp only [List.drop_one, List.tail_cons] at h
          rw [Rt.pLineAll, h]
          simp only
          rw [if_pos (drop_end hmore)]
        have HB := hide hbel3
        have HV := hide hfv3
        clear hr3 hfr3 hN3 hM3 hfv3 hbel3 hA hbelB hN2 hM2 hfvB hmore
        go_wp2_with fail
        refine bodyPost_ret (v := .tuple #[.agg #[.int .i64 fm.kind, .string fm.name, .int .i64 fm.cells, .slice ad1 fm.params.length cap1, .slice ad2 fm.index.length cap2, .slice ad3 fm.values.length cap3], .bool true]) ?_ rfl
          ⟨below_set6 (unhide HB) (Nat.le_refl _) _ _ _ _ _ _, Or.inl ⟨fm, _, unhide HE, rfl, FormV_set6 (unhide HV) (by omega) (by omega) _ _ _ _ _ _⟩⟩
        simp [results, Tryd.results29, go_sem, c0, c1, c2, c3, c4, c5]
    · have hN1 := hfr1.keep hN0 (by omega)
      have hz1 : w.heap.size < w1.heap.size := by have := hfr1.size; simp at this; omega
      have HE : Hid (Rt.pLineAll (t :: r) = none) := by
        refine hide ?_
        simp only [List.drop_one, List.tail_cons] at hs
        rw [Rt.pLineAll, hs]
      have HB := hide (hbel.trans (hfr1.toBelow (B := w.heap.size) (by omega) (by simp <;> omega)))
      obtain ⟨c0, c1, c2, c3, c4, c5, f0, f1, f2, f3, f4, f5⟩ := six hN1
      clear hr hN0 hN1 hfr1 hbel hs
      go_wp2_with fail
      refine bodyPost_ret (v := .tuple #[.agg zForm, .bool false]) ?_ rfl ⟨(below_set6 (unhide HB) (Nat.le_refl _) _ _ _ _ _ _).alloc (by rw [size_W6]; omega) _, Or.inr ⟨unhide HE, rfl⟩⟩
      simp [results, Tryd.results29, go_sem, c0, c1, c2, c3, c4, c5, hz1]

end Go.Proofs.YtopeochnoefgcaaDoor

