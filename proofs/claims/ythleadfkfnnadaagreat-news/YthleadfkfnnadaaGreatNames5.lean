/- The names of a program: namesFit. -/
import Derived.Test.YthleadfkfnnadaaGreatNames4
namespace Go.Proofs.YthleadfkfnnadaaGreat
open Go.RowKit
theorem beq_nat (a b : Nat) : (((a : Int) == (b : Int))) = decide (a = b) := by rw [Bool.eq_iff_iff]; simp; omega
set_option maxHeartbeats 2000000 in
set_option maxRecDepth 100000 in
theorem namesFit_1 (w : World) (P : Nat) (pls : List Rt.PL) (lv : Value) (cs : List (List Value)) (n : Nat) (pl : Rt.PL) (a0 a1 a2 a3 : Option Addr) (c0 c1 c2 c3 : Nat) (xe xf : Int) (h : ProgS w P pls lv cs) (hlen : pls.length ≤ 101)
    (hf : FormV w (P + 1) #[.int .i64 pl.form.kind, .string pl.form.name, .int .i64 pl.form.cells, .slice a1 pl.form.params.length c1, .slice a2 pl.form.index.length c2, .slice a3 pl.form.values.length c3] pl.form) (h1 : pl.form.kind = 1) :
    Calls Tryz.prog 127 #[.pointer (some ⟨P, 0, none⟩), .int .i64 n, .agg #[.slice a0 pl.toks.length c0, .int .i64 pl.form.kind, .string pl.form.name, .int .i64 pl.form.cells, .slice a1 pl.form.params.length c1, .slice a2 pl.form.index.length c2, .slice a3 pl.form.values.length c3, .int .i64 pl.depth, .int .i64 pl.opener, .int .i64 xe, .int .i64 xf, .int .i64 pl.proc]] w fun e w' => e = .returned (.bool (Rt.namFit pls n pl)) ∧ Below w.heap.size w w' := by
  have hb0 := (Below.refl w.heap.size w).alloc (Nat.le_refl _) (.cells #[.slice a0 pl.toks.length c0, .int .i64 pl.form.kind, .string pl.form.name, .int .i64 pl.form.cells, .slice a1 pl.form.params.length c1, .slice a2 pl.form.index.length c2, .slice a3 pl.form.values.length c3, .int .i64 pl.depth, .int .i64 pl.opener, .int .i64 xe, .int .i64 xf, .int .i64 pl.proc] 145)
  have hL0 := heap_alloc_new w (.cells #[.slice a0 pl.toks.length c0, .int .i64 pl.form.kind, .string pl.form.name, .int .i64 pl.form.cells, .slice a1 pl.form.params.length c1, .slice a2 pl.form.index.length c2, .slice a3 pl.form.values.length c3, .int .i64 pl.depth, .int .i64 pl.opener, .int .i64 xe, .int .i64 xf, .int .i64 pl.proc] 145)
  have h0 := h.later hb0
  have hf0 := (keeps_later (B := P + 1) hb0).form hf
  clear h hf
  have HE := hide (show Rt.namFit pls n pl = decide (Rt.declP pls pl.form.name = n) by unfold Rt.namFit; rw [if_pos (by omega)])
  have b1 : (pl.form.kind == 1) = true := by simpa using h1
  clear h1
  go_enter Tryz.func127, Tryz.ntmps127
  go_wp2_with fail
  refine (declaration_any _ _ _ _ _ pl.form.name h0 hlen).mono ?_
  rintro e w1 ⟨rfl, rfl⟩
  have HB := hide hb0
  clear h0 hf0 hL0 hb0
  go_wp2_with fail
  go_ret
  exact ⟨by rw [unhide HE]; exact ret_bool (beq_nat _ _), unhide HB⟩
set_option maxHeartbeats 2000000 in
set_option maxRecDepth 100000 in
theorem namesFit_2 (w : World) (P : Nat) (pls : List Rt.PL) (lv : Value) (cs : List (List Value)) (n : Nat) (pl : Rt.PL) (a0 a1 a2 a3 : Option Addr) (c0 c1 c2 c3 : Nat) (xe xf : Int) (h : ProgS w P pls lv cs) (hlen : pls.length ≤ 101)
    (hf : FormV w (P + 1) #[.int .i64 pl.form.kind, .string pl.form.name, .int .i64 pl.form.cells, .slice a1 pl.form.params.length c1, .slice a2 pl.form.index.length c2, .slice a3 pl.form.values.length c3] pl.form) (h1 : ¬ pl.form.kind = 1) (h2 : pl.form.kind = 2) :
    Calls Tryz.prog 127 #[.pointer (some ⟨P, 0, none⟩), .int .i64 n, .agg #[.slice a0 pl.toks.length c0, .int .i64 pl.form.kind, .string pl.form.name, .int .i64 pl.form.cells, .slice a1 pl.form.params.length c1, .slice a2 pl.form.index.length c2, .slice a3 pl.form.values.length c3, .int .i64 pl.depth, .int .i64 pl.opener, .int .i64 xe, .int .i64 xf, .int .i64 pl.proc]] w fun e w' => e = .returned (.bool (Rt.namFit pls n pl)) ∧ Below w.heap.size w w' := by
  have hb0 := (Below.refl w.heap.size w).alloc (Nat.le_refl _) (.cells #[.slice a0 pl.toks.length c0, .int .i64 pl.form.kind, .string pl.form.name, .int .i64 pl.form.cells, .slice a1 pl.form.params.length c1, .slice a2 pl.form.index.length c2, .slice a3 pl.form.values.length c3, .int .i64 pl.depth, .int .i64 pl.opener, .int .i64 xe, .int .i64 xf, .int .i64 pl.proc] 145)
  have hL0 := heap_alloc_new w (.cells #[.slice a0 pl.toks.length c0, .int .i64 pl.form.kind, .string pl.form.name, .int .i64 pl.form.cells, .slice a1 pl.form.params.length c1, .slice a2 pl.form.index.length c2, .slice a3 pl.form.values.length c3, .int .i64 pl.depth, .int .i64 pl.opener, .int .i64 xe, .int .i64 xf, .int .i64 pl.proc] 145)
  have h0 := h.later hb0
  have hf0 := (keeps_later (B := P + 1) hb0).form hf
  clear h hf
  have HE := hide (show Rt.namFit pls n pl = decide (Rt.declP pls pl.form.name = n) by unfold Rt.namFit; rw [if_pos (by omega)])
  have b1 : (pl.form.kind == 1) = false := by simpa using h1
  have b2 : (pl.form.kind == 2) = true := by simpa using h2
  clear h1 h2
  go_enter Tryz.func127, Tryz.ntmps127
  go_wp2_with fail
  refine (declaration_any _ _ _ _ _ pl.form.name h0 hlen).mono ?_
  rintro e w1 ⟨rfl, rfl⟩
  have HB := hide hb0
  clear h0 hf0 hL0 hb0
  go_wp2_with fail
  go_ret
  exact ⟨by rw [unhide HE]; exact ret_bool (beq_nat _ _), unhide HB⟩
set_option maxHeartbeats 2000000 in
set_option maxRecDepth 100000 in
theorem namesFit_3 (w : World) (P : Nat) (pls : List Rt.PL) (lv : Value) (cs : List (List Value)) (n : Nat) (pl : Rt.PL) (a0 a1 a2 a3 : Option Addr) (c0 c1 c2 c3 : Nat) (xe xf : Int) (h : ProgS w P pls lv cs) (hlen : pls.length ≤ 101) (hsm : Rt.Small pl.form)
    (hf : FormV w (P + 1) #[.int .i64 pl.form.kind, .string pl.form.name, .int .i64 pl.form.cells, .slice a1 pl.form.params.length c1, .slice a2 pl.form.index.length c2, .slice a3 pl.form.values.length c3] pl.form) (h1 : ¬ pl.form.kind = 1) (h2 : ¬ pl.form.kind = 2) (h3 : pl.form.kind = 3) :
    Calls Tryz.prog 127 #[.pointer (some ⟨P, 0, none⟩), .int .i64 n, .agg #[.slice a0 pl.toks.length c0, .int .i64 pl.form.kind, .string pl.form.name, .int .i64 pl.form.cells, .slice a1 pl.form.params.length c1, .slice a2 pl.form.index.length c2, .slice a3 pl.form.values.length c3, .int .i64 pl.depth, .int .i64 pl.opener, .int .i64 xe, .int .i64 xf, .int .i64 pl.proc]] w fun e w' => e = .returned (.bool (Rt.namFit pls n pl)) ∧ Below w.heap.size w w' := by
  have hb0 := (Below.refl w.heap.size w).alloc (Nat.le_refl _) (.cells #[.slice a0 pl.toks.length c0, .int .i64 pl.form.kind, .string pl.form.name, .int .i64 pl.form.cells, .slice a1 pl.form.params.length c1, .slice a2 pl.form.index.length c2, .slice a3 pl.form.values.length c3, .int .i64 pl.depth, .int .i64 pl.opener, .int .i64 xe, .int .i64 xf, .int .i64 pl.proc] 145)
  have hL0 := heap_alloc_new w (.cells #[.slice a0 pl.toks.length c0, .int .i64 pl.form.kind, .string pl.form.name, .int .i64 pl.form.cells, .slice a1 pl.form.params.length c1, .slice a2 pl.form.index.length c2, .slice a3 pl.form.values.length c3, .int .i64 pl.depth, .int .i64 pl.opener, .int .i64 xe, .int .i64 xf, .int .i64 pl.proc] 145)
  have h0 := h.later hb0
  have hf0 := (keeps_later (B := P + 1) hb0).form hf
  clear h hf
  have HE := hide (show Rt.namFit pls n pl = (decide (Rt.declP pls pl.form.name = n) && Rt.parFit pl.form) by unfold Rt.namFit; rw [if_neg (by omega), if_pos (by omega)])
  have b1 : (pl.form.kind == 1) = false := by simpa using h1
  have b2 : (pl.form.kind == 2) = false := by simpa using h2
  have b3 : (pl.form.kind == 3) = true := by simpa using h3
  clear h1 h2 h3
  obtain ⟨pv, iv, vv, vs, hfv, p1, p2, p3, p4⟩ := hf0
  simp at hfv
  obtain ⟨rfl, rfl, rfl⟩ := hfv
  by_cases hd : Rt.declP pls pl.form.name = n
  · have hd' : (((Rt.declP pls pl.form.name : Nat) : Int) == (n : Int)) = true := by rw [beq_nat]; simpa using hd
    have HE2 := hide ((unhide HE).trans (by rw [hd]; simp : _ = Rt.parFit pl.form))
    clear hd HE
    go_enter Tryz.func127, Tryz.ntmps127
    go_wp2_with fail
    refine (declaration_any _ _ _ _ _ pl.form.name h0 hlen).mono ?_
    rintro e w1 ⟨rfl, rfl⟩
    go_wp2_with fail
    refine (paramsFit_any _ _ pl.form a1 a2 a3 c1 c2 c3 p1 (Nat.le_trans hsm.params (by omega))).mono ?_
    rintro e w2 ⟨rfl, hb2⟩
    have HB := hide (hb0.trans (hb2.mono (B' := w.heap.size) (by simp)))
    clear h0 hL0 hb0 hb2 p1 p2 p3 p4
    go_wp2_with fail
    go_ret
    exact ⟨by rw [unhide HE2]; first | rfl | simp, unhide HB⟩
  · have hd' : (((Rt.declP pls pl.form.name : Nat) : Int) == (n : Int)) = false := by rw [beq_nat]; simpa using hd
    have HE2 := hide ((unhide HE).trans (by simp [hd] : _ = false))
    clear hd HE
    go_enter Tryz.func127, Tryz.ntmps127
    go_wp2_with fail
    refine (declaration_any _ _ _ _ _ pl.form.name h0 hlen).mono ?_
    rintro e w1 ⟨rfl, rfl⟩
    have HB := hide hb0
    clear h0 hL0 hb0 p1 p2 p3 p4
    go_wp2_with fail
    go_ret
    exact ⟨by rw [unhide HE2]; first | rfl | simp, unhide HB⟩
set_option maxHeartbeats 2000000 in
set_option maxRecDepth 100000 in
theorem namesFit_8 (w : World) (P : Nat) (pls : List Rt.PL) (lv : Value) (cs : List (List Value)) (n : Nat) (pl : Rt.PL) (a0 a1 a2 a3 : Option Addr) (c0 c1 c2 c3 : Nat) (xe xf : Int) (h : ProgS w P pls lv cs) (hlen : pls.length ≤ 101) (hpar : (Rt.formAt pls pl.proc).params.length ≤ 1000) (hsm : Rt.Small pl.form)
    (hf : FormV w (P + 1) #[.int .i64 pl.form.kind, .string pl.form.name, .int .i64 pl.form.cells, .slice a1 pl.form.params.length c1, .slice a2 pl.form.index.length c2, .slice a3 pl.form.values.length c3] pl.form) (h1 : ¬ pl.form.kind = 1) (h2 : ¬ pl.form.kind = 2) (h3 : ¬ pl.form.kind = 3) (h8 : pl.form.kind = 8) :
    Calls Tryz.prog 127 #[.pointer (some ⟨P, 0, none⟩), .int .i64 n, .agg #[.slice a0 pl.toks.length c0, .int .i64 pl.form.kind, .string pl.form.name, .int .i64 pl.form.cells, .slice a1 pl.form.params.length c1, .slice a2 pl.form.index.length c2, .slice a3 pl.form.values.length c3, .int .i64 pl.depth, .int .i64 pl.opener, .int .i64 xe, .int .i64 xf, .int .i64 pl.proc]] w fun e w' => e = .returned (.bool (Rt.namFit pls n pl)) ∧ Below w.heap.size w w' := by
  have hb0 := (Below.refl w.heap.size w).alloc (Nat.le_refl _) (.cells #[.slice a0 pl.toks.length c0, .int .i64 pl.form.kind, .string pl.form.name, .int .i64 pl.form.cells, .slice a1 pl.form.params.length c1, .slice a2 pl.form.index.length c2, .slice a3 pl.form.values.length c3, .int .i64 pl.depth, .int .i64 pl.opener, .int .i64 xe, .int .i64 xf, .int .i64 pl.proc] 145)
  have hL0 := heap_alloc_new w (.cells #[.slice a0 pl.toks.length c0, .int .i64 pl.form.kind, .string pl.form.name, .int .i64 pl.form.cells, .slice a1 pl.form.params.length c1, .slice a2 pl.form.index.length c2, .slice a3 pl.form.values.length c3, .int .i64 pl.depth, .int .i64 pl.opener, .int .i64 xe, .int .i64 xf, .int .i64 pl.proc] 145)
  have h0 := h.later hb0
  have hf0 := (keeps_later (B := P + 1) hb0).form hf
  clear h hf
  have HE0 := hide (show Rt.namFit pls n pl = (Rt.isVar pls pl.proc pl.form.name && Rt.exsFit pls pl) by unfold Rt.namFit; rw [if_neg (by omega), if_neg (by omega), if_pos (by omega)])
  have b1 : (pl.form.kind == 1) = false := by simpa using h1
  have b2 : (pl.form.kind == 2) = false := by simpa using h2
  have b3 : (pl.form.kind == 3) = false := by simpa using h3
  have b8 : (pl.form.kind == 8) = true := by simpa using h8
  clear h1 h2 h3 h8
  go_enter Tryz.func127, Tryz.ntmps127
  go_wp2_with fail
  refine (isVariable_any _ _ _ _ _ pl.proc pl.form.name h0 hlen hpar).mono ?_
  rintro e w1 ⟨rfl, hb1⟩
  have hbe1 := hb0.trans (hb1.mono (B' := w.heap.size) (by simp))
  have h1 := h0.later hb1
  have hf1 := (keeps_later (B := P + 1) hb1).form hf0
  have hL1 := block_later hL0 hb1
  clear h0 hf0 hL0 hb0 hb1
  cases hv : Rt.isVar pls pl.proc pl.form.name with
  | false =>
    have HE := hide ((unhide HE0).trans (by rw [hv]; rfl : _ = false))
    have HB := hide hbe1
    clear HE0 hv h1 hf1 hL1 hbe1
    go_wp2_with fail
    go_ret
    exact ⟨by rw [unhide HE]; rfl, unhide HB⟩
  | true =>
    have HE := hide ((unhide HE0).trans (by rw [hv]; rfl : _ = Rt.exsFit pls pl))
    clear HE0 hv
    obtain ⟨l0, l1, l2, l3, l4, l5, l6, l7, l8, l9, l10, l11⟩ := ten_block hL1
    go_wp2_with fail
    refine (expressionsFit_any _ _ _ _ _ pl a0 a1 a2 a3 c0 c1 c2 c3 xe xf h1 hlen hpar hsm hf1).mono ?_
    rintro e w9 ⟨rfl, hb9⟩
    have HB := hide (hbe1.trans (hb9.mono (B' := w.heap.size) (by have := (hbe1).size; omega)))
    clear hb9
    go_wp2_with fail
    go_ret
    exact ⟨by rw [unhide HE]; rfl, unhide HB⟩
set_option maxHeartbeats 2000000 in
set_option maxRecDepth 100000 in
theorem namesFit_11 (w : World) (P : Nat) (pls : List Rt.PL) (lv : Value) (cs : List (List Value)) (n : Nat) (pl : Rt.PL) (a0 a1 a2 a3 : Option Addr) (c0 c1 c2 c3 : Nat) (xe xf : Int) (h : ProgS w P pls lv cs) (hlen : pls.length ≤ 101) (hpar : (Rt.formAt pls pl.proc).params.length ≤ 1000) (hsm : Rt.Small pl.form)
    (hf : FormV w (P + 1) #[.int .i64 pl.form.kind, .string pl.form.name, .int .i64 pl.form.cells, .slice a1 pl.form.params.length c1, .slice a2 pl.form.index.length c2, .slice a3 pl.form.values.length c3] pl.form) (h1 : ¬ pl.form.kind = 1) (h2 : ¬ pl.form.kind = 2) (h3 : ¬ pl.form.kind = 3) (h8 : ¬ pl.form.kind = 8) (h11 : pl.form.kind = 11) :
    Calls Tryz.prog 127 #[.pointer (some ⟨P, 0, none⟩), .int .i64 n, .agg #[.slice a0 pl.toks.length c0, .int .i64 pl.form.kind, .string pl.form.name, .int .i64 pl.form.cells, .slice a1 pl.form.params.length c1, .slice a2 pl.form.index.length c2, .slice a3 pl.form.values.length c3, .int .i64 pl.depth, .int .i64 pl.opener, .int .i64 xe, .int .i64 xf, .int .i64 pl.proc]] w fun e w' => e = .returned (.bool (Rt.namFit pls n pl)) ∧ Below w.heap.size w w' := by
  have hb0 := (Below.refl w.heap.size w).alloc (Nat.le_refl _) (.cells #[.slice a0 pl.toks.length c0, .int .i64 pl.form.kind, .string pl.form.name, .int .i64 pl.form.cells, .slice a1 pl.form.params.length c1, .slice a2 pl.form.index.length c2, .slice a3 pl.form.values.length c3, .int .i64 pl.depth, .int .i64 pl.opener, .int .i64 xe, .int .i64 xf, .int .i64 pl.proc] 145)
  have hL0 := heap_alloc_new w (.cells #[.slice a0 pl.toks.length c0, .int .i64 pl.form.kind, .string pl.form.name, .int .i64 pl.form.cells, .slice a1 pl.form.params.length c1, .slice a2 pl.form.index.length c2, .slice a3 pl.form.values.length c3, .int .i64 pl.depth, .int .i64 pl.opener, .int .i64 xe, .int .i64 xf, .int .i64 pl.proc] 145)
  have h0 := h.later hb0
  have hf0 := (keeps_later (B := P + 1) hb0).form hf
  clear h hf
  have HE0 := hide (show Rt.namFit pls n pl = (Rt.isVar pls pl.proc pl.form.name && Rt.exsFit pls pl) by unfold Rt.namFit; rw [if_neg (by omega), if_neg (by omega), if_pos (by omega)])
  have b1 : (pl.form.kind == 1) = false := by simpa using h1
  have b2 : (pl.form.kind == 2) = false := by simpa using h2
  have b3 : (pl.form.kind == 3) = false := by simpa using h3
  have b8 : (pl.form.kind == 8) = false := by simpa using h8
  have b11 : (pl.form.kind == 11) = true := by simpa using h11
  clear h1 h2 h3 h8 h11
  go_enter Tryz.func127, Tryz.ntmps127
  go_wp2_with fail
  refine (isVariable_any _ _ _ _ _ pl.proc pl.form.name h0 hlen hpar).mono ?_
  rintro e w1 ⟨rfl, hb1⟩
  have hbe1 := hb0.trans (hb1.mono (B' := w.heap.size) (by simp))
  have h1 := h0.later hb1
  have hf1 := (keeps_later (B := P + 1) hb1).form hf0
  have hL1 := block_later hL0 hb1
  clear h0 hf0 hL0 hb0 hb1
  cases hv : Rt.isVar pls pl.proc pl.form.name with
  | false =>
    have HE := hide ((unhide HE0).trans (by rw [hv]; rfl : _ = false))
    have HB := hide hbe1
    clear HE0 hv h1 hf1 hL1 hbe1
    go_wp2_with fail
    go_ret
    exact ⟨by rw [unhide HE]; rfl, unhide HB⟩
  | true =>
    have HE := hide ((unhide HE0).trans (by rw [hv]; rfl : _ = Rt.exsFit pls pl))
    clear HE0 hv
    obtain ⟨l0, l1, l2, l3, l4, l5, l6, l7, l8, l9, l10, l11⟩ := ten_block hL1
    go_wp2_with fail
    refine (expressionsFit_any _ _ _ _ _ pl a0 a1 a2 a3 c0 c1 c2 c3 xe xf h1 hlen hpar hsm hf1).mono ?_
    rintro e w9 ⟨rfl, hb9⟩
    have HB := hide (hbe1.trans (hb9.mono (B' := w.heap.size) (by have := (hbe1).size; omega)))
    clear hb9
    go_wp2_with fail
    go_ret
    exact ⟨by rw [unhide HE]; rfl, unhide HB⟩
set_option maxHeartbeats 2000000 in
set_option maxRecDepth 100000 in
theorem namesFit_9 (w : World) (P : Nat) (pls : List Rt.PL) (lv : Value) (cs : List (List Value)) (n : Nat) (pl : Rt.PL) (a0 a1 a2 a3 : Option Addr) (c0 c1 c2 c3 : Nat) (xe xf : Int) (h : ProgS w P pls lv cs) (hlen : pls.length ≤ 101) (hpar : (Rt.formAt pls pl.proc).params.length ≤ 1000) (hsm : Rt.Small pl.form)
    (hf : FormV w (P + 1) #[.int .i64 pl.form.kind, .string pl.form.name, .int .i64 pl.form.cells, .slice a1 pl.form.params.length c1, .slice a2 pl.form.index.length c2, .slice a3 pl.form.values.length c3] pl.form) (h1 : ¬ pl.form.kind = 1) (h2 : ¬ pl.form.kind = 2) (h3 : ¬ pl.form.kind = 3) (h8 : ¬ pl.form.kind = 8) (h11 : ¬ pl.form.kind = 11) (h9 : pl.form.kind = 9) :
    Calls Tryz.prog 127 #[.pointer (some ⟨P, 0, none⟩), .int .i64 n, .agg #[.slice a0 pl.toks.length c0, .int .i64 pl.form.kind, .string pl.form.name, .int .i64 pl.form.cells, .slice a1 pl.form.params.length c1, .slice a2 pl.form.index.length c2, .slice a3 pl.form.values.length c3, .int .i64 pl.depth, .int .i64 pl.opener, .int .i64 xe, .int .i64 xf, .int .i64 pl.proc]] w fun e w' => e = .returned (.bool (Rt.namFit pls n pl)) ∧ Below w.heap.size w w' := by
  have hb0 := (Below.refl w.heap.size w).alloc (Nat.le_refl _) (.cells #[.slice a0 pl.toks.length c0, .int .i64 pl.form.kind, .string pl.form.name, .int .i64 pl.form.cells, .slice a1 pl.form.params.length c1, .slice a2 pl.form.index.length c2, .slice a3 pl.form.values.length c3, .int .i64 pl.depth, .int .i64 pl.opener, .int .i64 xe, .int .i64 xf, .int .i64 pl.proc] 145)
  have hL0 := heap_alloc_new w (.cells #[.slice a0 pl.toks.length c0, .int .i64 pl.form.kind, .string pl.form.name, .int .i64 pl.form.cells, .slice a1 pl.form.params.length c1, .slice a2 pl.form.index.length c2, .slice a3 pl.form.values.length c3, .int .i64 pl.depth, .int .i64 pl.opener, .int .i64 xe, .int .i64 xf, .int .i64 pl.proc] 145)
  have h0 := h.later hb0
  have hf0 := (keeps_later (B := P + 1) hb0).form hf
  clear h hf
  have HE0 := hide (show Rt.namFit pls n pl = (Rt.isArr pls pl.proc pl.form.name && Rt.exsFit pls pl) by unfold Rt.namFit; rw [if_neg (by omega), if_neg (by omega), if_neg (by omega), if_pos (by omega)])
  have b1 : (pl.form.kind == 1) = false := by simpa using h1
  have b2 : (pl.form.kind == 2) = false := by simpa using h2
  have b3 : (pl.form.kind == 3) = false := by simpa using h3
  have b8 : (pl.form.kind == 8) = false := by simpa using h8
  have b11 : (pl.form.kind == 11) = false := by simpa using h11
  have b9 : (pl.form.kind == 9) = true := by simpa using h9
  clear h1 h2 h3 h8 h11 h9
  go_enter Tryz.func127, Tryz.ntmps127
  go_wp2_with fail
  refine (isArray_any _ _ _ _ _ pl.proc pl.form.name h0 hlen hpar).mono ?_
  rintro e w1 ⟨rfl, hb1⟩
  have hbe1 := hb0.trans (hb1.mono (B' := w.heap.size) (by simp))
  have h1 := h0.later hb1
  have hf1 := (keeps_later (B := P + 1) hb1).form hf0
  have hL1 := block_later hL0 hb1
  clear h0 hf0 hL0 hb0 hb1
  cases hv : Rt.isArr pls pl.proc pl.form.name with
  | false =>
    have HE := hide ((unhide HE0).trans (by rw [hv]; rfl : _ = false))
    have HB := hide hbe1
    clear HE0 hv h1 hf1 hL1 hbe1
    go_wp2_with fail
    go_ret
    exact ⟨by rw [unhide HE]; rfl, unhide HB⟩
  | true =>
    have HE := hide ((unhide HE0).trans (by rw [hv]; rfl : _ = Rt.exsFit pls pl))
    clear HE0 hv
    obtain ⟨l0, l1, l2, l3, l4, l5, l6, l7, l8, l9, l10, l11⟩ := ten_block hL1
    go_wp2_with fail
    refine (expressionsFit_any _ _ _ _ _ pl a0 a1 a2 a3 c0 c1 c2 c3 xe xf h1 hlen hpar hsm hf1).mono ?_
    rintro e w9 ⟨rfl, hb9⟩
    have HB := hide (hbe1.trans (hb9.mono (B' := w.heap.size) (by have := (hbe1).size; omega)))
    clear hb9
    go_wp2_with fail
    go_ret
    exact ⟨by rw [unhide HE]; rfl, unhide HB⟩
set_option maxHeartbeats 2000000 in
set_option maxRecDepth 100000 in
theorem namesFit_12 (w : World) (P : Nat) (pls : List Rt.PL) (lv : Value) (cs : List (List Value)) (n : Nat) (pl : Rt.PL) (a0 a1 a2 a3 : Option Addr) (c0 c1 c2 c3 : Nat) (xe xf : Int) (h : ProgS w P pls lv cs) (hlen : pls.length ≤ 101) (hpar : (Rt.formAt pls pl.proc).params.length ≤ 1000) (hsm : Rt.Small pl.form)
    (hf : FormV w (P + 1) #[.int .i64 pl.form.kind, .string pl.form.name, .int .i64 pl.form.cells, .slice a1 pl.form.params.length c1, .slice a2 pl.form.index.length c2, .slice a3 pl.form.values.length c3] pl.form) (h1 : ¬ pl.form.kind = 1) (h2 : ¬ pl.form.kind = 2) (h3 : ¬ pl.form.kind = 3) (h8 : ¬ pl.form.kind = 8) (h11 : ¬ pl.form.kind = 11) (h9 : ¬ pl.form.kind = 9) (h12 : pl.form.kind = 12) :
    Calls Tryz.prog 127 #[.pointer (some ⟨P, 0, none⟩), .int .i64 n, .agg #[.slice a0 pl.toks.length c0, .int .i64 pl.form.kind, .string pl.form.name, .int .i64 pl.form.cells, .slice a1 pl.form.params.length c1, .slice a2 pl.form.index.length c2, .slice a3 pl.form.values.length c3, .int .i64 pl.depth, .int .i64 pl.opener, .int .i64 xe, .int .i64 xf, .int .i64 pl.proc]] w fun e w' => e = .returned (.bool (Rt.namFit pls n pl)) ∧ Below w.heap.size w w' := by
  have hb0 := (Below.refl w.heap.size w).alloc (Nat.le_refl _) (.cells #[.slice a0 pl.toks.length c0, .int .i64 pl.form.kind, .string pl.form.name, .int .i64 pl.form.cells, .slice a1 pl.form.params.length c1, .slice a2 pl.form.index.length c2, .slice a3 pl.form.values.length c3, .int .i64 pl.depth, .int .i64 pl.opener, .int .i64 xe, .int .i64 xf, .int .i64 pl.proc] 145)
  have hL0 := heap_alloc_new w (.cells #[.slice a0 pl.toks.length c0, .int .i64 pl.form.kind, .string pl.form.name, .int .i64 pl.form.cells, .slice a1 pl.form.params.length c1, .slice a2 pl.form.index.length c2, .slice a3 pl.form.values.length c3, .int .i64 pl.depth, .int .i64 pl.opener, .int .i64 xe, .int .i64 xf, .int .i64 pl.proc] 145)
  have h0 := h.later hb0
  have hf0 := (keeps_later (B := P + 1) hb0).form hf
  clear h hf
  have HE0 := hide (show Rt.namFit pls n pl = (Rt.callFit pls pl.form && Rt.exsFit pls pl) by unfold Rt.namFit; rw [if_neg (by omega), if_neg (by omega), if_neg (by omega), if_neg (by omega), if_pos (by omega)])
  have b1 : (pl.form.kind == 1) = false := by simpa using h1
  have b2 : (pl.form.kind == 2) = false := by simpa using h2
  have b3 : (pl.form.kind == 3) = false := by simpa using h3
  have b8 : (pl.form.kind == 8) = false := by simpa using h8
  have b11 : (pl.form.kind == 11) = false := by simpa using h11
  have b9 : (pl.form.kind == 9) = false := by simpa using h9
  have b12 : (pl.form.kind == 12) = true := by simpa using h12
  clear h1 h2 h3 h8 h11 h9 h12
  go_enter Tryz.func127, Tryz.ntmps127
  go_wp2_with fail
  refine (callFits_any _ _ _ _ _ pl.form a1 a2 a3 c1 c2 c3 h0 hlen).mono ?_
  rintro e w1 ⟨rfl, hb1⟩
  have hbe1 := hb0.trans (hb1.mono (B' := w.heap.size) (by simp))
  have h1 := h0.later hb1
  have hf1 := (keeps_later (B := P + 1) hb1).form hf0
  have hL1 := block_later hL0 hb1
  clear h0 hf0 hL0 hb0 hb1
  cases hv : Rt.callFit pls pl.form with
  | false =>
    have HE := hide ((unhide HE0).trans (by rw [hv]; rfl : _ = false))
    have HB := hide hbe1
    clear HE0 hv h1 hf1 hL1 hbe1
    go_wp2_with fail
    go_ret
    exact ⟨by rw [unhide HE]; rfl, unhide HB⟩
  | true =>
    have HE := hide ((unhide HE0).trans (by rw [hv]; rfl : _ = Rt.exsFit pls pl))
    clear HE0 hv
    obtain ⟨l0, l1, l2, l3, l4, l5, l6, l7, l8, l9, l10, l11⟩ := ten_block hL1
    go_wp2_with fail
    refine (expressionsFit_any _ _ _ _ _ pl a0 a1 a2 a3 c0 c1 c2 c3 xe xf h1 hlen hpar hsm hf1).mono ?_
    rintro e w9 ⟨rfl, hb9⟩
    have HB := hide (hbe1.trans (hb9.mono (B' := w.heap.size) (by have := (hbe1).size; omega)))
    clear hb9
    go_wp2_with fail
    go_ret
    exact ⟨by rw [unhide HE]; rfl, unhide HB⟩
set_option maxHeartbeats 2000000 in
set_option maxRecDepth 100000 in
theorem namesFit_other (w : World) (P : Nat) (pls : List Rt.PL) (lv : Value) (cs : List (List Value)) (n : Nat) (pl : Rt.PL) (a0 a1 a2 a3 : Option Addr) (c0 c1 c2 c3 : Nat) (xe xf : Int) (h : ProgS w P pls lv cs) (hlen : pls.length ≤ 101) (hpar : (Rt.formAt pls pl.proc).params.length ≤ 1000) (hsm : Rt.Small pl.form)
    (hf : FormV w (P + 1) #[.int .i64 pl.form.kind, .string pl.form.name, .int .i64 pl.form.cells, .slice a1 pl.form.params.length c1, .slice a2 pl.form.index.length c2, .slice a3 pl.form.values.length c3] pl.form) (h1 : ¬ pl.form.kind = 1) (h2 : ¬ pl.form.kind = 2) (h3 : ¬ pl.form.kind = 3) (h8 : ¬ pl.form.kind = 8) (h11 : ¬ pl.form.kind = 11) (h9 : ¬ pl.form.kind = 9) (h12 : ¬ pl.form.kind = 12) :
    Calls Tryz.prog 127 #[.pointer (some ⟨P, 0, none⟩), .int .i64 n, .agg #[.slice a0 pl.toks.length c0, .int .i64 pl.form.kind, .string pl.form.name, .int .i64 pl.form.cells, .slice a1 pl.form.params.length c1, .slice a2 pl.form.index.length c2, .slice a3 pl.form.values.length c3, .int .i64 pl.depth, .int .i64 pl.opener, .int .i64 xe, .int .i64 xf, .int .i64 pl.proc]] w fun e w' => e = .returned (.bool (Rt.namFit pls n pl)) ∧ Below w.heap.size w w' := by
  have hb0 := (Below.refl w.heap.size w).alloc (Nat.le_refl _) (.cells #[.slice a0 pl.toks.length c0, .int .i64 pl.form.kind, .string pl.form.name, .int .i64 pl.form.cells, .slice a1 pl.form.params.length c1, .slice a2 pl.form.index.length c2, .slice a3 pl.form.values.length c3, .int .i64 pl.depth, .int .i64 pl.opener, .int .i64 xe, .int .i64 xf, .int .i64 pl.proc] 145)
  have hL0 := heap_alloc_new w (.cells #[.slice a0 pl.toks.length c0, .int .i64 pl.form.kind, .string pl.form.name, .int .i64 pl.form.cells, .slice a1 pl.form.params.length c1, .slice a2 pl.form.index.length c2, .slice a3 pl.form.values.length c3, .int .i64 pl.depth, .int .i64 pl.opener, .int .i64 xe, .int .i64 xf, .int .i64 pl.proc] 145)
  have h0 := h.later hb0
  have hf0 := (keeps_later (B := P + 1) hb0).form hf
  clear h hf
  have HE := hide (show Rt.namFit pls n pl = Rt.exsFit pls pl by unfold Rt.namFit; rw [if_neg (by omega), if_neg (by omega), if_neg (by omega), if_neg (by omega), if_neg (by omega)])
  have b1 : (pl.form.kind == 1) = false := by simpa using h1
  have b2 : (pl.form.kind == 2) = false := by simpa using h2
  have b3 : (pl.form.kind == 3) = false := by simpa using h3
  have b8 : (pl.form.kind == 8) = false := by simpa using h8
  have b11 : (pl.form.kind == 11) = false := by simpa using h11
  have b9 : (pl.form.kind == 9) = false := by simpa using h9
  have b12 : (pl.form.kind == 12) = false := by simpa using h12
  clear h1 h2 h3 h8 h11 h9 h12
  go_enter Tryz.func127, Tryz.ntmps127
  go_wp2_with fail
  refine (expressionsFit_any _ _ _ _ _ pl a0 a1 a2 a3 c0 c1 c2 c3 xe xf h0 hlen hpar hsm hf0).mono ?_
  rintro e w9 ⟨rfl, hb9⟩
  have HB := hide (hb0.trans (hb9.mono (B' := w.heap.size) (by simp)))
  clear h0 hf0 hL0 hb0 hb9
  go_wp2_with fail
  go_ret
  exact ⟨by rw [unhide HE]; rfl, unhide HB⟩
theorem namesFit_any (w : World) (P : Nat) (pls : List Rt.PL) (lv : Value) (cs : List (List Value)) (n : Nat) (pl : Rt.PL) (a0 a1 a2 a3 : Option Addr) (c0 c1 c2 c3 : Nat) (xe xf : Int) (h : ProgS w P pls lv cs) (hlen : pls.length ≤ 101) (hpar : (Rt.formAt pls pl.proc).params.length ≤ 1000) (hsm : Rt.Small pl.form)
    (hf : FormV w (P + 1) #[.int .i64 pl.form.kind, .string pl.form.name, .int .i64 pl.form.cells, .slice a1 pl.form.params.length c1, .slice a2 pl.form.index.length c2, .slice a3 pl.form.values.length c3] pl.form) :
    Calls Tryz.prog 127 #[.pointer (some ⟨P, 0, none⟩), .int .i64 n, .agg #[.slice a0 pl.toks.length c0, .int .i64 pl.form.kind, .string pl.form.name, .int .i64 pl.form.cells, .slice a1 pl.form.params.length c1, .slice a2 pl.form.index.length c2, .slice a3 pl.form.values.length c3, .int .i64 pl.depth, .int .i64 pl.opener, .int .i64 xe, .int .i64 xf, .int .i64 pl.proc]] w fun e w' => e = .returned (.bool (Rt.namFit pls n pl)) ∧ Below w.heap.size w w' := by
  by_cases h1 : pl.form.kind = 1
  · exact namesFit_1 w P pls lv cs n pl a0 a1 a2 a3 c0 c1 c2 c3 xe xf h hlen hf  h1
  by_cases h2 : pl.form.kind = 2
  · exact namesFit_2 w P pls lv cs n pl a0 a1 a2 a3 c0 c1 c2 c3 xe xf h hlen hf h1 h2
  by_cases h3 : pl.form.kind = 3
  · exact namesFit_3 w P pls lv cs n pl a0 a1 a2 a3 c0 c1 c2 c3 xe xf h hlen hsm hf h1 h2 h3
  by_cases h8 : pl.form.kind = 8
  · exact namesFit_8 w P pls lv cs n pl a0 a1 a2 a3 c0 c1 c2 c3 xe xf h hlen hpar hsm hf h1 h2 h3 h8
  by_cases h11 : pl.form.kind = 11
  · exact namesFit_11 w P pls lv cs n pl a0 a1 a2 a3 c0 c1 c2 c3 xe xf h hlen hpar hsm hf h1 h2 h3 h8 h11
  by_cases h9 : pl.form.kind = 9
  · exact namesFit_9 w P pls lv cs n pl a0 a1 a2 a3 c0 c1 c2 c3 xe xf h hlen hpar hsm hf h1 h2 h3 h8 h11 h9
  by_cases h12 : pl.form.kind = 12
  · exact namesFit_12 w P pls lv cs n pl a0 a1 a2 a3 c0 c1 c2 c3 xe xf h hlen hpar hsm hf h1 h2 h3 h8 h11 h9 h12
  exact namesFit_other w P pls lv cs n pl a0 a1 a2 a3 c0 c1 c2 c3 xe xf h hlen hpar hsm hf h1 h2 h3 h8 h11 h9 h12
end Go.Proofs.YthleadfkfnnadaaGreat
