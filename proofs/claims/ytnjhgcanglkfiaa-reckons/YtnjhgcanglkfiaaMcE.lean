/- The machine: one piece of the work on an expression. -/
import Derived.Test.YtnjhgcanglkfiaaMcD
namespace Go.Proofs.Ytnjhgcanglkfiaa
open Go.RowKit
attribute [local go_sem ↓] Go.wp_at_zero Go.wp_at_succ

/-- What a piece of the work says. -/
def WorkP (K : Nat) (x : List Int × Int) (w : World) (e : Ending) (w' : World) : Prop := e = .returned (.int .i64 x.2) ∧ (∃ sv, StkS w' K x.1 sv) ∧ Below K w w'
section
variable (w0 w : World) (M B : Nat) (ty : TypeId) (tail : List Value) (S : Rt.Src) (m : Rt.Mc) (X : McX) (K : Nat) (st : List Int) (sv : Value) (code number : Int) (name : ByteArray)

set_option maxHeartbeats 1000000 in
theorem work_const (h0 : McS w0 M B ty tail S m X) (hm : Mok S m) (hb : Below w0.heap.size w0 w) (hK : w0.heap.size ≤ K) (hs : StkS w K st sv) (hlen : st.length ≤ 1000) :
    Calls Try.prog 62 #[.pointer (some ⟨M, 0, none⟩), .pointer (some ⟨K, 0, none⟩), .agg #[.int .i64 1, .int .i64 number, .string name]] w (WorkP K (st ++ [number], 0) w) := by
  have _u := And.intro h0 (And.intro hm hK)
  clear _u
  have hKlt := block_lt hs.block
  have hbA := (Below.refl w.heap.size w).alloc (Nat.le_refl _) (.cells #[.int .i64 1, .int .i64 number, .string name] 120)
  have bO := heap_alloc_new w (.cells #[.int .i64 1, .int .i64 number, .string name] 120)
  have hs1 := hs.later hbA
  have hbK : Below K w (w.alloc (.cells #[.int .i64 1, .int .i64 number, .string name] 120)) := hbA.mono (by omega)
  have hb1 : Below w0.heap.size w0 (w.alloc (.cells #[.int .i64 1, .int .i64 number, .string name] 120)) := hb.trans (hbA.mono hb.size)
  clear hs hbA
  go_enter Try.func62, Try.ntmps62
  go_wp2_with fail
  refine (push_any _ K st sv number hs1 (by omega)).mono ?_
  rintro e w2 ⟨rfl, ⟨sv2, hs2⟩, hb2⟩
  have HF := hide (And.intro hs2 (hbK.trans (hb2.below hs1)))
  clear hs1 hs2 hb2 hbK hb1 hb h0 hm bO
  go_wp2_with fail
  go_ret
  exact ⟨rfl, ⟨_, (unhide HF).1⟩, (unhide HF).2⟩

set_option maxHeartbeats 1000000 in
theorem work_load (h0 : McS w0 M B ty tail S m X) (hm : Mok S m) (hb : Below w0.heap.size w0 w) (hK : w0.heap.size ≤ K) (hs : StkS w K st sv) (hlen : st.length ≤ 1000) :
    Calls Try.prog 62 #[.pointer (some ⟨M, 0, none⟩), .pointer (some ⟨K, 0, none⟩), .agg #[.int .i64 2, .int .i64 number, .string name]] w (WorkP K (st ++ [Rt.getS m (Rt.varS S m name)], 0) w) := by
  have _u := And.intro h0 (And.intro hm hK)
  clear _u
  have hKlt := block_lt hs.block
  have hbA := (Below.refl w.heap.size w).alloc (Nat.le_refl _) (.cells #[.int .i64 2, .int .i64 number, .string name] 120)
  have bO := heap_alloc_new w (.cells #[.int .i64 2, .int .i64 number, .string name] 120)
  have hs1 := hs.later hbA
  have hbK : Below K w (w.alloc (.cells #[.int .i64 2, .int .i64 number, .string name] 120)) := hbA.mono (by omega)
  have hb1 : Below w0.heap.size w0 (w.alloc (.cells #[.int .i64 2, .int .i64 number, .string name] 120)) := hb.trans (hbA.mono hb.size)
  clear hs hbA
  go_enter Try.func62, Try.ntmps62
  go_wp2_with fail
  refine (mvar_any _ M B ty tail S m X name (h0.later hb1) hm).mono ?_
  rintro e w2 ⟨rfl, hq2⟩
  have hs2 := hs1.later hq2
  have hbK2 := hbK.trans (hq2.mono (B' := K) (by simp; omega))
  have hb2 := hb1.trans (hq2.mono (B' := w0.heap.size) hb1.size)
  clear hs1 hbK hb1 hq2 bO
  generalize Rt.varS S m name = sp at *
  have hbF := (Below.refl w2.heap.size w2).alloc (Nat.le_refl _) (.cells #[.int .i64 sp.line, .int .i64 sp.cell] 66)
  have hs3 := hs2.later hbF
  have hbK3 := hbK2.trans (hbF.mono (B' := K) (by have := block_lt hs2.block; omega))
  have hb3 := hb2.trans (hbF.mono (B' := w0.heap.size) hb2.size)
  clear hs2 hbK2 hb2 hbF
  go_wp2_with fail
  refine (get_any _ M B ty tail S m X sp (h0.later hb3) hm).mono ?_
  rintro e w4 ⟨rfl, hq4⟩
  have hs4 := hs3.later hq4
  have hbK4 := hbK3.trans (hq4.mono (B' := K) (by have := block_lt hs3.block; omega))
  clear hs3 hbK3 hb3 hq4
  generalize Rt.getS m sp = gx at *
  go_wp2_with fail
  refine (push_any _ K _ _ gx hs4 (by first | omega | (simp; omega))).mono ?_
  rintro e w9 ⟨rfl, ⟨sv9, hs9⟩, hb9⟩
  have HF := hide (And.intro hs9 (hbK4.trans (hb9.below hs4)))
  clear hs4 hs9 hb9 hbK4 hb h0 hm
  go_wp2_with fail
  go_ret
  exact ⟨rfl, ⟨_, (unhide HF).1⟩, (unhide HF).2⟩

set_option maxHeartbeats 1000000 in
theorem work_cell (h0 : McS w0 M B ty tail S m X) (hm : Mok S m) (hb : Below w0.heap.size w0 w) (hK : w0.heap.size ≤ K) (hs : StkS w K st sv) (hlen : st.length ≤ 1000) (x : List Int × Int) (hx : x = match Rt.cellS S m name (st.getLastD 0) with | none => (st.dropLast, 3) | some s => (st.dropLast ++ [Rt.getS m s], 0)) :
    Calls Try.prog 62 #[.pointer (some ⟨M, 0, none⟩), .pointer (some ⟨K, 0, none⟩), .agg #[.int .i64 3, .int .i64 number, .string name]] w (WorkP K x w) := by
  have _u := And.intro h0 (And.intro hm hK)
  clear _u
  have hKlt := block_lt hs.block
  have hbA := (Below.refl w.heap.size w).alloc (Nat.le_refl _) (.cells #[.int .i64 3, .int .i64 number, .string name] 120)
  have bO := heap_alloc_new w (.cells #[.int .i64 3, .int .i64 number, .string name] 120)
  have hs1 := hs.later hbA
  have hbK : Below K w (w.alloc (.cells #[.int .i64 3, .int .i64 number, .string name] 120)) := hbA.mono (by omega)
  have hb1 : Below w0.heap.size w0 (w.alloc (.cells #[.int .i64 3, .int .i64 number, .string name] 120)) := hb.trans (hbA.mono hb.size)
  clear hs hbA
  have HX := hide hx
  clear hx
  go_enter Try.func62, Try.ntmps62
  go_wp2_with fail
  refine (pop_any _ K st _ hs1 (by first | omega | (simp <;> omega))).mono ?_
  rintro e w2 ⟨rfl, ⟨sv2, hs2⟩, hqf2⟩
  have hq2 := hqf2.below hs1
  have hbK2 := hbK.trans hq2
  have hb2 := hb1.trans (hq2.mono (B' := w0.heap.size) hK)
  have bO2 : w2.heap[w.heap.size]? = some (.cells #[.int .i64 3, .int .i64 number, .string name] 120 (0, 0)) := hqf2.other hs1 bO (by decide) (by decide)
  have k2 := cell_of_block bO2 2 (by simp)
  simp at k2
  have hsl : st.dropLast.length ≤ 1000 := by simp; omega
  clear hs1 hbK hb1 hq2 bO bO2 hqf2
  generalize st.getLastD 0 = idx at *
  generalize st.dropLast = st2 at *
  go_wp2_with fail
  refine (mcell_any _ M B ty tail S m X name idx (h0.later hb2) hm).mono ?_
  rintro e w3 ⟨rfl, hq3⟩
  have hs3 := hs2.later hq3
  have hbK3 := hbK2.trans (hq3.mono (B' := K) (by have := block_lt hs2.block; omega))
  have hb3 := hb2.trans (hq3.mono (B' := w0.heap.size) hb2.size)
  clear hs2 hbK2 hb2 hq3
  cases hc : Rt.cellS S m name idx with
  | none =>
    have HY := hide (show x = (st2, 3) by rw [unhide HX, hc])
    have hbF := (Below.refl w3.heap.size w3).alloc (Nat.le_refl _) (.cells #[.int .i64 0, .int .i64 0] 66)
    have HF := hide (And.intro (hs3.later hbF) (hbK3.trans (hbF.mono (B' := K) (by have := block_lt hs3.block; omega))))
    clear hs3 hbK3 hb3 hb h0 hm hc hbF
    simp only [cellR]
    go_wp2_with fail
    go_ret
    rw [unhide HY]
    exact ⟨rfl, ⟨_, (unhide HF).1⟩, (unhide HF).2⟩
  | some sp =>
    have HY := hide (show x = (st2 ++ [Rt.getS m sp], 0) by rw [unhide HX, hc])
    clear hc
    simp only [cellR]
    have hbF := (Below.refl w3.heap.size w3).alloc (Nat.le_refl _) (.cells #[.int .i64 sp.line, .int .i64 sp.cell] 66)
    have hs4 := hs3.later hbF
    have hbK4 := hbK3.trans (hbF.mono (B' := K) (by have := block_lt hs3.block; omega))
    have hb4 := hb3.trans (hbF.mono (B' := w0.heap.size) hb3.size)
    clear hs3 hbK3 hb3 hbF
    go_wp2_with fail
    refine (get_any _ M B ty tail S m X sp (h0.later hb4) hm).mono ?_
    rintro e w5 ⟨rfl, hq5⟩
    have hs5 := hs4.later hq5
    have hbK5 := hbK4.trans (hq5.mono (B' := K) (by have := block_lt hs4.block; omega))
    clear hs4 hbK4 hb4 hq5
    generalize Rt.getS m sp = gx at *
    go_wp2_with fail
    refine (push_any _ K _ _ gx hs5 (by first | omega | (simp; omega))).mono ?_
    rintro e w9 ⟨rfl, ⟨sv9, hs9⟩, hb9⟩
    have HF := hide (And.intro hs9 (hbK5.trans (hb9.below hs5)))
    clear hs5 hs9 hb9 hbK5 hb h0 hm
    go_wp2_with fail
    go_ret
    rw [unhide HY]
    exact ⟨rfl, ⟨_, (unhide HF).1⟩, (unhide HF).2⟩

set_option maxHeartbeats 1000000 in
theorem work_neg (h0 : McS w0 M B ty tail S m X) (hm : Mok S m) (hb : Below w0.heap.size w0 w) (hK : w0.heap.size ≤ K) (hs : StkS w K st sv) (hlen : st.length ≤ 1000) :
    Calls Try.prog 62 #[.pointer (some ⟨M, 0, none⟩), .pointer (some ⟨K, 0, none⟩), .agg #[.int .i64 4, .int .i64 number, .string name]] w (WorkP K (st.dropLast ++ [wrap64 (-(st.getLastD 0))], 0) w) := by
  have _u := And.intro h0 (And.intro hm hK)
  clear _u
  have hKlt := block_lt hs.block
  have hbA := (Below.refl w.heap.size w).alloc (Nat.le_refl _) (.cells #[.int .i64 4, .int .i64 number, .string name] 120)
  have bO := heap_alloc_new w (.cells #[.int .i64 4, .int .i64 number, .string name] 120)
  have hs1 := hs.later hbA
  have hbK : Below K w (w.alloc (.cells #[.int .i64 4, .int .i64 number, .string name] 120)) := hbA.mono (by omega)
  have hb1 : Below w0.heap.size w0 (w.alloc (.cells #[.int .i64 4, .int .i64 number, .string name] 120)) := hb.trans (hbA.mono hb.size)
  clear hs hbA
  go_enter Try.func62, Try.ntmps62
  go_wp2_with fail
  refine (pop_any _ K st _ hs1 (by first | omega | (simp <;> omega))).mono ?_
  rintro e w2 ⟨rfl, ⟨sv2, hs2⟩, hqf2⟩
  have hq2 := hqf2.below hs1
  have hbK2 := hbK.trans hq2
  have hb2 := hb1.trans (hq2.mono (B' := w0.heap.size) hK)
  have hsl : st.dropLast.length ≤ 1000 := by simp; omega
  clear hs1 hbK hb1 hq2 bO hb2
  generalize st.getLastD 0 = idx at *
  generalize st.dropLast = st2 at *
  go_wp2_with fail
  refine (push_any _ K _ _ (wrap64 (-idx)) hs2 (by omega)).mono ?_
  rintro e w9 ⟨rfl, ⟨sv9, hs9⟩, hb9⟩
  have HF := hide (And.intro hs9 (hbK2.trans (hb9.below hs2)))
  clear hs2 hs9 hb9 hbK2 hb h0 hm
  go_wp2_with fail
  go_ret
  exact ⟨rfl, ⟨_, (unhide HF).1⟩, (unhide HF).2⟩

set_option maxHeartbeats 1000000 in
theorem work_two (h0 : McS w0 M B ty tail S m X) (hm : Mok S m) (hb : Below w0.heap.size w0 w) (hK : w0.heap.size ≤ K) (hs : StkS w K st sv) (hlen : st.length ≤ 1000) (h1 : ¬ code = 1) (h2 : ¬ code = 2) (h3 : ¬ code = 3) (h4 : ¬ code = 4) (x : List Int × Int) (hx : x = if (Rt.combineI code (st.dropLast.getLastD 0) (st.getLastD 0)).2 = 0 then (st.dropLast.dropLast ++ [(Rt.combineI code (st.dropLast.getLastD 0) (st.getLastD 0)).1], 0) else (st.dropLast.dropLast, (Rt.combineI code (st.dropLast.getLastD 0) (st.getLastD 0)).2)) :
    Calls Try.prog 62 #[.pointer (some ⟨M, 0, none⟩), .pointer (some ⟨K, 0, none⟩), .agg #[.int .i64 code, .int .i64 number, .string name]] w (WorkP K x w) := by
  have _u := And.intro h0 (And.intro hm hK)
  clear _u
  have hKlt := block_lt hs.block
  have hbA := (Below.refl w.heap.size w).alloc (Nat.le_refl _) (.cells #[.int .i64 code, .int .i64 number, .string name] 120)
  have bO := heap_alloc_new w (.cells #[.int .i64 code, .int .i64 number, .string name] 120)
  have hs1 := hs.later hbA
  have hbK : Below K w (w.alloc (.cells #[.int .i64 code, .int .i64 number, .string name] 120)) := hbA.mono (by omega)
  have hb1 : Below w0.heap.size w0 (w.alloc (.cells #[.int .i64 code, .int .i64 number, .string name] 120)) := hb.trans (hbA.mono hb.size)
  clear hs hbA
  have HX := hide hx
  clear hx
  have b1 : (code == 1) = false := by rw [beq_eq_false_iff_ne]; exact h1
  have b2 : (code == 2) = false := by rw [beq_eq_false_iff_ne]; exact h2
  have b3 : (code == 3) = false := by rw [beq_eq_false_iff_ne]; exact h3
  have b4 : (code == 4) = false := by rw [beq_eq_false_iff_ne]; exact h4
  clear h1 h2 h3 h4
  go_enter Try.func62, Try.ntmps62
  go_wp2_with fail
  refine (pop_any _ K st _ hs1 (by first | omega | (simp <;> omega))).mono ?_
  rintro e w2 ⟨rfl, ⟨sv2, hs2⟩, hqf2⟩
  have hq2 := hqf2.below hs1
  have hbK2 := hbK.trans hq2
  have hb2 := hb1.trans (hq2.mono (B' := w0.heap.size) hK)
  have bO2 : w2.heap[w.heap.size]? = some (.cells #[.int .i64 code, .int .i64 number, .string name] 120 (0, 0)) := hqf2.other hs1 bO (by decide) (by decide)
  have hsl : st.dropLast.length ≤ 1000 := by simp; omega
  clear hs1 hbK hb1 hq2 bO
  generalize st.getLastD 0 = rx at *
  generalize st.dropLast = st2 at *
  go_wp2_with fail
  refine (pop_any _ K st2 _ hs2 (by first | omega | (simp <;> omega))).mono ?_
  rintro e w3 ⟨rfl, ⟨sv3, hs3⟩, hqf3⟩
  have hq3 := hqf3.below hs2
  have hbK3 := hbK2.trans hq3
  have hb3 := hb2.trans (hq3.mono (B' := w0.heap.size) hK)
  have bO3 : w3.heap[w.heap.size]? = some (.cells #[.int .i64 code, .int .i64 number, .string name] 120 (0, 0)) := hqf3.other hs2 bO2 (by decide) (by decide)
  have k0 := cell_of_block bO3 0 (by simp)
  simp at k0
  have hsl2 : st2.dropLast.length ≤ 1000 := by simp; omega
  clear hs2 hbK2 hb2 hq3 bO2 bO3 hqf2 hqf3 hb3
  generalize st2.getLastD 0 = lx at *
  generalize st2.dropLast = st3 at *
  go_wp2_with fail
  refine (combine_any _ code lx rx).mono ?_
  rintro e w4 ⟨rfl, rfl⟩
  generalize (Rt.combineI code lx rx).1 = cv at *
  generalize (Rt.combineI code lx rx).2 = ct at *
  by_cases hct : ct = 0
  · subst hct
    have HY := hide (show x = (st3 ++ [cv], 0) by rw [unhide HX, if_pos rfl])
    go_wp2_with fail
    refine (push_any _ K _ _ cv hs3 (by omega)).mono ?_
    rintro e w9 ⟨rfl, ⟨sv9, hs9⟩, hb9⟩
    have HF := hide (And.intro hs9 (hbK3.trans (hb9.below hs3)))
    clear hs3 hs9 hb9 hbK3 hb h0 hm
    go_wp2_with fail
    go_ret
    rw [unhide HY]
    exact ⟨rfl, ⟨_, (unhide HF).1⟩, (unhide HF).2⟩
  · have HY := hide (show x = (st3, ct) by rw [unhide HX, if_neg hct])
    have bc : (ct == 0) = false := by rw [beq_eq_false_iff_ne]; exact hct
    have HF := hide (And.intro hs3 hbK3)
    clear hs3 hbK3 hb h0 hm hct
    go_wp2_with fail
    go_ret
    rw [unhide HY]
    exact ⟨rfl, ⟨_, (unhide HF).1⟩, (unhide HF).2⟩

end
end Go.Proofs.Ytnjhgcanglkfiaa

