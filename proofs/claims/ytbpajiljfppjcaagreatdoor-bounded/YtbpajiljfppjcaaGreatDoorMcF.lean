/- The machine: the work on an expression. -/
import Derived.Test.YtbpajiljfppjcaaGreatDoorMcD
namespace Go.Proofs.YtbpajiljfppjcaaGreatDoor
open Go.RowKit
attribute [local go_sem ↓] Go.wp_at_zero Go.wp_at_succ

/-- What a piece of the work says. -/
def WorkP (K : Nat) (x : List Int × Int) (w : World) (e : Ending) (w' : World) : Prop := e = .returned (.int .i64 x.2) ∧ (∃ sv, StkS w' K x.1 sv) ∧ Below K w w'
section
variable (w0 w : World) (M B : Nat) (ty : TypeId) (tail : List Value) (S : Rt.Src) (m : Rt.Mc) (X : McX) (K : Nat) (st : List Int) (sv : Value) (code number : Int) (name : ByteArray)

set_option maxHeartbeats 1000000 in
theorem work_const (h0 : McS w0 M B ty tail S m X) (hm : Mok S m) (hb : Below w0.heap.size w0 w) (hK : w0.heap.size ≤ K) (hs : StkS w K st sv) (hlen : st.length ≤ 1000) :
    Calls Tryz.prog 146 #[.pointer (some ⟨M, 0, none⟩), .pointer (some ⟨K, 0, none⟩), .agg #[.int .i64 1, .int .i64 number, .string name]] w (WorkP K (st ++ [number], 0) w) := by
  have _u := And.intro h0 (And.intro hm hK)
  clear _u
  have hKlt := block_lt hs.block
  have hbA := (Below.refl w.heap.size w).alloc (Nat.le_refl _) (.cells #[.int .i64 1, .int .i64 number, .string name] 200)
  have bO := heap_alloc_new w (.cells #[.int .i64 1, .int .i64 number, .string name] 200)
  have hs1 := hs.later hbA
  have hbK : Below K w (w.alloc (.cells #[.int .i64 1, .int .i64 number, .string name] 200)) := hbA.mono (by omega)
  have hb1 : Below w0.heap.size w0 (w.alloc (.cells #[.int .i64 1, .int .i64 number, .string name] 200)) := hb.trans (hbA.mono hb.size)
  clear hs hbA
  go_enter Tryz.func146, Tryz.ntmps146
  go_wp2_with fail
  refine (push_any _ K st sv number hs1 (by omega)).mono ?_
  rintro e w2 ⟨rfl, ⟨sv2, hs2⟩, hb2⟩
  have HF := hide (And.intro hs2 (hbK.trans (hb2.below hs1)))
  clear hs1 hs2 hb2 hbK hb1 hb h0 hm bO
  go_wp2_with fail
  go_ret
  exact ⟨rfl, ⟨_, (unhide HF).1⟩, (unhide HF).2⟩

set_option maxHeartbeats 1000000 in
theorem work_load (h0 : McS w0 M B ty tail S m X) (hm : Mok S m) (hb : Below w0.heap.size w0 w) (hK : w0.heap.size ≤ K) (hs : StkS w K st sv) (hlen : st.length ≤ 1000) :
    Calls Tryz.prog 146 #[.pointer (some ⟨M, 0, none⟩), .pointer (some ⟨K, 0, none⟩), .agg #[.int .i64 2, .int .i64 number, .string name]] w (WorkP K (st ++ [Rt.getS m (Rt.varS S m name)], 0) w) := by
  have _u := And.intro h0 (And.intro hm hK)
  clear _u
  have hKlt := block_lt hs.block
  have hbA := (Below.refl w.heap.size w).alloc (Nat.le_refl _) (.cells #[.int .i64 2, .int .i64 number, .string name] 200)
  have bO := heap_alloc_new w (.cells #[.int .i64 2, .int .i64 number, .string name] 200)
  have hs1 := hs.later hbA
  have hbK : Below K w (w.alloc (.cells #[.int .i64 2, .int .i64 number, .string name] 200)) := hbA.mono (by omega)
  have hb1 : Below w0.heap.size w0 (w.alloc (.cells #[.int .i64 2, .int .i64 number, .string name] 200)) := hb.trans (hbA.mono hb.size)
  clear hs hbA
  go_enter Tryz.func146, Tryz.ntmps146
  go_wp2_with fail
  refine (mvar_any _ M B ty tail S m X name (h0.later hb1) hm).mono ?_
  rintro e w2 ⟨rfl, hq2⟩
  have hs2 := hs1.later hq2
  have hbK2 := hbK.trans (hq2.mono (B' := K) (by simp; omega))
  have hb2 := hb1.trans (hq2.mono (B' := w0.heap.size) hb1.size)
  clear hs1 hbK hb1 hq2 bO
  generalize Rt.varS S m name = sp at *
  have hbF := (Below.refl w2.heap.size w2).alloc (Nat.le_refl _) (.cells #[.int .i64 sp.line, .int .i64 sp.cell] 131)
  have hs3 := hs2.later hbF
  have hbK3 := hbK2.trans (hbF.mono (B' := K) (by have := block_lt hs2.block; omega))
  have hb3 := hb2.trans (hbF.mono (B' := w0.heap.size) hb2.size)
  clear hs2 hbK2 hb2 hbF
  go_wp2_with fail
  refine (get_any _ M B ty tail S m X sp (h0.later hb3) hm).mono ?_
  rintro e w4 ⟨rfl, hq4⟩
  have hs4 := hs3.later hq4
  have hbK4 := hbK3.trans (hq4.mono (B' := K) (by have := block_lt hs3.block; omega))
  clear hs3 hbK3 hb3 hq4
  generalize Rt.getS m sp = gx at *
  go_wp2_with fail
  refine (push_any _ K _ _ gx hs4 (by first | omega | (simp; omega))).mono ?_
  rintro e w9 ⟨rfl, ⟨sv9, hs9⟩, hb9⟩
  have HF := hide (And.intro hs9 (hbK4.trans (hb9.below hs4)))
  clear hs4 hs9 hb9 hbK4 hb h0 hm
  go_wp2_with fail
  go_ret
  exact ⟨rfl, ⟨_, (unhide HF).1⟩, (unhide HF).2⟩

set_option maxHeartbeats 1000000 in
theorem work_cell (h0 : McS w0 M B ty tail S m X) (hm : Mok S m) (hb : Below w0.heap.size w0 w) (hK : w0.heap.size ≤ K) (hs : StkS w K st sv) (hlen : st.length ≤ 1000) (x : List Int × Int) (hx : x = match Rt.cellS S m name (st.getLastD 0) with | none => (st.dropLast, 3) | some s => (st.dropLast ++ [Rt.getS m s], 0)) :
    Calls Tryz.prog 146 #[.pointer (some ⟨M, 0, none⟩), .pointer (some ⟨K, 0, none⟩), .agg #[.int .i64 3, .int .i64 number, .string name]] w (WorkP K x w) := by
  have _u := And.intro h0 (And.intro hm hK)
  clear _u
  have hKlt := block_lt hs.block
  have hbA := (Below.refl w.heap.size w).alloc (Nat.le_refl _) (.cells #[.int .i64 3, .int .i64 number, .string name] 200)
  have bO := heap_alloc_new w (.cells #[.int .i64 3, .int .i64 number, .string name] 200)
  have hs1 := hs.later hbA
  have hbK : Below K w (w.alloc (.cells #[.int .i64 3, .int .i64 number, .string name] 200)) := hbA.mono (by omega)
  have hb1 : Below w0.heap.size w0 (w.alloc (.cells #[.int .i64 3, .int .i64 number, .string name] 200)) := hb.trans (hbA.mono hb.size)
  clear hs hbA
  have HX := hide hx
  clear hx
  go_enter Tryz.func146, Tryz.ntmps146
  go_wp2_with fail
  refine (pop_any _ K st _ hs1 (by first | omega | (simp <;> omega))).mono ?_
  rintro e w2 ⟨rfl, ⟨sv2, hs2⟩, hqf2⟩
  have hq2 := hqf2.below hs1
  have hbK2 := hbK.trans hq2
  have hb2 := hb1.trans (hq2.mono (B' := w0.heap.size) hK)
  have bO2 : w2.heap[w.heap.size]? = some (.cells #[.int .i64 3, .int .i64 number, .string name] 200 (0, 0)) := hqf2.other hs1 bO (by decide) (by decide)
  have k2 := cell_of_block bO2 2 (by simp)
  simp at k2
  have hsl : st.dropLast.length ≤ 1000 := by simp; omega
  clear hs1 hbK hb1 hq2 bO bO2 hqf2
  generalize st.getLastD 0 = idx at *
  generalize st.dropLast = st2 at *
  go_wp2_with fail
  refine (mcell_any _ M B ty tail S m X name idx (h0.later hb2) hm).mono ?_
  rintro e w3 ⟨rfl, hq3⟩
  have hs3 := hs2.later hq3
  have hbK3 := hbK2.trans (hq3.mono (B' := K) (by have := block_lt hs2.block; omega))
  have hb3 := hb2.trans (hq3.mono (B' := w0.heap.size) hb2.size)
  clear hs2 hbK2 hb2 hq3
  cases hc : Rt.cellS S m name idx with
  | none =>
    have HY := hide (show x = (st2, 3) by rw [unhide HX, hc])
    have hbF := (Below.refl w3.heap.size w3).alloc (Nat.le_refl _) (.cells #[.int .i64 0, .int .i64 0] 131)
    have HF := hide (And.intro (hs3.later hbF) (hbK3.trans (hbF.mono (B' := K) (by have := block_lt hs3.block; omega))))
    clear hs3 hbK3 hb3 hb h0 hm hc hbF
    simp only [cellR]
    go_wp2_with fail
    go_ret
    rw [unhide HY]
    exact ⟨rfl, ⟨_, (unhide HF).1⟩, (unhide HF).2⟩
  | some sp =>
    have HY := hide (show x = (st2 ++ [Rt.getS m sp], 0) by rw [unhide HX, hc])
    clear hc
    simp only [cellR]
    have hbF := (Below.refl w3.heap.size w3).alloc (Nat.le_refl _) (.cells #[.int .i64 sp.line, .int .i64 sp.cell] 131)
    have hs4 := hs3.later hbF
    have hbK4 := hbK3.trans (hbF.mono (B' := K) (by have := block_lt hs3.block; omega))
    have hb4 := hb3.trans (hbF.mono (B' := w0.heap.size) hb3.size)
    clear hs3 hbK3 hb3 hbF
    go_wp2_with fail
    refine (get_any _ M B ty tail S m X sp (h0.later hb4) hm).mono ?_
    rintro e w5 ⟨rfl, hq5⟩
    have hs5 := hs4.later hq5
    have hbK5 := hbK4.trans (hq5.mono (B' := K) (by have := block_lt hs4.block; omega))
    clear hs4 hbK4 hb4 hq5
    generalize Rt.getS m sp = gx at *
    go_wp2_with fail
    refine (push_any _ K _ _ gx hs5 (by first | omega | (simp; omega))).mono ?_
    rintro e w9 ⟨rfl, ⟨sv9, hs9⟩, hb9⟩
    have HF := hide (And.intro hs9 (hbK5.trans (hb9.below hs5)))
    clear hs5 hs9 hb9 hbK5 hb h0 hm
    go_wp2_with fail
    go_ret
    rw [unhide HY]
    exact ⟨rfl, ⟨_, (unhide HF).1⟩, (unhide HF).2⟩

set_option maxHeartbeats 1000000 in
theorem work_neg (h0 : McS w0 M B ty tail S m X) (hm : Mok S m) (hb : Below w0.heap.size w0 w) (hK : w0.heap.size ≤ K) (hs : StkS w K st sv) (hlen : st.length ≤ 1000) :
    Calls Tryz.prog 146 #[.pointer (some ⟨M, 0, none⟩), .pointer (some ⟨K, 0, none⟩), .agg #[.int .i64 4, .int .i64 number, .string name]] w (WorkP K (st.dropLast ++ [wrap64 (-(st.getLastD 0))], 0) w) := by
  have _u := And.intro h0 (And.intro hm hK)
  clear _u
  have hKlt := block_lt hs.block
  have hbA := (Below.refl w.heap.size w).alloc (Nat.le_refl _) (.cells #[.int .i64 4, .int .i64 number, .string name] 200)
  have bO := heap_alloc_new w (.cells #[.int .i64 4, .int .i64 number, .string name] 200)
  have hs1 := hs.later hbA
  have hbK : Below K w (w.alloc (.cells #[.int .i64 4, .int .i64 number, .string name] 200)) := hbA.mono (by omega)
  have hb1 : Below w0.heap.size w0 (w.alloc (.cells #[.int .i64 4, .int .i64 number, .string name] 200)) := hb.trans (hbA.mono hb.size)
  clear hs hbA
  go_enter Tryz.func146, Tryz.ntmps146
  go_wp2_with fail
  refine (pop_any _ K st _ hs1 (by first | omega | (simp <;> omega))).mono ?_
  rintro e w2 ⟨rfl, ⟨sv2, hs2⟩, hqf2⟩
  have hq2 := hqf2.below hs1
  have hbK2 := hbK.trans hq2
  have hb2 := hb1.trans (hq2.mono (B' := w0.heap.size) hK)
  have hsl : st.dropLast.length ≤ 1000 := by simp; omega
  clear hs1 hbK hb1 hq2 bO hb2
  generalize st.getLastD 0 = idx at *
  generalize st.dropLast = st2 at *
  go_wp2_with fail
  refine (push_any _ K _ _ (wrap64 (-idx)) hs2 (by omega)).mono ?_
  rintro e w9 ⟨rfl, ⟨sv9, hs9⟩, hb9⟩
  have HF := hide (And.intro hs9 (hbK2.trans (hb9.below hs2)))
  clear hs2 hs9 hb9 hbK2 hb h0 hm
  go_wp2_with fail
  go_ret
  exact ⟨rfl, ⟨_, (unhide HF).1⟩, (unhide HF).2⟩

set_option maxHeartbeats 1000000 in
theorem work_two (h0 : McS w0 M B ty tail S m X) (hm : Mok S m) (hb : Below w0.heap.size w0 w) (hK : w0.heap.size ≤ K) (hs : StkS w K st sv) (hlen : st.length ≤ 1000) (h1 : ¬ code = 1) (h2 : ¬ code = 2) (h3 : ¬ code = 3) (h4 : ¬ code = 4) (x : List Int × Int) (hx : x = if (Rt.combineI code (st.dropLast.getLastD 0) (st.getLastD 0)).2 = 0 then (st.dropLast.dropLast ++ [(Rt.combineI code (st.dropLast.getLastD 0) (st.getLastD 0)).1], 0) else (st.dropLast.dropLast, (Rt.combineI code (st.dropLast.getLastD 0) (st.getLastD 0)).2)) :
    Calls Tryz.prog 146 #[.pointer (some ⟨M, 0, none⟩), .pointer (some ⟨K, 0, none⟩), .agg #[.int .i64 code, .int .i64 number, .string name]] w (WorkP K x w) := by
  have _u := And.intro h0 (And.intro hm hK)
  clear _u
  have hKlt := block_lt hs.block
  have hbA := (Below.refl w.heap.size w).alloc (Nat.le_refl _) (.cells #[.int .i64 code, .int .i64 number, .string name] 200)
  have bO := heap_alloc_new w (.cells #[.int .i64 code, .int .i64 number, .string name] 200)
  have hs1 := hs.later hbA
  have hbK : Below K w (w.alloc (.cells #[.int .i64 code, .int .i64 number, .string name] 200)) := hbA.mono (by omega)
  have hb1 : Below w0.heap.size w0 (w.alloc (.cells #[.int .i64 code, .int .i64 number, .string name] 200)) := hb.trans (hbA.mono hb.size)
  clear hs hbA
  have HX := hide hx
  clear hx
  have b1 : (code == 1) = false := by rw [beq_eq_false_iff_ne]; exact h1
  have b2 : (code == 2) = false := by rw [beq_eq_false_iff_ne]; exact h2
  have b3 : (code == 3) = false := by rw [beq_eq_false_iff_ne]; exact h3
  have b4 : (code == 4) = false := by rw [beq_eq_false_iff_ne]; exact h4
  clear h1 h2 h3 h4
  go_enter Tryz.func146, Tryz.ntmps146
  go_wp2_with fail
  refine (pop_any _ K st _ hs1 (by first | omega | (simp <;> omega))).mono ?_
  rintro e w2 ⟨rfl, ⟨sv2, hs2⟩, hqf2⟩
  have hq2 := hqf2.below hs1
  have hbK2 := hbK.trans hq2
  have hb2 := hb1.trans (hq2.mono (B' := w0.heap.size) hK)
  have bO2 : w2.heap[w.heap.size]? = some (.cells #[.int .i64 code, .int .i64 number, .string name] 200 (0, 0)) := hqf2.other hs1 bO (by decide) (by decide)
  have hsl : st.dropLast.length ≤ 1000 := by simp; omega
  clear hs1 hbK hb1 hq2 bO
  generalize st.getLastD 0 = rx at *
  generalize st.dropLast = st2 at *
  go_wp2_with fail
  refine (pop_any _ K st2 _ hs2 (by first | omega | (simp <;> omega))).mono ?_
  rintro e w3 ⟨rfl, ⟨sv3, hs3⟩, hqf3⟩
  have hq3 := hqf3.below hs2
  have hbK3 := hbK2.trans hq3
  have hb3 := hb2.trans (hq3.mono (B' := w0.heap.size) hK)
  have bO3 : w3.heap[w.heap.size]? = some (.cells #[.int .i64 code, .int .i64 number, .string name] 200 (0, 0)) := hqf3.other hs2 bO2 (by decide) (by decide)
  have k0 := cell_of_block bO3 0 (by simp)
  simp at k0
  have hsl2 : st2.dropLast.length ≤ 1000 := by simp; omega
  clear hs2 hbK2 hb2 hq3 bO2 bO3 hqf2 hqf3 hb3
  generalize st2.getLastD 0 = lx at *
  generalize st2.dropLast = st3 at *
  go_wp2_with fail
  refine (combine_any _ code lx rx).mono ?_
  rintro e w4 ⟨rfl, rfl⟩
  generalize (Rt.combineI code lx rx).1 = cv at *
  generalize (Rt.combineI code lx rx).2 = ct at *
  by_cases hct : ct = 0
  · subst hct
    have HY := hide (show x = (st3 ++ [cv], 0) by rw [unhide HX, if_pos rfl])
    go_wp2_with fail
    refine (push_any _ K _ _ cv hs3 (by omega)).mono ?_
    rintro e w9 ⟨rfl, ⟨sv9, hs9⟩, hb9⟩
    have HF := hide (And.intro hs9 (hbK3.trans (hb9.below hs3)))
    clear hs3 hs9 hb9 hbK3 hb h0 hm
    go_wp2_with fail
    go_ret
    rw [unhide HY]
    exact ⟨rfl, ⟨_, (unhide HF).1⟩, (unhide HF).2⟩
  · have HY := hide (show x = (st3, ct) by rw [unhide HX, if_neg hct])
    have bc : (ct == 0) = false := by rw [beq_eq_false_iff_ne]; exact hct
    have HF := hide (And.intro hs3 hbK3)
    clear hs3 hbK3 hb h0 hm hct
    go_wp2_with fail
    go_ret
    rw [unhide HY]
    exact ⟨rfl, ⟨_, (unhide HF).1⟩, (unhide HF).2⟩

end
end Go.Proofs.YtbpajiljfppjcaaGreatDoor

namespace Go.Proofs.YtbpajiljfppjcaaGreatDoor
open Go.RowKit
attribute [local go_sem ↓] Go.wp_at_zero Go.wp_at_succ

theorem work_any (w0 w : World) (M B : Nat) (ty : TypeId) (tail : List Value) (S : Rt.Src) (m : Rt.Mc) (X : McX) (K : Nat) (st : List Int) (sv : Value) (o : Pop) (h0 : McS w0 M B ty tail S m X) (hm : Mok S m) (hb : Below w0.heap.size w0 w) (hK : w0.heap.size ≤ K) (hs : StkS w K st sv) (hlen : st.length ≤ 1000) :
    Calls Tryz.prog 146 #[.pointer (some ⟨M, 0, none⟩), .pointer (some ⟨K, 0, none⟩), .agg #[.int .i64 o.code, .int .i64 o.number, .string o.name]] w (WorkP K (Rt.workI S m st o) w) := by
  obtain ⟨code, number, name⟩ := o
  by_cases h1 : code = 1
  · subst h1
    exact work_const w0 w M B ty tail S m X K st sv number name h0 hm hb hK hs hlen
  by_cases h2 : code = 2
  · subst h2
    exact work_load w0 w M B ty tail S m X K st sv number name h0 hm hb hK hs hlen
  by_cases h3 : code = 3
  · subst h3
    exact work_cell w0 w M B ty tail S m X K st sv number name h0 hm hb hK hs hlen _ rfl
  by_cases h4 : code = 4
  · subst h4
    exact work_neg w0 w M B ty tail S m X K st sv number name h0 hm hb hK hs hlen
  refine work_two w0 w M B ty tail S m X K st sv code number name h0 hm hb hK hs hlen h1 h2 h3 h4 _ ?_
  unfold Rt.workI
  simp only
  rw [if_neg h1, if_neg h2, if_neg h3, if_neg h4]
theorem workI_len (S : Rt.Src) (m : Rt.Mc) (st : List Int) (o : Pop) : (Rt.workI S m st o).1.length ≤ st.length + 1 := by
  unfold Rt.workI
  split
  · simp
  · split
    · simp
    · split
      · split <;> simp <;> omega
      · split
        · simp <;> omega
        · simp only
          split <;> simp <;> omega

set_option maxHeartbeats 2000000 in
set_option maxRecDepth 100000 in
theorem evaluate_any (w : World) (M B : Nat) (ty : TypeId) (tail : List Value) (S : Rt.Src) (m : Rt.Mc) (X : McX) (BB : Nat) (ad : Option Addr) (cap : Nat) (ops : List Pop) (h : McS w M B ty tail S m X) (hm : Mok S m) (hx : w.ownsRow BB 200 3 (.slice ad ops.length cap) ops.length (popsCells ops)) (hops : ops.length ≤ 900) :
    Calls Tryz.prog 123 #[.pointer (some ⟨M, 0, none⟩), .agg #[.slice ad ops.length cap]] w fun e w' => e = .returned (.tuple #[.int .i64 (Rt.evalE S m ops).1, .int .i64 (Rt.evalE S m ops).2]) ∧ Below w.heap.size w w' := by
  have hb0 := ((Below.refl w.heap.size w).alloc (Nat.le_refl _) (.cells #[.slice ad ops.length cap] 117)).alloc (by simp) (.cells #[.slice none 0 0] 196)
  have bE := block_alloc (heap_alloc_new w (.cells #[.slice ad ops.length cap] 117)) (.cells #[.slice none 0 0] 196)
  have bK := alloc2_plain w (.cells #[.slice ad ops.length cap] 117) (.cells #[.slice none 0 0] 196)
  have hs0 : StkS ((w.alloc (.cells #[.slice ad ops.length cap] 117)).alloc (.cells #[.slice none 0 0] 196)) (w.heap.size + 1) [] (.slice none 0 0) := ⟨bK, World.ownsRow_nil _ _ _ _⟩
  have HH := hide (And.intro h hx)
  clear h hx
  go_enter Tryz.func123, Tryz.ntmps123
  go_wp2_with fail
  go_loopw [7, 8] (fun i _ wr => ∃ (k : Nat) (st : List Int) (sv : Value), k ≤ ops.length ∧ i = .int .i64 k ∧ st.length ≤ k ∧ Rt.evalI S m (ops.drop k) st = Rt.evalE S m ops ∧ StkS wr (w.heap.size + 1) st sv ∧ wr.heap[w.heap.size]? = some (.cells #[.slice ad ops.length cap] 117 (0, 0)) ∧ Below w.heap.size w wr)
    (fun i _ _ => ops.length - (intOf i).toNat)
  case atStart => exact ⟨0, [], _, Nat.zero_le _, rfl, by simp, rfl, hs0, bE, hb0⟩
  case round =>
    clear hs0 bE hb0 bK
    obtain ⟨k, st, sv, hk, rfl, hst, hT, hs, hE, hbe⟩ := hrel
    have cE := cell_of_block hE 0 (by simp)
    simp at cE
    have hElt := block_lt hE
    have HT := hide hT
    clear hT
    by_cases hlt : k < ops.length
    · obtain ⟨g, hg, o0, o1, o2⟩ := own_three (own_later (unhide HH).2 hbe) hlt
      subst hg
      have hlt' : (k : Int) < (ops.length : Int) := by omega
      have hk0 : (0 : Int) ≤ (k : Int) := by omega
      have HN := hide (show Rt.evalE S m ops = if (Rt.workI S m st ops[k]).2 = 0 then Rt.evalI S m (ops.drop (k + 1)) (Rt.workI S m st ops[k]).1 else (0, (Rt.workI S m st ops[k]).2) by rw [← unhide HT, List.drop_eq_getElem_cons hlt, Rt.evalI])
      have hwl := workI_len S m st ops[k]
      have HW := hide (work_any w wr M B ty tail S m X (w.heap.size + 1) st sv ops[k] (unhide HH).1 hm hbe (by omega) hs (by omega))
      have HX := hide (And.intro hs (And.intro hE hbe))
      clear hs hE hbe HT
      generalize Rt.workI S m st ops[k] = y at *
      generalize ops[k] = o at *
      go_wp2_with fail
      refine (unhide HW).mono ?_
      rintro e w2 ⟨rfl, ⟨sv2, hs2⟩, hb2⟩
      obtain ⟨hs, hE, hbe⟩ := unhide HX
      have hE2 : w2.heap[w.heap.size]? = some (.cells #[.slice (some ⟨g, 0, none⟩) ops.length cap] 117 (0, 0)) := by rw [hb2.block w.heap.size (by omega)]; exact hE
      have hbe2 := hbe.trans (hb2.mono (B' := w.heap.size) (by omega))
      have HF := hide (And.intro hs2 (And.intro hE2 hbe2))
      clear hs2 hb2 hs hE hbe hE2 hbe2 HW HX
      obtain ⟨st2, tr⟩ := y
      simp only at HN hwl HF ⊢
      by_cases htr : tr = 0
      · subst htr
        have HN2 := hide ((unhide HN).trans (if_pos rfl))
        clear HN
        go_wp2_with fail
        go_roundw
        case rel =>
          obtain ⟨q1, q2, q3⟩ := unhide HF
          exact ⟨k + 1, st2, _, by omega, by go_num, by omega, (unhide HN2).symm, q1, q2, q3⟩
        case measure => simp [intOf]; omega
      · have HN2 := hide ((unhide HN).trans (if_neg htr))
        have btr : (tr != 0) = true := by simpa using htr
        clear HN htr
        go_wp2_with fail
        go_ret2
        exact ⟨by rw [unhide HN2]; rfl, (unhide HF).2.2⟩
    · have hlt' : ¬ (k : Int) < (ops.length : Int) := by omega
      have HN := hide (show Rt.evalE S m ops = (st.getLastD 0, 0) by rw [← unhide HT, List.drop_eq_nil_of_le (by omega), Rt.evalI])
      have HB := hide hbe
      clear HT hE hbe
      go_wp2_with fail
      refine (pop_any _ _ st sv hs (by omega)).mono ?_
      rintro e w2 ⟨rfl, _, hf2⟩
      have HF := hide ((unhide HB).trans ((hf2.below hs).mono (B' := w.heap.size) (by omega)))
      clear hf2 hs
      generalize st.getLastD 0 = gv at *
      go_wp2_with fail
      go_ret2
      exact ⟨by rw [unhide HN]; rfl, unhide HF⟩

set_option maxHeartbeats 1000000 in
theorem value_any (w : World) (M B : Nat) (ty : TypeId) (tail : List Value) (S : Rt.Src) (m : Rt.Mc) (X : McX) (BB : Nat) (fm : Rt.PForm) (a1 a2 a3 : Option Addr) (c1 c2 c3 : Nat) (h : McS w M B ty tail S m X) (hm : Mok S m) (hf : FormV w BB #[.int .i64 fm.kind, .string fm.name, .int .i64 fm.cells, .slice a1 fm.params.length c1, .slice a2 fm.index.length c2, .slice a3 fm.values.length c3] fm) (hsm : Rt.Small fm) (hops : ∀ o ∈ fm.values, o.length ≤ 900) :
    Calls Tryz.prog 121 #[.pointer (some ⟨M, 0, none⟩), .agg #[.int .i64 fm.kind, .string fm.name, .int .i64 fm.cells, .slice a1 fm.params.length c1, .slice a2 fm.index.length c2, .slice a3 fm.values.length c3]] w fun e w' => e = .returned (.tuple #[.int .i64 (Rt.valueF S m fm).1, .int .i64 (Rt.valueF S m fm).2]) ∧ Below w.heap.size w w' := by
  have _u := hsm
  clear _u
  have hb0 := (Below.refl w.heap.size w).alloc (Nat.le_refl _) (.cells #[.int .i64 fm.kind, .string fm.name, .int .i64 fm.cells, .slice a1 fm.params.length c1, .slice a2 fm.index.length c2, .slice a3 fm.values.length c3] 120)
  have hA := h.later hb0
  obtain ⟨pv, iv, vv, vs, hfe, _, _, b3, b4⟩ := hf
  have hvv : vv = .slice a3 fm.values.length c3 := by simp at hfe; exact hfe.2.2.symm
  subst hvv
  have b3' := own_later b3 hb0
  have bF := heap_alloc_new w (.cells #[.int .i64 fm.kind, .string fm.name, .int .i64 fm.cells, .slice a1 fm.params.length c1, .slice a2 fm.index.length c2, .slice a3 fm.values.length c3] 120)
  clear h hfe
  by_cases h0 : fm.values.length = 0
  · have HE := hide (show Rt.valueF S m fm = (0, 0) by unfold Rt.valueF; rw [List.eq_nil_of_length_eq_zero h0])
    have hz : ((fm.values.length : Int) == 0) = true := by simpa using h0
    have HB := hide hb0
    clear hA b3 b3' b4 bF hb0 hm hsm hops h0
    go_enter Tryz.func121, Tryz.ntmps121
    go_wp2_with fail
    go_ret2
    exact ⟨by rw [unhide HE]; rfl, unhide HB⟩
  · have hz : ((fm.values.length : Int) == 0) = false := by rw [beq_eq_false_iff_ne]; omega
    have hpos : (0 : Int) < (fm.values.length : Int) := by omega
    obtain ⟨o, os, hvs⟩ : ∃ o os, fm.values = o :: os := by
      cases hv : fm.values with
      | nil => rw [hv] at h0; simp at h0
      | cons o os => exact ⟨o, os, rfl⟩
    have HE := hide (show Rt.valueF S m fm = Rt.evalE S m o by unfold Rt.valueF; rw [hvs])
    have hol := hops o (by rw [hvs]; exact List.mem_cons_self ..)
    obtain ⟨x, xs, hx, hxo⟩ : ∃ x xs, vs = x :: xs ∧ w.ownsRow BB 200 3 x o.length (popsCells o) := by
      rw [hvs] at b4
      cases vs with
      | nil => exact b4.elim
      | cons x xs => exact ⟨x, xs, rfl, b4.1⟩
    obtain ⟨xad, xcap, rfl⟩ := ownsRow_form hxo
    subst hx
    obtain ⟨g, gcap, hgv, _, _, ca⟩ := own_cell b3' (j := 0) (u := .slice xad o.length xcap) rfl
    injection hgv with e1 _ e2
    subst e1 e2
    have hxo' := own_later hxo hb0
    have HV := hide (evaluate_any _ M B ty tail S m X BB xad xcap o hA hm hxo' hol)
    have HB := hide hb0
    clear hA b3 b3' b4 hb0 hm hsm hops h0 hxo hxo' hvs
    generalize fm.values.length = vl at *
    go_enter Tryz.func121, Tryz.ntmps121
    go_wp2_with fail
    refine (unhide HV).mono ?_
    rintro e w2 ⟨rfl, hb2⟩
    have HF := hide ((unhide HB).trans (hb2.mono (B' := w.heap.size) (by simp)))
    clear hb2 HV HB
    generalize Rt.evalE S m o = y at *
    obtain ⟨y1, y2⟩ := y
    go_wp2_with fail
    go_ret2
    exact ⟨by rw [unhide HE]; rfl, unhide HF⟩
end Go.Proofs.YtbpajiljfppjcaaGreatDoor

