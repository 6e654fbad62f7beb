/- The machine: one piece of the work on an expression. -/
import Derived.Test.YtbpajiljfppjcaaGreatMcC
namespace Go.Proofs.YtbpajiljfppjcaaGreat
open Go.RowKit
attribute [local go_sem ↓] Go.wp_at_zero Go.wp_at_succ

/-- The values at hand, at block K. -/
structure StkS (w : World) (K : Nat) (st : List Int) (sv : Value) : Prop where
  block : w.heap[K]? = some (.cells #[sv] 137 (0, 0))
  own : w.ownsRow (K + 1) 3 1 sv st.length (intsV st)
theorem StkS.later {w w' : World} {K : Nat} {st : List Int} {sv : Value} (h : StkS w K st sv) (hb : Below w.heap.size w w') : StkS w' K st sv := ⟨block_later h.block hb, own_later h.own hb⟩
/-- What a call leaves that writes to the stack alone. -/
structure StkF (K : Nat) (sv : Value) (w w' : World) : Prop where
  os : w'.os = w.os
  tape : w'.tape = w.tape
  output : w'.output = w.output
  size : w.heap.size ≤ w'.heap.size
  block : ∀ k, k < w.heap.size → k ≠ K → some k ≠ sv.ownBlock → w'.heap[k]? = w.heap[k]?
theorem StkF.below {K : Nat} {sv : Value} {w w' : World} {st : List Int} (h : StkF K sv w w') (hs : StkS w K st sv) : Below K w w' := by
  have hlt := block_lt hs.block
  exact ⟨h.os, h.tape, h.output, h.size, fun k hk => h.block k (by omega) (by omega) (fun e => by have := (hs.own.lt k e.symm).1; omega)⟩
theorem StkF.other {K : Nat} {sv : Value} {w w' : World} {st : List Int} (h : StkF K sv w w') (hs : StkS w K st sv) {N : Nat} {c : Array Value} {t : TypeId} (hN : w.heap[N]? = some (.cells c t (0, 0))) (h1 : t ≠ 3) (h2 : t ≠ 137) : w'.heap[N]? = some (.cells c t (0, 0)) := by
  rw [h.block N (block_lt hN) ?_ ?_]
  · exact hN
  · intro e
    rw [e, hs.block] at hN
    injection hN with hN
    injection hN with _ hN
    exact h2 hN.symm
  · intro e
    obtain ⟨c', hc⟩ := own_blk hs.own e.symm
    rw [hN] at hc
    injection hc with hc
    injection hc with _ hc
    exact h1 hc
theorem sdec (o : List Int) : o = [] ∨ ∃ pre x, o = pre ++ [x] := by
  rcases List.eq_nil_or_concat o with h | ⟨pre, b, h⟩
  · exact Or.inl h
  · exact Or.inr ⟨pre, b, by simpa using h⟩
theorem StkS.put {w w1 wx : World} {K : Nat} {st st' : List Int} {sv sv' : Value} (h : StkS w K st sv) (hb : Below w.heap.size w wx) (hg : wx.grownBy w1 sv.ownBlock)
    (hown : w1.ownsRow (K + 1) 3 1 sv' st'.length (intsV st')) : StkS (w1.setCell ⟨K, 0, none⟩ sv') K st' sv' ∧ StkF K sv w (w1.setCell ⟨K, 0, none⟩ sv') := by
  have hlt := block_lt h.block
  have hne : ∀ k, k ≤ K → some k ≠ sv.ownBlock := fun k hk e => by have := (h.own.lt k e.symm).1; omega
  have hkeep : ∀ k, k < w.heap.size → some k ≠ sv.ownBlock → w1.heap[k]? = w.heap[k]? := fun k hk hv => (hg.block k (Nat.lt_of_lt_of_le hk hb.size) hv).trans (hb.block k hk)
  have hset : ∀ k, k ≠ K → (w1.setCell ⟨K, 0, none⟩ sv').heap[k]? = w1.heap[k]? := fun k hk => Below.heap_setCell w1 ⟨K, 0, none⟩ _ k hk
  refine ⟨⟨?_, ownsRow_setCell_below hown (by show K < K + 1; omega) _⟩, ⟨hg.os.trans hb.os, hg.tape.trans hb.tape, hg.output.trans hb.output, ?_, fun k hk hk2 hk3 => ?_⟩⟩
  · have := set_block ((hkeep K hlt (hne K (Nat.le_refl _))).trans h.block) 0 sv'
    simpa using this
  · have := hg.size
    have := hb.size
    simp [World.setCell]
    omega
  · rw [hset k hk2, hkeep k hk hk3]
theorem stk_far {w w1 wx : World} {K : Nat} {st : List Int} {sv : Value} (h : StkS w K st sv) (hb : Below w.heap.size w wx) (hg : wx.grownBy w1 sv.ownBlock) : w1.cell? ⟨K, 0, none⟩ = some sv ∧ w1.frozen? ⟨K, 0, none⟩ = false := by
  have hlt := block_lt h.block
  have hk : w1.heap[K]? = some (.cells #[sv] 137 (0, 0)) := by
    rw [hg.block K (Nat.lt_of_lt_of_le hlt hb.size) (fun e => by have := (h.own.lt K e.symm).1; omega), hb.block K hlt]
    exact h.block
  exact ⟨cell_of_block hk 0 (by simp), free_of_block hk 0⟩
theorem Tryz.infoIntK : (Tryz.prog.info? 3).map (fun i => (i.zero, i.size, i.bytes)) = some (some (.int .i64 0), 1, 8) := by kernel_rfl

set_option maxHeartbeats 1000000 in
theorem push_any (w : World) (K : Nat) (st : List Int) (sv : Value) (v : Int) (h : StkS w K st sv) (hlen : st.length ≤ 2000) :
    Calls Tryz.prog 104 #[.pointer (some ⟨K, 0, none⟩), .int .i64 v] w fun e w' => e = .returned (.tuple #[]) ∧ (∃ sv', StkS w' K (st ++ [v]) sv') ∧ StkF K sv w w' := by
  obtain ⟨i0, hi0, hz0, hz1, hz2⟩ := info_parts Tryz.infoIntK
  have hown := h.own
  have c0 := cell_of_block h.block 0 (by simp)
  simp at c0
  have hKlt := block_lt h.block
  have HH := hide h
  obtain ⟨ad, cap, rfl⟩ := ownsRow_form h.own
  clear h
  go_enter Tryz.func104, Tryz.ntmps104
  go_wp2_with (at_builtin; refine wpList_append_lies _ rfl _ _ 24 rfl (K + 1) 3 i0 _ 1 8 Tryz.underlying24 hi0 hz0 hz1 hz2 rfl (by decide) _ _ _ rfl (hown.alloc _) ⟨w.heap.size, 0, none⟩ 1 1 [.int .i64 v] rfl rfl (cell_one_new _ _ _) (by simp [Value.oneCell']) (by omega) (by unfold maxLen; omega) (by omega) (by simp; omega) (w.heap.size + 1) (by simp) ?_)
  intro g cap' w4 hown4 hgrow hat hlt4
  obtain ⟨hfar, hfz⟩ := stk_far (unhide HH) ((Below.refl _ _).alloc (Nat.le_refl _) _) hgrow
  have HF := hide ((unhide HH).put (st' := st ++ [v]) ((Below.refl _ _).alloc (Nat.le_refl _) _) hgrow (by rw [List.length_append, intsV, List.map_append]; exact hown4))
  clear hown4 hgrow hat hown
  go_wp2_with fail
  go_end0
  exact ⟨rfl, ⟨_, (unhide HF).1⟩, (unhide HF).2⟩

set_option maxHeartbeats 1000000 in
theorem pop_any (w : World) (K : Nat) (st : List Int) (sv : Value) (h : StkS w K st sv) (hlen : st.length ≤ 2000) :
    Calls Tryz.prog 93 #[.pointer (some ⟨K, 0, none⟩)] w fun e w' => e = .returned (.int .i64 (st.getLastD 0)) ∧ (∃ sv', StkS w' K st.dropLast sv') ∧ StkF K sv w w' := by
  have c0 := cell_of_block h.block 0 (by simp)
  have f0 := free_of_block h.block 0
  simp at c0
  rcases sdec st with rfl | ⟨pre, x, rfl⟩
  · have HF := hide h
    obtain ⟨ad, cap, rfl⟩ := ownsRow_form h.own
    simp only [List.length_nil] at c0
    clear h
    go_enter Tryz.func93, Tryz.ntmps93
    go_wp2_with fail
    go_ret
    exact ⟨rfl, ⟨_, unhide HF⟩, ⟨rfl, rfl, rfl, Nat.le_refl _, fun _ _ _ _ => rfl⟩⟩
  · have hlen' : pre.length + 1 ≤ 3000 := by simp at hlen; omega
    have e0 : (intsV (pre ++ [x]))[pre.length]? = some (.int .i64 x) := by simp [intsV]
    obtain ⟨g, cap, hgv, hg, _, ca⟩ := own_cell h.own e0
    have hown := h.own
    have h2 := h
    subst hgv
    simp only [List.length_append, List.length_cons, List.length_nil, Nat.zero_add] at hown c0 h2 ⊢
    have hcap : pre.length + 1 ≤ cap := by
      rcases hown.2 with ⟨h', _⟩ | ⟨g', cap', cur, h', _, _, hn, _⟩
      · cases h'
      · simp at h'; omega
    have hpop : w.ownsRow (K + 1) 3 1 (.slice (some ⟨g, 0, none⟩) pre.length cap) pre.length (intsV pre) := by
      rw [intsV, List.map_append] at hown
      exact ownsRow_pop (by simp [intsV]) hown
    have HF := hide (fun q => h2.put (st' := pre) (below_drewN w q) ⟨rfl, rfl, rfl, Nat.le_refl _, fun _ _ _ => rfl⟩ (show (w.drewN q).ownsRow (K + 1) 3 1 (.slice (some ⟨g, 0, none⟩) pre.length cap) pre.length (intsV pre) from hpop))
    rw [show (pre ++ [x]).getLastD 0 = x by simp, show (pre ++ [x]).dropLast = pre by simp]
    clear h h2 hown hpop
    generalize HPL : pre.length = m at *
    replace HPL := hide HPL
    have hm0 : (0 : Int) ≤ (m : Int) := by omega
    have hm1 : (m : Int) < (m : Int) + 1 := by omega
    have hm2 : (m : Int) ≤ 3000 := by omega
    have hm3 : IntKind.i64.wrap ((m : Int) + 1 - 1) = (m : Int) := by rw [show (m : Int) + 1 - 1 = (m : Int) by omega, IntWalk.i64_left, IntWalk.wrap64_in _ (by omega)]
    have hm4 : IntKind.i64.wrap (m : Int) = (m : Int) := by rw [IntWalk.i64_left, IntWalk.wrap64_in _ (by omega)]
    have hm5 : ¬ (m : Int) < 0 := by omega
    have hm6 : (m : Int) ≤ (cap : Int) := by omega
    go_enter Tryz.func93, Tryz.ntmps93
    go_wp2_with fail
    go_ret
    exact ⟨rfl, ⟨_, (unhide HF 0).1⟩, (unhide HF 0).2⟩

theorem truth_any (w : World) (b : Bool) : Calls Tryz.prog 110 #[.bool b] w fun e w' => e = .returned (.int .i64 (Rt.truthI b)) ∧ w' = w := by
  cases b
  all_goals
    go_enter Tryz.func110, Tryz.ntmps110
    go_wp2_with fail
    go_ret
    exact ⟨rfl, rfl⟩

set_option maxHeartbeats 1000000 in
theorem combine_any (w : World) (code l r : Int) : Calls Tryz.prog 105 #[.int .i64 code, .int .i64 l, .int .i64 r] w fun e w' => e = .returned (.tuple #[.int .i64 (Rt.combineI code l r).1, .int .i64 (Rt.combineI code l r).2]) ∧ w' = w := by
  have n5 : ∀ k : Int, ¬ code = k → (code == k) = false := fun k h => by rw [beq_eq_false_iff_ne]; exact h
  by_cases h5 : code = 5
  · subst h5
    have HE := hide (show Rt.combineI 5 l r = (wrap64 (l + r), 0) from rfl)
    clear n5
    go_enter Tryz.func105, Tryz.ntmps105
    go_wp2_with fail
    go_ret2
    exact ⟨by rw [unhide HE]; rfl, rfl⟩
  by_cases h6 : code = 6
  · subst h6
    have HE := hide (show Rt.combineI 6 l r = (wrap64 (l - r), 0) from rfl)
    clear n5 h5
    go_enter Tryz.func105, Tryz.ntmps105
    go_wp2_with fail
    go_ret2
    exact ⟨by rw [unhide HE]; rfl, rfl⟩
  by_cases h7 : code = 7
  · subst h7
    have HE := hide (show Rt.combineI 7 l r = (wrap64 (l * r), 0) from rfl)
    clear n5 h5 h6
    go_enter Tryz.func105, Tryz.ntmps105
    go_wp2_with fail
    go_ret2
    exact ⟨by rw [unhide HE]; rfl, rfl⟩
  by_cases h10 : code = 10
  · subst h10
    have HE := hide (show Rt.combineI 10 l r = (Rt.truthI (decide (l < r)), 0) from rfl)
    clear n5 h5 h6 h7
    go_enter Tryz.func105, Tryz.ntmps105
    go_wp2_with fail
    refine (truth_any _ (decide (l < r))).mono ?_
    rintro e w1 ⟨rfl, rfl⟩
    go_wp2_with fail
    go_ret2
    exact ⟨by rw [unhide HE]; rfl, rfl⟩
  by_cases h11 : code = 11
  · subst h11
    have HE := hide (show Rt.combineI 11 l r = (Rt.truthI (decide (l = r)), 0) from rfl)
    clear n5 h5 h6 h7 h10
    go_enter Tryz.func105, Tryz.ntmps105
    go_wp2_with fail
    refine (truth_any _ _).mono ?_
    rintro e w1 ⟨rfl, rfl⟩
    go_wp2_with fail
    go_ret2
    exact ⟨by rw [unhide HE, beq_eq_decide]; rfl, rfl⟩
  have b5 := n5 5 h5
  have b6 := n5 6 h6
  have b7 := n5 7 h7
  have b10 := n5 10 h10
  have b11 := n5 11 h11
  have HC := hide (show Rt.combineI code l r = if r = 0 then (0, 2) else if code = 8 then (wrap64 (l.tdiv r), 0) else (l.tmod r, 0) by unfold Rt.combineI; rw [if_neg h5, if_neg h6, if_neg h7, if_neg h10, if_neg h11])
  clear n5 h5 h6 h7 h10 h11
  by_cases hr : r = 0
  · subst hr
    have HE := hide (show Rt.combineI code l 0 = (0, 2) by rw [unhide HC, if_pos rfl])
    clear HC
    go_enter Tryz.func105, Tryz.ntmps105
    go_wp2_with fail
    go_ret2
    exact ⟨by rw [unhide HE]; rfl, rfl⟩
  have hr' : (r == 0) = false := by rw [beq_eq_false_iff_ne]; exact hr
  by_cases h8 : code = 8
  · have HE := hide (show Rt.combineI code l r = (wrap64 (l.tdiv r), 0) by rw [unhide HC, if_neg hr, if_pos h8])
    have b8 : (code == 8) = true := by simpa using h8
    clear HC h8
    go_enter Tryz.func105, Tryz.ntmps105
    go_wp2_with fail
    go_ret2
    exact ⟨by rw [unhide HE]; rfl, rfl⟩
  · have HE := hide (show Rt.combineI code l r = (l.tmod r, 0) by rw [unhide HC, if_neg hr, if_neg h8])
    have b8 : (code == 8) = false := by simpa using h8
    clear HC h8
    go_enter Tryz.func105, Tryz.ntmps105
    go_wp2_with fail
    go_ret2
    exact ⟨by rw [unhide HE]; rfl, rfl⟩
end Go.Proofs.YtbpajiljfppjcaaGreat

namespace Go.Proofs.YtbpajiljfppjcaaGreat
open Go.RowKit
attribute [local go_sem ↓] Go.wp_at_zero Go.wp_at_succ

/-- What a piece of the work says. -/
def WorkP (K : Nat) (x : List Int × Int) (w : World) (e : Ending) (w' : World) : Prop := e = .returned (.int .i64 x.2) ∧ (∃ sv, StkS w' K x.1 sv) ∧ Below K w w'
section
variable (w0 w : World) (M B : Nat) (ty : TypeId) (tail : List Value) (S : Rt.Src) (m : Rt.Mc) (X : McX) (K : Nat) (st : List Int) (sv : Value) (code number : Int) (name : ByteArray)

set_option maxHeartbeats 1000000 in
theorem work_const (h0 : McS w0 M B ty tail S m X) (hm : Mok S m) (hb : Below w0.heap.size w0 w) (hK : w0.heap.size ≤ K) (hs : StkS w K st sv) (hlen : st.length ≤ 1000) :
    Calls Tryz.prog 92 #[.pointer (some ⟨M, 0, none⟩), .pointer (some ⟨K, 0, none⟩), .agg #[.int .i64 1, .int .i64 number, .string name]] w (WorkP K (st ++ [number], 0) w) := by
  have _u := And.intro h0 (And.intro hm hK)
  clear _u
  have hKlt := block_lt hs.block
  have hbA := (Below.refl w.heap.size w).alloc (Nat.le_refl _) (.cells #[.int .i64 1, .int .i64 number, .string name] 141)
  have bO := heap_alloc_new w (.cells #[.int .i64 1, .int .i64 number, .string name] 141)
  have hs1 := hs.later hbA
  have hbK : Below K w (w.alloc (.cells #[.int .i64 1, .int .i64 number, .string name] 141)) := hbA.mono (by omega)
  have hb1 : Below w0.heap.size w0 (w.alloc (.cells #[.int .i64 1, .int .i64 number, .string name] 141)) := hb.trans (hbA.mono hb.size)
  clear hs hbA
  go_enter Tryz.func92, Tryz.ntmps92
  go_wp2_with fail
  refine (push_any _ K st sv number hs1 (by omega)).mono ?_
  rintro e w2 ⟨rfl, ⟨sv2, hs2⟩, hb2⟩
  have HF := hide (And.intro hs2 (hbK.trans (hb2.below hs1)))
  clear hs1 hs2 hb2 hbK hb1 hb h0 hm bO
  go_wp2_with fail
  go_ret
  exact ⟨rfl, ⟨_, (unhide HF).1⟩, (unhide HF).2⟩

set_option maxHeartbeats 1000000 in
theorem work_load (h0 : McS w0 M B ty tail S m X) (hm : Mok S m) (hb : Below w0.heap.size w0 w) (hK : w0.heap.size ≤ K) (hs : StkS w K st sv) (hlen : st.length ≤ 1000) :
    Calls Tryz.prog 92 #[.pointer (some ⟨M, 0, none⟩), .pointer (some ⟨K, 0, none⟩), .agg #[.int .i64 2, .int .i64 number, .string name]] w (WorkP K (st ++ [Rt.getS m (Rt.varS S m name)], 0) w) := by
  have _u := And.intro h0 (And.intro hm hK)
  clear _u
  have hKlt := block_lt hs.block
  have hbA := (Below.refl w.heap.size w).alloc (Nat.le_refl _) (.cells #[.int .i64 2, .int .i64 number, .string name] 141)
  have bO := heap_alloc_new w (.cells #[.int .i64 2, .int .i64 number, .string name] 141)
  have hs1 := hs.later hbA
  have hbK : Below K w (w.alloc (.cells #[.int .i64 2, .int .i64 number, .string name] 141)) := hbA.mono (by omega)
  have hb1 : Below w0.heap.size w0 (w.alloc (.cells #[.int .i64 2, .int .i64 number, .string name] 141)) := hb.trans (hbA.mono hb.size)
  clear hs hbA
  go_enter Tryz.func92, Tryz.ntmps92
  go_wp2_with fail
  refine (mvar_any _ M B ty tail S m X name (h0.later hb1) hm).mono ?_
  rintro e w2 ⟨rfl, hq2⟩
  have hs2 := hs1.later hq2
  have hbK2 := hbK.trans (hq2.mono (B' := K) (by simp; omega))
  have hb2 := hb1.trans (hq2.mono (B' := w0.heap.size) hb1.size)
  clear hs1 hbK hb1 hq2 bO
  generalize Rt.varS S m name = sp at *
  have hbF := (Below.refl w2.heap.size w2).alloc (Nat.le_refl _) (.cells #[.int .i64 sp.line, .int .i64 sp.cell] 85)
  have hs3 := hs2.later hbF
  have hbK3 := hbK2.trans (hbF.mono (B' := K) (by have := block_lt hs2.block; omega))
  have hb3 := hb2.trans (hbF.mono (B' := w0.heap.size) hb2.size)
  clear hs2 hbK2 hb2 hbF
  go_wp2_with fail
  refine (get_any _ M B ty tail S m X sp (h0.later hb3) hm).mono ?_
  rintro e w4 ⟨rfl, hq4⟩
  have hs4 := hs3.later hq4
  have hbK4 := hbK3.trans (hq4.mono (B' := K) (by have := block_lt hs3.block; omega))
  clear hs3 hbK3 hb3 hq4
  generalize Rt.getS m sp = gx at *
  go_wp2_with fail
  refine (push_any _ K _ _ gx hs4 (by first | omega | (simp; omega))).mono ?_
  rintro e w9 ⟨rfl, ⟨sv9, hs9⟩, hb9⟩
  have HF := hide (And.intro hs9 (hbK4.trans (hb9.below hs4)))
  clear hs4 hs9 hb9 hbK4 hb h0 hm
  go_wp2_with fail
  go_ret
  exact ⟨rfl, ⟨_, (unhide HF).1⟩, (unhide HF).2⟩

set_option maxHeartbeats 1000000 in
theorem work_cell (h0 : McS w0 M B ty tail S m X) (hm : Mok S m) (hb : Below w0.heap.size w0 w) (hK : w0.heap.size ≤ K) (hs : StkS w K st sv) (hlen : st.length ≤ 1000) (x : List Int × Int) (hx : x = match Rt.cellS S m name (st.getLastD 0) with | none => (st.dropLast, 3) | some s => (st.dropLast ++ [Rt.getS m s], 0)) :
    Calls Tryz.prog 92 #[.pointer (some ⟨M, 0, none⟩), .pointer (some ⟨K, 0, none⟩), .agg #[.int .i64 3, .int .i64 number, .string name]] w (WorkP K x w) := by
  have _u := And.intro h0 (And.intro hm hK)
  clear _u
  have hKlt := block_lt hs.block
  have hbA := (Below.refl w.heap.size w).alloc (Nat.le_refl _) (.cells #[.int .i64 3, .int .i64 number, .string name] 141)
  have bO := heap_alloc_new w (.cells #[.int .i64 3, .int .i64 number, .string name] 141)
  have hs1 := hs.later hbA
  have hbK : Below K w (w.alloc (.cells #[.int .i64 3, .int .i64 number, .string name] 141)) := hbA.mono (by omega)
  have hb1 : Below w0.heap.size w0 (w.alloc (.cells #[.int .i64 3, .int .i64 number, .string name] 141)) := hb.trans (hbA.mono hb.size)
  clear hs hbA
  have HX := hide hx
  clear hx
  go_enter Tryz.func92, Tryz.ntmps92
  go_wp2_with fail
  refine (pop_any _ K st _ hs1 (by first | omega | (simp <;> omega))).mono ?_
  rintro e w2 ⟨rfl, ⟨sv2, hs2⟩, hqf2⟩
  have hq2 := hqf2.below hs1
  have hbK2 := hbK.trans hq2
  have hb2 := hb1.trans (hq2.mono (B' := w0.heap.size) hK)
  have bO2 : w2.heap[w.heap.size]? = some (.cells #[.int .i64 3, .int .i64 number, .string name] 141 (0, 0)) := hqf2.other hs1 bO (by decide) (by decide)
  have k2 := cell_of_block bO2 2 (by simp)
  simp at k2
  have hsl : st.dropLast.length ≤ 1000 := by simp; omega
  clear hs1 hbK hb1 hq2 bO bO2 hqf2
  generalize st.getLastD 0 = idx at *
  generalize st.dropLast = st2 at *
  go_wp2_with fail
  refine (mcell_any _ M B ty tail S m X name idx (h0.later hb2) hm).mono ?_
  rintro e w3 ⟨rfl, hq3⟩
  have hs3 := hs2.later hq3
  have hbK3 := hbK2.trans (hq3.mono (B' := K) (by have := block_lt hs2.block; omega))
  have hb3 := hb2.trans (hq3.mono (B' := w0.heap.size) hb2.size)
  clear hs2 hbK2 hb2 hq3
  cases hc : Rt.cellS S m name idx with
  | none =>
    have HY := hide (show x = (st2, 3) by rw [unhide HX, hc])
    have hbF := (Below.refl w3.heap.size w3).alloc (Nat.le_refl _) (.cells #[.int .i64 0, .int .i64 0] 85)
    have HF := hide (And.intro (hs3.later hbF) (hbK3.trans (hbF.mono (B' := K) (by have := block_lt hs3.block; omega))))
    clear hs3 hbK3 hb3 hb h0 hm hc hbF
    simp only [cellR]
    go_wp2_with fail
    go_ret
    rw [unhide HY]
    exact ⟨rfl, ⟨_, (unhide HF).1⟩, (unhide HF).2⟩
  | some sp =>
    have HY := hide (show x = (st2 ++ [Rt.getS m sp], 0) by rw [unhide HX, hc])
    clear hc
    simp only [cellR]
    have hbF := (Below.refl w3.heap.size w3).alloc (Nat.le_refl _) (.cells #[.int .i64 sp.line, .int .i64 sp.cell] 85)
    have hs4 := hs3.later hbF
    have hbK4 := hbK3.trans (hbF.mono (B' := K) (by have := block_lt hs3.block; omega))
    have hb4 := hb3.trans (hbF.mono (B' := w0.heap.size) hb3.size)
    clear hs3 hbK3 hb3 hbF
    go_wp2_with fail
    refine (get_any _ M B ty tail S m X sp (h0.later hb4) hm).mono ?_
    rintro e w5 ⟨rfl, hq5⟩
    have hs5 := hs4.later hq5
    have hbK5 := hbK4.trans (hq5.mono (B' := K) (by have := block_lt hs4.block; omega))
    clear hs4 hbK4 hb4 hq5
    generalize Rt.getS m sp = gx at *
    go_wp2_with fail
    refine (push_any _ K _ _ gx hs5 (by first | omega | (simp; omega))).mono ?_
    rintro e w9 ⟨rfl, ⟨sv9, hs9⟩, hb9⟩
    have HF := hide (And.intro hs9 (hbK5.trans (hb9.below hs5)))
    clear hs5 hs9 hb9 hbK5 hb h0 hm
    go_wp2_with fail
    go_ret
    rw [unhide HY]
    exact ⟨rfl, ⟨_, (unhide HF).1⟩, (unhide HF).2⟩

set_option maxHeartbeats 1000000 in
theorem work_neg (h0 : McS w0 M B ty tail S m X) (hm : Mok S m) (hb : Below w0.heap.size w0 w) (hK : w0.heap.size ≤ K) (hs : StkS w K st sv) (hlen : st.length ≤ 1000) :
    Calls Tryz.prog 92 #[.pointer (some ⟨M, 0, none⟩), .pointer (some ⟨K, 0, none⟩), .agg #[.int .i64 4, .int .i64 number, .string name]] w (WorkP K (st.dropLast ++ [wrap64 (-(st.getLastD 0))], 0) w) := by
  have _u := And.intro h0 (And.intro hm hK)
  clear _u
  have hKlt := block_lt hs.block
  have hbA := (Below.refl w.heap.size w).alloc (Nat.le_refl _) (.cells #[.int .i64 4, .int .i64 number, .string name] 141)
  have bO := heap_alloc_new w (.cells #[.int .i64 4, .int .i64 number, .string name] 141)
  have hs1 := hs.later hbA
  have hbK : Below K w (w.alloc (.cells #[.int .i64 4, .int .i64 number, .string name] 141)) := hbA.mono (by omega)
  have hb1 : Below w0.heap.size w0 (w.alloc (.cells #[.int .i64 4, .int .i64 number, .string name] 141)) := hb.trans (hbA.mono hb.size)
  clear hs hbA
  go_enter Tryz.func92, Tryz.ntmps92
  go_wp2_with fail
  refine (pop_any _ K st _ hs1 (by first | omega | (simp <;> omega))).mono ?_
  rintro e w2 ⟨rfl, ⟨sv2, hs2⟩, hqf2⟩
  have hq2 := hqf2.below hs1
  have hbK2 := hbK.trans hq2
  have hb2 := hb1.trans (hq2.mono (B' := w0.heap.size) hK)
  have hsl : st.dropLast.length ≤ 1000 := by simp; omega
  clear hs1 hbK hb1 hq2 bO hb2
  generalize st.getLastD 0 = idx at *
  generalize st.dropLast = st2 at *
  go_wp2_with fail
  refine (push_any _ K _ _ (wrap64 (-idx)) hs2 (by omega)).mono ?_
  rintro e w9 ⟨rfl, ⟨sv9, hs9⟩, hb9⟩
  have HF := hide (And.intro hs9 (hbK2.trans (hb9.below hs2)))
  clear hs2 hs9 hb9 hbK2 hb h0 hm
  go_wp2_with fail
  go_ret
  exact ⟨rfl, ⟨_, (unhide HF).1⟩, (unhide HF).2⟩

set_option maxHeartbeats 1000000 in
theorem work_two (h0 : McS w0 M B ty tail S m X) (hm : Mok S m) (hb : Below w0.heap.size w0 w) (hK : w0.heap.size ≤ K) (hs : StkS w K st sv) (hlen : st.length ≤ 1000) (h1 : ¬ code = 1) (h2 : ¬ code = 2) (h3 : ¬ code = 3) (h4 : ¬ code = 4) (x : List Int × Int) (hx : x = if (Rt.combineI code (st.dropLast.getLastD 0) (st.getLastD 0)).2 = 0 then (st.dropLast.dropLast ++ [(Rt.combineI code (st.dropLast.getLastD 0) (st.getLastD 0)).1], 0) else (st.dropLast.dropLast, (Rt.combineI code (st.dropLast.getLastD 0) (st.getLastD 0)).2)) :
    Calls Tryz.prog 92 #[.pointer (some ⟨M, 0, none⟩), .pointer (some ⟨K, 0, none⟩), .agg #[.int .i64 code, .int .i64 number, .string name]] w (WorkP K x w) := by
  have _u := And.intro h0 (And.intro hm hK)
  clear _u
  have hKlt := block_lt hs.block
  have hbA := (Below.refl w.heap.size w).alloc (Nat.le_refl _) (.cells #[.int .i64 code, .int .i64 number, .string name] 141)
  have bO := heap_alloc_new w (.cells #[.int .i64 code, .int .i64 number, .string name] 141)
  have hs1 := hs.later hbA
  have hbK : Below K w (w.alloc (.cells #[.int .i64 code, .int .i64 number, .string name] 141)) := hbA.mono (by omega)
  have hb1 : Below w0.heap.size w0 (w.alloc (.cells #[.int .i64 code, .int .i64 number, .string name] 141)) := hb.trans (hbA.mono hb.size)
  clear hs hbA
  have HX := hide hx
  clear hx
  have b1 : (code == 1) = false := by rw [beq_eq_false_iff_ne]; exact h1
  have b2 : (code == 2) = false := by rw [beq_eq_false_iff_ne]; exact h2
  have b3 : (code == 3) = false := by rw [beq_eq_false_iff_ne]; exact h3
  have b4 : (code == 4) = false := by rw [beq_eq_false_iff_ne]; exact h4
  clear h1 h2 h3 h4
  go_enter Tryz.func92, Tryz.ntmps92
  go_wp2_with fail
  refine (pop_any _ K st _ hs1 (by first | omega | (simp <;> omega))).mono ?_
  rintro e w2 ⟨rfl, ⟨sv2, hs2⟩, hqf2⟩
  have hq2 := hqf2.below hs1
  have hbK2 := hbK.trans hq2
  have hb2 := hb1.trans (hq2.mono (B' := w0.heap.size) hK)
  have bO2 : w2.heap[w.heap.size]? = some (.cells #[.int .i64 code, .int .i64 number, .string name] 141 (0, 0)) := hqf2.other hs1 bO (by decide) (by decide)
  have hsl : st.dropLast.length ≤ 1000 := by simp; omega
  clear hs1 hbK hb1 hq2 bO
  generalize st.getLastD 0 = rx at *
  generalize st.dropLast = st2 at *
  go_wp2_with fail
  refine (pop_any _ K st2 _ hs2 (by first | omega | (simp <;> omega))).mono ?_
  rintro e w3 ⟨rfl, ⟨sv3, hs3⟩, hqf3⟩
  have hq3 := hqf3.below hs2
  have hbK3 := hbK2.trans hq3
  have hb3 := hb2.trans (hq3.mono (B' := w0.heap.size) hK)
  have bO3 : w3.heap[w.heap.size]? = some (.cells #[.int .i64 code, .int .i64 number, .string name] 141 (0, 0)) := hqf3.other hs2 bO2 (by decide) (by decide)
  have k0 := cell_of_block bO3 0 (by simp)
  simp at k0
  have hsl2 : st2.dropLast.length ≤ 1000 := by simp; omega
  clear hs2 hbK2 hb2 hq3 bO2 bO3 hqf2 hqf3 hb3
  generalize st2.getLastD 0 = lx at *
  generalize st2.dropLast = st3 at *
  go_wp2_with fail
  refine (combine_any _ code lx rx).mono ?_
  rintro e w4 ⟨rfl, rfl⟩
  generalize (Rt.combineI code lx rx).1 = cv at *
  generalize (Rt.combineI code lx rx).2 = ct at *
  by_cases hct : ct = 0
  · subst hct
    have HY := hide (show x = (st3 ++ [cv], 0) by rw [unhide HX, if_pos rfl])
    go_wp2_with fail
    refine (push_any _ K _ _ cv hs3 (by omega)).mono ?_
    rintro e w9 ⟨rfl, ⟨sv9, hs9⟩, hb9⟩
    have HF := hide (And.intro hs9 (hbK3.trans (hb9.below hs3)))
    clear hs3 hs9 hb9 hbK3 hb h0 hm
    go_wp2_with fail
    go_ret
    rw [unhide HY]
    exact ⟨rfl, ⟨_, (unhide HF).1⟩, (unhide HF).2⟩
  · have HY := hide (show x = (st3, ct) by rw [unhide HX, if_neg hct])
    have bc : (ct == 0) = false := by rw [beq_eq_false_iff_ne]; exact hct
    have HF := hide (And.intro hs3 hbK3)
    clear hs3 hbK3 hb h0 hm hct
    go_wp2_with fail
    go_ret
    rw [unhide HY]
    exact ⟨rfl, ⟨_, (unhide HF).1⟩, (unhide HF).2⟩

end
end Go.Proofs.YtbpajiljfppjcaaGreat

