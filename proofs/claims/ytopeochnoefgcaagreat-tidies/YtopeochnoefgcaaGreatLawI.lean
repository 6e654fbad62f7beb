/- 'retracelaw.Tidies' returns true for every script, and the script reads as it did: given what the program's Tidy answers. -/
import Derived.Test.YtopeochnoefgcaaGreatLawH
import Derived.Test.YtopeochnoefgcaaGreatLawF
namespace Go.Proofs.YtopeochnoefgcaaGreat
open Go.ChangeShapes Go.WideShapes Go.ChangeAt Go.RowKit

set_option maxHeartbeats 1000000 in
set_option maxRecDepth 100000 in
theorem tidies_lifted (HP : ∀ (s : ByteArray) (w : World), s.size ≤ maxLen → Calls Tryz.prog 20 #[.string s] w (TidyBoth s w)) (os : Os) (started : os.Started) (H : Type) (enc : TypeId × Value → H) :
    ReturnsInHanded {} Tryz.checked os 3 .any (Rows.tidiesSpec.pre6 enc Tryz.prog Tryz.f3 Rows.tidiesRow.domain false) (Rows.tidiesSpec.post enc Tryz.prog Tryz.f3 false true false false) := by
  refine returnsInHanded_of_change_sized (C := Tryz.checked) Tryz.own started (by kernel_rfl) Tryz.func3
    (ChangeSpec.witness6 (enc := enc) (C := Tryz.checked) false ⟨#[], #[.slice none 0 0], []⟩ 8 (by kernel_rfl) (by kernel_rfl) (by kernel_rfl) (by kernel_rfl)) ?_
  intro W base args ds gs before hval0 hW _ hsz0 _
  have hsz : (DataW.weightsEach Tryz.prog (Tryz.f3.params.toList ++ Rows.tidiesSpec.plain.varTypes Tryz.prog) (ds ++ gs)).all (· ≤ reachBytes) = true := hsz0
  clear hsz0
  have hval : ∀ (j : Nat) t v, Tryz.f3.params[j]? = some t → args[j]? = some v → Value.okWide Tryz.prog W .any base t v := hval0
  have hW' := hW
  obtain ⟨p, q, hA0, hV, rfl, _, _⟩ := hW
  have hA : DataW.TrodAll enc Tryz.prog W 0 (fun _ => true) true Tryz.f3.params.toList args.toList ds p := hA0
  rw [Tryz.params3] at hA hval hsz
  obtain ⟨v0, d0, rfl, rfl, h0⟩ := trodAll_one hA
  obtain ⟨rfl, rfl⟩ := trodVars_none hV
  obtain ⟨a0, len, cap, rfl⟩ := okWide_slice Tryz.underlying22 (hval 0 22 v0 rfl rfl)
  have h0k := h0
  obtain ⟨fuel, hf⟩ := h0
  clear hA0 hval0
  simp only [List.append_nil] at hW'
  have hlt : ∀ x ∈ p, x.block < W.heap.size := fun x hx => by simpa using hW'.lt x hx
  have hargs : ∀ (W' : World), Below W.heap.size W W' → DataW.Trod enc Tryz.prog W' 0 (fun b => decide (b < W.heap.size)) true 22 (.slice a0 len cap) d0 p :=
    fun W' hn => Below.trod Tryz.laidOut (by kernel_rfl) (of_decide_eq_true (by kernel_rfl)) h0k hn hlt
  have fin : ∀ ops, ScrR W (.slice a0 len cap) ops → (ops.length + 1) * 24 ≤ 140737488355328 → Calls Tryz.checked.prog 3 #[.slice a0 len cap] W fun e W' => ∃ v, e = Ending.returned v ∧ Rows.tidiesSpec.post enc Tryz.checked.prog Tryz.f3 false true false false W #[.slice a0 len cap] v W' := by
    intro ops hS hl24
    refine (Tidies_ref HP W _ ops hS hl24).mono fun e W' ⟨he, hnx⟩ => ?_
    subst he
    exact ⟨_, rfl, _, _, _, [], p, [], hW', trodAll_mk1 (shut_bool Tryz.underlying4 _), trodAll_mk1 (hargs _ hnx), rfl, hnx.frame _, fun h => by cases h⟩
  rcases Go.Deep.open_slice Tryz.underlying22 hf with ⟨hcs, hx⟩ | ⟨a, len', cap', m, n, D, Pl, hcs, _, hl, hm, hmm, hx, hcells⟩
  · simp [Value.cells] at hcs
    obtain ⟨rfl, rfl, rfl⟩ := hcs
    exact fin [] ⟨none, 0, rfl, Or.inl rfl, by simp⟩ (by simp)
  · simp [Value.cells] at hcs
    obtain ⟨rfl, rfl, rfl⟩ := hcs
    simp only [Prod.mk.injEq] at hx
    obtain ⟨hd, _⟩ := hx
    simp only [if_true] at hmm
    subst hmm
    have hreach : len * 72 ≤ 140737488351232 := by
      have := sized_slice hsz (j := 0) (t := 22) (e := 32) rfl (by rw [hd]; rfl) Tryz.underlying22
      rw [Tryz.bytesOp] at this
      simp only [List.length_map, List.length_range, reachBytes] at this
      omega
    rw [Tryz.cellsOp] at hcells
    haveI : Inhabited OpD := ⟨⟨0, .bool false, .bool false, .bool false, ⟨#[]⟩, .bool false⟩⟩
    obtain ⟨f, hfo⟩ := Go.Deep.choose_lt (α := OpD) (n := m) (p := fun i op => op.s.size ≤ maxLen ∧ W.cell? (a.add (i * 6)) = some (.int .i64 op.kind) ∧ W.cell? (a.add (i * 6 + 1)) = some op.a ∧ W.cell? (a.add (i * 6 + 2)) = some op.b ∧ W.cell? (a.add (i * 6 + 3)) = some op.c ∧ W.cell? (a.add (i * 6 + 4)) = some (.string op.s) ∧ W.cell? (a.add (i * 6 + 5)) = some op.l) (fun i hi => by
      obtain ⟨cs', h1, h2⟩ := hcells i hi
      obtain ⟨op, hcs', hss⟩ := op_cells h2
      obtain ⟨_, _, hce⟩ := World.cells?_some h1
      subst hcs'
      have e : ∀ j, (a.add (i * 6)).add j = a.add (i * 6 + j) := fun j => Go.Deep.add_add a (i * 6) j
      exact ⟨op, hss, by have := hce 0 (by omega); rw [e] at this; simpa using this, by have := hce 1 (by omega); rw [e] at this; simpa using this, by have := hce 2 (by omega); rw [e] at this; simpa using this, by have := hce 3 (by omega); rw [e] at this; simpa using this, by have := hce 4 (by omega); rw [e] at this; simpa using this, by have := hce 5 (by omega); rw [e] at this; simpa using this⟩)
    refine fin ((List.range len).map f) ⟨some a, m, by simp, ?_, ?_⟩ (by simp; omega)
    · by_cases hl0 : len = 0
      · subst hl0; exact Or.inl rfl
      · obtain ⟨b, off, spot⟩ := a
        have hspot : spot = none := by
          have := World.cell?_spot (hfo 0 (by omega)).2.1
          simpa [Addr.add] using this
        subst hspot
        refine Or.inr ⟨b, off, rfl, fun j hj => ?_⟩
        simp at hj
        obtain ⟨_, h1, h2, h3, h4, h5, h6⟩ := hfo j (by omega)
        simp only [List.getElem_map, List.getElem_range]
        have e : ∀ q, (⟨b, off, none⟩ : Addr).add q = ⟨b, off + q, none⟩ := fun q => by simp [Addr.add]
        rw [e] at h1 h2 h3 h4 h5 h6
        exact ⟨h1, by rw [Nat.add_assoc]; exact h2, by rw [Nat.add_assoc]; exact h3, by rw [Nat.add_assoc]; exact h4, by rw [Nat.add_assoc]; exact h5, by rw [Nat.add_assoc]; exact h6⟩
    · intro op hop
      simp at hop
      obtain ⟨i, hi, rfl⟩ := hop
      exact (hfo i (by omega)).1

end Go.Proofs.YtopeochnoefgcaaGreat

