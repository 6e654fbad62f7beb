/- 'retracelaw.Stopping' returns true for every script, and the script reads as it did: the row, given what the program's Stops answers. -/
import Derived.Test.YtopeochnoefgcaaGreatRows
import Derived.Test.YtopeochnoefgcaaGreatChecked
import Derived.Test.YtopeochnoefgcaaGreatLawA
import Derived.ProofKit
import Derived.OpenShut
import Derived.SizedLaws
import Derived.Carry
import Derived.Deep.Slices
namespace Go.Proofs.YtopeochnoefgcaaGreat
open Go.ChangeShapes Go.WideShapes Go.ChangeAt Go.RowKit

theorem Tryz.own : ownKnob Tryz.prog.godebug = none := by kernel_rfl
theorem Tryz.laidOut : laidOutB Tryz.prog = true := by kernel_rfl
theorem Tryz.bytesOp : Tryz.prog.bytesOf 32 = 72 := by kernel_rfl
theorem Tryz.cellsInt : Tryz.prog.cellsOf 3 = 1 := by kernel_rfl
theorem Tryz.cellsStr : Tryz.prog.cellsOf 9 = 1 := by kernel_rfl
theorem Tryz.cellsOp : Tryz.prog.cellsOf 32 = 6 := by kernel_rfl

theorem six_op (cs : List Value) (k : Int) (s : ByteArray) (hl : cs.length = 6) (hk : (cs.drop 0).take 1 = [.int .i64 k]) (hs : (cs.drop 4).take 1 = [.string s]) (hss : s.size ≤ maxLen) :
    ∃ op : OpD, cs = [.int .i64 op.kind, op.a, op.b, op.c, .string op.s, op.l] ∧ op.s.size ≤ maxLen := by
  match cs, hl with
  | [c0, c1, c2, c3, c4, c5], _ =>
    simp at hk hs
    subst hk
    subst hs
    exact ⟨⟨k, c1, c2, c3, s, c5⟩, rfl, hss⟩

set_option maxRecDepth 100000 in
/-- A step's cells. -/
theorem op_cells {H : Type} {enc : TypeId × Value → H} {w : World} {base : Nat} {spare : Nat → Bool} {held : Bool} {n : Nat} {cs : List Value} {x : DataW H × List MemPlace} (h : DataW.trod enc Tryz.prog w base spare held n 32 cs = some x) :
    ∃ op : OpD, cs = [.int .i64 op.kind, op.a, op.b, op.c, .string op.s, op.l] ∧ op.s.size ≤ maxLen := by
  obtain ⟨xs, m, rfl, _, hl, hxs, hf⟩ := DataW.trod_struct Tryz.underlying32 h
  rw [Tryz.cellsOp] at hl
  have hx6 : xs.length = 6 := hxs
  have hk : DataW.trod enc Tryz.prog w base spare held m 3 ((cs.drop 0).take (Tryz.prog.cellsOf 3)) = xs[0]? := hf 0 _ rfl
  have hs : DataW.trod enc Tryz.prog w base spare held m 9 ((cs.drop 4).take (Tryz.prog.cellsOf 9)) = xs[4]? := hf 4 _ rfl
  rw [Tryz.cellsInt, List.getElem?_eq_getElem (by omega)] at hk
  rw [Tryz.cellsStr, List.getElem?_eq_getElem (by omega)] at hs
  obtain ⟨k, hk2, _⟩ := DataW.trod_int Tryz.underlying3 hk
  obtain ⟨s, hs2, _, hss⟩ := DataW.trod_string Tryz.underlying9 hs
  exact six_op cs k s hl hk2 hs2 hss

set_option maxHeartbeats 1000000 in
set_option maxRecDepth 100000 in
theorem stopping_lifted (HP : ∀ (s : ByteArray) (w : World), s.size ≤ maxLen → Calls Tryz.prog 23 #[.string s] w (StopsBoth s w)) (os : Os) (started : os.Started) (H : Type) (enc : TypeId × Value → H) :
    ReturnsInHanded {} Tryz.checked os 4 .any (Rows.stoppingSpec.pre6 enc Tryz.prog Tryz.f4 Rows.stoppingRow.domain false) (Rows.stoppingSpec.post enc Tryz.prog Tryz.f4 false true false false) := by
  refine returnsInHanded_of_change_sized (C := Tryz.checked) Tryz.own started (by kernel_rfl) Tryz.func4
    (ChangeSpec.witness6 (enc := enc) (C := Tryz.checked) false ⟨#[], #[.slice none 0 0], []⟩ 8 (by kernel_rfl) (by kernel_rfl) (by kernel_rfl) (by kernel_rfl)) ?_
  intro W base args ds gs before hval0 hW _ hsz0 _
  have hsz : (DataW.weightsEach Tryz.prog (Tryz.f4.params.toList ++ Rows.stoppingSpec.plain.varTypes Tryz.prog) (ds ++ gs)).all (· ≤ reachBytes) = true := hsz0
  clear hsz0
  have hval : ∀ (j : Nat) t v, Tryz.f4.params[j]? = some t → args[j]? = some v → Value.okWide Tryz.prog W .any base t v := hval0
  have hW' := hW
  obtain ⟨p, q, hA0, hV, rfl, _, _⟩ := hW
  have hA : DataW.TrodAll enc Tryz.prog W 0 (fun _ => true) true Tryz.f4.params.toList args.toList ds p := hA0
  rw [Tryz.params4] at hA hval hsz
  obtain ⟨v0, d0, rfl, rfl, h0⟩ := trodAll_one hA
  obtain ⟨rfl, rfl⟩ := trodVars_none hV
  obtain ⟨a0, len, cap, rfl⟩ := okWide_slice Tryz.underlying22 (hval 0 22 v0 rfl rfl)
  have h0k := h0
  obtain ⟨fuel, hf⟩ := h0
  clear hA0 hval0
  simp only [List.append_nil] at hW'
  have hlt : ∀ x ∈ p, x.block < W.heap.size := fun x hx => by simpa using hW'.lt x hx
  have hargs : ∀ (W' : World), Below W.heap.size W W' → DataW.Trod enc Tryz.prog W' 0 (fun b => decide (b < W.heap.size)) true 22 (.slice a0 len cap) d0 p :=
    fun W' hn => Below.trod Tryz.laidOut (by kernel_rfl) (of_decide_eq_true (by kernel_rfl)) h0k hn hlt
  have fin : ∀ ops, ScrR W (.slice a0 len cap) ops → (ops.length + 1) * 24 ≤ 140737488355328 → Calls Tryz.checked.prog 4 #[.slice a0 len cap] W fun e W' => ∃ v, e = Ending.returned v ∧ Rows.stoppingSpec.post enc Tryz.checked.prog Tryz.f4 false true false false W #[.slice a0 len cap] v W' := by
    intro ops hS hl24
    refine (Stopping_ref HP W _ ops hS hl24).mono fun e W' ⟨he, hnx⟩ => ?_
    subst he
    exact ⟨_, rfl, _, _, _, [], p, [], hW', trodAll_mk1 (shut_bool Tryz.underlying4 _), trodAll_mk1 (hargs _ hnx), rfl, hnx.frame _, fun h => by cases h⟩
  rcases Go.Deep.open_slice Tryz.underlying22 hf with ⟨hcs, hx⟩ | ⟨a, len', cap', m, n, D, Pl, hcs, _, hl, hm, hmm, hx, hcells⟩
  · simp [Value.cells] at hcs
    obtain ⟨rfl, rfl, rfl⟩ := hcs
    exact fin [] ⟨none, 0, rfl, Or.inl rfl, by simp⟩ (by simp)
  · simp [Value.cells] at hcs
    obtain ⟨rfl, rfl, rfl⟩ := hcs
    simp only [Prod.mk.injEq] at hx
    obtain ⟨hd, _⟩ := hx
    simp only [if_true] at hmm
    subst hmm
    have hreach : len * 72 ≤ 140737488351232 := by
      have := sized_slice hsz (j := 0) (t := 22) (e := 32) rfl (by rw [hd]; rfl) Tryz.underlying22
      rw [Tryz.bytesOp] at this
      simp only [List.length_map, List.length_range, reachBytes] at this
      omega
    rw [Tryz.cellsOp] at hcells
    haveI : Inhabited OpD := ⟨⟨0, .bool false, .bool false, .bool false, ⟨#[]⟩, .bool false⟩⟩
    obtain ⟨f, hfo⟩ := Go.Deep.choose_lt (α := OpD) (n := m) (p := fun i op => op.s.size ≤ maxLen ∧ W.cell? (a.add (i * 6)) = some (.int .i64 op.kind) ∧ W.cell? (a.add (i * 6 + 1)) = some op.a ∧ W.cell? (a.add (i * 6 + 2)) = some op.b ∧ W.cell? (a.add (i * 6 + 3)) = some op.c ∧ W.cell? (a.add (i * 6 + 4)) = some (.string op.s) ∧ W.cell? (a.add (i * 6 + 5)) = some op.l) (fun i hi => by
      obtain ⟨cs', h1, h2⟩ := hcells i hi
      obtain ⟨op, hcs', hss⟩ := op_cells h2
      obtain ⟨_, _, hce⟩ := World.cells?_some h1
      subst hcs'
      have e : ∀ j, (a.add (i * 6)).add j = a.add (i * 6 + j) := fun j => Go.Deep.add_add a (i * 6) j
      exact ⟨op, hss, by have := hce 0 (by omega); rw [e] at this; simpa using this, by have := hce 1 (by omega); rw [e] at this; simpa using this, by have := hce 2 (by omega); rw [e] at this; simpa using this, by have := hce 3 (by omega); rw [e] at this; simpa using this, by have := hce 4 (by omega); rw [e] at this; simpa using this, by have := hce 5 (by omega); rw [e] at this; simpa using this⟩)
    refine fin ((List.range len).map f) ⟨some a, m, by simp, ?_, ?_⟩ (by simp; omega)
    · by_cases hl0 : len = 0
      · subst hl0; exact Or.inl rfl
      · obtain ⟨b, off, spot⟩ := a
        have hspot : spot = none := by
          have := World.cell?_spot (hfo 0 (by omega)).2.1
          simpa [Addr.add] using this
        subst hspot
        refine Or.inr ⟨b, off, rfl, fun j hj => ?_⟩
        simp at hj
        obtain ⟨_, h1, h2, h3, h4, h5, h6⟩ := hfo j (by omega)
        simp only [List.getElem_map, List.getElem_range]
        have e : ∀ q, (⟨b, off, none⟩ : Addr).add q = ⟨b, off + q, none⟩ := fun q => by simp [Addr.add]
        rw [e] at h1 h2 h3 h4 h5 h6
        exact ⟨h1, by rw [Nat.add_assoc]; exact h2, by rw [Nat.add_assoc]; exact h3, by rw [Nat.add_assoc]; exact h4, by rw [Nat.add_assoc]; exact h5, by rw [Nat.add_assoc]; exact h6⟩
    · intro op hop
      simp at hop
      obtain ⟨i, hi, rfl⟩ := hop
      exact (hfo i (by omega)).1

end Go.Proofs.YtopeochnoefgcaaGreat

