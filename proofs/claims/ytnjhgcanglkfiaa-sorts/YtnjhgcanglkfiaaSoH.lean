/- 'retracekeep.Sorts' returns true for any list of numbers, and it reads as it did: the row. -/
import Derived.Test.YtnjhgcanglkfiaaRows
import Derived.Test.YtnjhgcanglkfiaaChecked
import Derived.Test.YtnjhgcanglkfiaaSoE
import Derived.Test.YtnjhgcanglkfiaaSoG
import Derived.ProofKit
import Derived.OpenShut
import Derived.SizedLaws
import Derived.Carry
import Derived.Deep.Slices
namespace Go.Proofs.Ytnjhgcanglkfiaa
open Go.ChangeShapes Go.WideShapes Go.ChangeAt Go.RowKit

theorem Try.own : ownKnob Try.prog.godebug = none := by kernel_rfl
theorem Try.laidOut : laidOutB Try.prog = true := by kernel_rfl
theorem Try.cellsInt : Try.prog.cellsOf 3 = 1 := by kernel_rfl

/-- A list of whole numbers that is handed in. -/
theorem ints_arg {H : Type} {enc : TypeId × Value → H} {W : World} {a0 : Option Addr} {len cap : Nat} {d0 : DataW H} {p : List MemPlace} (h0 : DataW.Trod enc Try.prog W 0 (fun _ => true) true 22 (.slice a0 len cap) d0 p) :
    (a0 = none ∧ len = 0 ∧ cap = 0) ∨ ∃ (a : Addr) (xs : List Int), a0 = some a ∧ xs.length = len ∧ len ≤ cap ∧ Ints W (.slice (some a) xs.length cap) xs := by
  obtain ⟨fuel, hf⟩ := h0
  rcases Go.Deep.open_slice1 Try.underlying22 Try.cellsInt hf with ⟨hcs, hx⟩ | ⟨a, len', cap', m, n, V, D, Pl, hcs, hA, hl, hm, hmm, hx, hcells⟩
  · simp [Value.cells] at hcs
    exact Or.inl hcs
  · simp [Value.cells] at hcs
    obtain ⟨rfl, rfl, rfl⟩ := hcs
    simp only [if_true] at hmm
    subst hmm
    obtain ⟨f, hfo⟩ := Go.Deep.choose_lt (α := Int) (n := m) (p := fun i k => W.cell? (a.add i) = some (.int .i64 k)) (fun i hi => by
      obtain ⟨h1, h2⟩ := hcells i hi
      obtain ⟨k, hk, _⟩ := DataW.trod_int Try.underlying3 h2
      simp at hk
      rw [hk] at h1
      exact ⟨k, h1⟩)
    refine Or.inr ⟨a, (List.range len).map f, rfl, by simp, by omega, some a, m, by simp, ?_⟩
    by_cases hl0 : len = 0
    · subst hl0; exact Or.inl rfl
    · obtain ⟨b, off, spot⟩ := a
      have hspot : spot = none := by
        have := World.cell?_spot (hfo 0 (by omega))
        simpa [Addr.add] using this
      subst hspot
      refine Or.inr ⟨b, off, rfl, fun j hj => ?_⟩
      simp at hj
      simp only [List.getElem_map, List.getElem_range]
      have := hfo j (by omega)
      rw [show (⟨b, off, none⟩ : Addr).add j = ⟨b, off + j, none⟩ by simp [Addr.add]] at this
      exact this

set_option maxHeartbeats 1000000 in
set_option maxRecDepth 100000 in
theorem sorts_lifted (os : Os) (started : os.Started) (H : Type) (enc : TypeId × Value → H) :
    ReturnsInHanded {} Try.checked os 4 .any (Rows.sortsSpec.pre6 enc Try.prog Try.f4 Rows.sortsRow.domain false) (Rows.sortsSpec.post enc Try.prog Try.f4 false true false false) := by
  refine returnsInHanded_of_change_sized (C := Try.checked) Try.own started (by kernel_rfl) Try.func4
    (ChangeSpec.witness6 (enc := enc) (C := Try.checked) false ⟨#[], #[.slice none 0 0], []⟩ 8 (by kernel_rfl) (by kernel_rfl) (by kernel_rfl) (by kernel_rfl)) ?_
  intro W base args ds gs before hval0 hW _ _ _
  have hval : ∀ (j : Nat) t v, Try.f4.params[j]? = some t → args[j]? = some v → Value.okWide Try.prog W .any base t v := hval0
  have hW' := hW
  obtain ⟨p, q, hA0, hV, rfl, _, _⟩ := hW
  have hA : DataW.TrodAll enc Try.prog W 0 (fun _ => true) true Try.f4.params.toList args.toList ds p := hA0
  rw [Try.params4] at hA hval
  obtain ⟨v0, d0, rfl, rfl, h0⟩ := trodAll_one hA
  obtain ⟨rfl, rfl⟩ := trodVars_none hV
  obtain ⟨a0, len, cap, rfl⟩ := okWide_slice Try.underlying22 (hval 0 22 v0 rfl rfl)
  clear hA0 hval0
  simp only [List.append_nil] at hW'
  have hlt : ∀ x ∈ p, x.block < W.heap.size := fun x hx => by simpa using hW'.lt x hx
  have hargs : ∀ (W' : World), Below W.heap.size W W' → DataW.Trod enc Try.prog W' 0 (fun b => decide (b < W.heap.size)) true 22 (.slice a0 len cap) d0 p :=
    fun W' hn => Below.trod Try.laidOut (by kernel_rfl) (of_decide_eq_true (by kernel_rfl)) h0 hn hlt
  have hcall : Calls Try.prog 4 #[.slice a0 len cap] W fun e w' => e = .returned (.bool true) ∧ Below W.heap.size W w' := by
    rcases ints_arg h0 with ⟨rfl, rfl, rfl⟩ | ⟨a, xs, rfl, rfl, hcap, hI⟩
    · exact Sorts_nil W
    · by_cases h13 : 13 < xs.length
      · exact Sorts_more W a cap xs h13 hcap hI
      · exact Sorts_few W a cap xs (by omega) hcap hI
  refine hcall.mono fun e W' ⟨he, hnx⟩ => ?_
  subst he
  exact ⟨_, rfl, _, _, _, [], p, [], hW', trodAll_mk1 (shut_bool Try.underlying4 _), trodAll_mk1 (hargs _ hnx), rfl, hnx.frame _, fun h => by cases h⟩

theorem sorts_row : Rows.SortsSaid :=
  OpenClaim.holds_of_wide 4 Try.f4 rfl rfl rfl rfl rfl rfl rfl ⟨rfl, rfl, rfl, rfl, rfl⟩ rfl rfl rfl rfl rfl (by kernel_rfl) Try.func4 (by kernel_rfl)
    (of_decide_eq_true (by kernel_rfl)) (by unfold Func.isWrapper; first | (rw [if_pos (by decide +kernel)]; kernel_rfl) | (rw [if_neg (by decide +kernel)]; exact ⟨rfl, rfl⟩))
    (fun os started H enc _ => sorts_lifted os started H enc)

end Go.Proofs.Ytnjhgcanglkfiaa

