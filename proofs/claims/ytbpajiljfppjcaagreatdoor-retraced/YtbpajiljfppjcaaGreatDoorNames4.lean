/- The names of a program: calls, parameters. -/
import Derived.Test.YtbpajiljfppjcaaGreatDoorNames3
namespace Go.Proofs.YtbpajiljfppjcaaGreatDoor
open Go.RowKit


set_option maxHeartbeats 1000000 in
set_option maxRecDepth 100000 in
theorem callFits_any (w : World) (P : Nat) (pls : List Rt.PL) (lv : Value) (cs : List (List Value)) (fm : Rt.PForm) (a1 a2 a3 : Option Addr) (c1 c2 c3 : Nat) (h : ProgS w P pls lv cs) (hlen : pls.length ≤ 101) :
    Calls Tryz.prog 119 #[.pointer (some ⟨P, 0, none⟩), .agg #[.int .i64 fm.kind, .string fm.name, .int .i64 fm.cells, .slice a1 fm.params.length c1, .slice a2 fm.index.length c2, .slice a3 fm.values.length c3]] w fun e w' => e = .returned (.bool (Rt.callFit pls fm)) ∧ Below w.heap.size w w' := by
  have hb0 := (Below.refl w.heap.size w).alloc (Nat.le_refl _) (.cells #[.int .i64 fm.kind, .string fm.name, .int .i64 fm.cells, .slice a1 fm.params.length c1, .slice a2 fm.index.length c2, .slice a3 fm.values.length c3] 120)
  have hN0 := heap_alloc_new w (.cells #[.int .i64 fm.kind, .string fm.name, .int .i64 fm.cells, .slice a1 fm.params.length c1, .slice a2 fm.index.length c2, .slice a3 fm.values.length c3] 120)
  have h0 := h.later hb0
  clear h
  go_enter Tryz.func119, Tryz.ntmps119
  go_wp2_with fail
  refine (declared_any _ _ _ _ _ fm.name h0 hlen).mono ?_
  rintro e w2 ⟨fv, rfl, ⟨pv, iv, vv, vs, rfl, b1, b2, b3, _⟩, hb2⟩
  obtain ⟨ad1, cap1, rfl⟩ := ownsRow_form b1
  obtain ⟨ad2, cap2, rfl⟩ := ownsRow_form b2
  obtain ⟨ad3, cap3, rfl⟩ := ownsRow_form b3
  obtain ⟨_, _, _, _, _, x5, _, _, _, _, _, _⟩ := six (block_later hN0 hb2)
  have hz := block_lt (block_later hN0 hb2)
  have HB := hide ((hb0.trans (hb2.mono (B' := w.heap.size) (by simp))).alloc (by omega) (.cells #[.int .i64 (Rt.declForm pls fm.name).kind, .string (Rt.declForm pls fm.name).name, .int .i64 (Rt.declForm pls fm.name).cells, .slice ad1 (Rt.declForm pls fm.name).params.length cap1, .slice ad2 (Rt.declForm pls fm.name).index.length cap2, .slice ad3 (Rt.declForm pls fm.name).values.length cap3] 120))
  have HE := hide (show Rt.callFit pls fm = (decide ((Rt.declForm pls fm.name).kind = 3) && decide ((Rt.declForm pls fm.name).params.length = fm.values.length)) from rfl)
  clear h0 hb0 hN0 hb2 b1 b2 b3
  generalize (Rt.declForm pls fm.name) = df at *
  by_cases hk : df.kind = 3
  · have hk' : (df.kind == 3) = true := by simpa using hk
    rw [hk] at HB
    have HE2 := hide ((unhide HE).trans (by rw [hk]; rfl : _ = decide (df.params.length = fm.values.length)))
    clear HE
    go_wp2_with fail
    go_ret
    refine ⟨?_, ?_⟩
    · rw [unhide HE2]
      refine ret_bool ?_
      rw [Bool.eq_iff_iff]
      simp
      omega
    · have := unhide HB
      first | exact this | (rw [hk]; exact this)
  · have hk' : (df.kind == 3) = false := by simpa using hk
    have HE2 := hide ((unhide HE).trans (by simp [hk] : _ = false))
    clear HE hk
    go_wp2_with fail
    go_ret
    exact ⟨by rw [unhide HE2]; rfl, unhide HB⟩

theorem below_drewN2 {B : Nat} (w : World) (q : Nat) : Below B w (w.drewN q) := ⟨rfl, rfl, rfl, Nat.le_refl _, fun _ _ => rfl⟩

set_option maxHeartbeats 2000000 in
set_option maxRecDepth 100000 in
theorem paramsFit_any (w : World) (B : Nat) (fm : Rt.PForm) (a1 a2 a3 : Option Addr) (c1 c2 c3 : Nat) (hp : w.ownsRow B 9 1 (.slice a1 fm.params.length c1) fm.params.length (fm.params.map Value.string)) (hsm : fm.params.length ≤ 1000) :
    Calls Tryz.prog 118 #[.agg #[.int .i64 fm.kind, .string fm.name, .int .i64 fm.cells, .slice a1 fm.params.length c1, .slice a2 fm.index.length c2, .slice a3 fm.values.length c3]] w fun e w' => e = .returned (.bool (Rt.parFit fm)) ∧ Below w.heap.size w w' := by
  have hb0 := (Below.refl w.heap.size w).alloc (Nat.le_refl _) (.cells #[.int .i64 fm.kind, .string fm.name, .int .i64 fm.cells, .slice a1 fm.params.length c1, .slice a2 fm.index.length c2, .slice a3 fm.values.length c3] 120)
  have hN0 := heap_alloc_new w (.cells #[.int .i64 fm.kind, .string fm.name, .int .i64 fm.cells, .slice a1 fm.params.length c1, .slice a2 fm.index.length c2, .slice a3 fm.values.length c3] 120)
  have hp0 := own_later hp hb0
  by_cases hm : (fm.name.toList == Rt.mainWord) = true ∧ 0 < fm.params.length
  · obtain ⟨hm1, hm2⟩ := hm
    have HE : Hid (Rt.parFit fm = false) := hide (by simp [Rt.parFit, hm1, hm2])
    unfold Rt.mainWord at hm1
    have hm2' : (0 : Int) < (fm.params.length : Int) := by omega
    have HB := hide hb0
    clear hb0 hN0 hp0 hp
    go_enter Tryz.func118, Tryz.ntmps118
    go_wp2_with fail
    go_ret
    exact ⟨by rw [unhide HE]; rfl, unhide HB⟩
  · have HE : Hid (∀ b : Prop, (Rt.NoDup fm.params fm.params.length ↔ b) → [Decidable b] → Rt.parFit fm = decide b) := by
      refine hide ?_
      intro b hb _
      have h1 : ((fm.name.toList == Rt.mainWord) && decide (0 < fm.params.length)) = false := by
        rw [Bool.eq_false_iff]
        intro e
        simp at e
        exact hm ⟨by simpa using e.1, by omega⟩
      rw [Rt.parFit, h1]
      simp [hb]
    have HE1 := hide ((unhide HE) True)
    have HE0 := hide ((unhide HE) False)
    clear HE
    have hcase : (fm.name.toList == [109, 97, 105, 110]) = true ∧ ¬ (0 : Int) < (fm.params.length : Int) ∨ (fm.name.toList == [109, 97, 105, 110]) = false := by
      cases e : (fm.name.toList == [109, 97, 105, 110]) with
      | true => exact Or.inl ⟨rfl, by have : ¬ 0 < fm.params.length := fun x => hm ⟨e, x⟩; omega⟩
      | false => exact Or.inr rfl
    clear hm hp
    have hNlt := block_lt hN0
    rcases hcase with ⟨hm1, hm2⟩ | hm1
    all_goals
      go_enter Tryz.func118, Tryz.ntmps118
      go_wp2_with fail
      go_loopw [3, 4] (fun i _ wr => ∃ k : Nat, k ≤ fm.params.length ∧ i = .int .i64 k ∧ Rt.NoDup fm.params k ∧ wr.heap[w.heap.size]? = some (.cells #[.int .i64 fm.kind, .string fm.name, .int .i64 fm.cells, .slice a1 fm.params.length c1, .slice a2 fm.index.length c2, .slice a3 fm.values.length c3] 120 (0, 0)) ∧
          wr.ownsRow B 9 1 (.slice a1 fm.params.length c1) fm.params.length (fm.params.map Value.string) ∧ Below w.heap.size w wr)
        (fun i _ _ => fm.params.length - (intOf i).toNat)
      case atStart => exact ⟨0, Nat.zero_le _, rfl, fun i j h1 h2 => by omega, hN0, hp0, hb0⟩
      case round =>
        clear hN0 hp0 hb0
        obtain ⟨k, hk, rfl, hT, hN, hp, hbe⟩ := hrel
        have HT := hide hT
        clear hT
        obtain ⟨_, _, _, x3, _, _, _, _, _, _, _, _⟩ := six hN
        by_cases hlt : k < fm.params.length
        · try (exfalso; omega)
          all_goals
            have hlt' : (k : Int) < (fm.params.length : Int) := by omega
            have HH := hide (And.intro hN (And.intro hp hbe))
            clear hN hp hbe
            go_wp2_with fail
            go_loopw [4] (fun j wr2 => ∃ m : Nat, m ≤ k ∧ j = .int .i64 m ∧ (∀ j, j < m → ¬ fm.params[k]? = fm.params[j]?) ∧ wr2.heap[w.heap.size]? = some (.cells #[.int .i64 fm.kind, .string fm.name, .int .i64 fm.cells, .slice a1 fm.params.length c1, .slice a2 fm.index.length c2, .slice a3 fm.values.length c3] 120 (0, 0)) ∧
                wr2.ownsRow B 9 1 (.slice a1 fm.params.length c1) fm.params.length (fm.params.map Value.string) ∧ Below w.heap.size w wr2)
              (fun j _ => k - (intOf j).toNat)
            case atStart => exact ⟨0, Nat.zero_le _, rfl, fun j h => by omega, (unhide HH).1, (unhide HH).2.1, (unhide HH).2.2⟩
            case round =>
              clear HH
              obtain ⟨m, hm, rfl, hT2, hN2, hp2, hbe2⟩ := hrel
              have HT2 := hide hT2
              clear hT2
              obtain ⟨_, _, _, y3, _, _, _, _, _, _, _, _⟩ := six hN2
              by_cases hlt2 : m < k
              · have hlt2' : (m : Int) < (k : Int) := by omega
                obtain ⟨g, cap', hg, _, _, ck⟩ := own_cell hp2 (j := k) (u := .string fm.params[k]) (by simp [hlt])
                obtain ⟨g', cap'', hg', _, _, cm⟩ := own_cell hp2 (j := m) (u := .string (fm.params[m]'(by omega))) (by rw [List.getElem?_map, List.getElem?_eq_getElem (by omega)]; rfl)
                simp at hg hg'
                obtain ⟨rfl, rfl⟩ := hg
                simp at hg'
                obtain ⟨rfl, rfl⟩ := hg'
                have hm3 : (m : Int) < (fm.params.length : Int) := by omega
                have hm0 : (0 : Int) ≤ (m : Int) := by omega
                have hk0 : (0 : Int) ≤ (k : Int) := by omega
                have HH := hide (And.intro hN2 (And.intro hp2 hbe2))
                clear hN2 hp2 hbe2
                by_cases heq : fm.params[k] = fm.params[m]'(by omega)
                · have heq' := Rt.str_same heq
                  have HR : Hid (Rt.parFit fm = false) := by
                    refine hide ?_
                    have := (unhide HE0) ⟨fun h => (h k m hlt2 hlt hlt (by rw [List.getElem?_eq_getElem hlt, List.getElem?_eq_getElem (by omega), heq])).elim, fun h => h.elim⟩
                    simpa using this
                  clear heq
                  go_wp2_with fail
                  go_quiet (fail)
                  go_wp2_with fail
                  go_ret
                  exact ⟨by rw [unhide HR]; rfl, (unhide HH).2.2.trans (below_drewN2 _ _)⟩
                · have heq' := Rt.str_ne heq
                  have HT3 : Hid (∀ j, j < m + 1 → ¬ fm.params[k]? = fm.params[j]?) := by
                    refine hide ?_
                    intro j hj
                    by_cases e : j = m
                    · subst e
                      rw [List.getElem?_eq_getElem hlt, List.getElem?_eq_getElem (by omega)]
                      simpa using heq
                    · exact unhide HT2 j (by omega)
                  clear heq
                  go_wp2_with fail
                  go_quiet (fail)
                  go_wp2_with fail
                  go_roundw
                  case rel => exact ⟨m + 1, by omega, by go_num, unhide HT3, (unhide HH).1, (unhide HH).2.1, (unhide HH).2.2.trans (below_drewN2 _ _)⟩
                  case measure => simp [intOf]; omega
              · have hlt2' : ¬ (m : Int) < (k : Int) := by omega
                have hmk : m = k := by omega
                have HT3 : Hid (Rt.NoDup fm.params (k + 1)) := by
                  refine hide ?_
                  intro i j h1 h2 h3
                  by_cases e : i = k
                  · subst e; exact unhide HT2 j (by omega)
                  · exact unhide HT i j h1 (by omega) h3
                have HH := hide (And.intro hN2 (And.intro hp2 hbe2))
                clear hN2 hp2 hbe2
                go_wp2_with fail
                go_roundw
                case rel => exact ⟨k + 1, by omega, by go_num, unhide HT3, (unhide HH).1, (unhide HH).2.1, (unhide HH).2.2⟩
                case measure => simp [intOf]; omega
        · have hlt' : ¬ (k : Int) < (fm.params.length : Int) := by omega
          have hkk : k = fm.params.length := by omega
          have HR : Hid (Rt.parFit fm = true) := by
            refine hide ?_
            have := (unhide HE1) ⟨fun _ => trivial, fun _ => by rw [← hkk]; exact unhide HT⟩
            simpa using this
          have HH := hide hbe
          clear hN hp hbe
          go_wp2_with fail
          go_ret
          exact ⟨by rw [unhide HR]; rfl, unhide HH⟩

end Go.Proofs.YtbpajiljfppjcaaGreatDoor

