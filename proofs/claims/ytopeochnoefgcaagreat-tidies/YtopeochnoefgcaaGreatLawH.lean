/- The law: a step that asks for the tidied source; the script. -/
import Derived.Test.YtopeochnoefgcaaGreatRefO
import Derived.Test.YtopeochnoefgcaaGreatLawA
namespace Go.Proofs.YtopeochnoefgcaaGreat
open Go.RowKit

namespace Rf
/-- The tidied source; of one that is refused, nothing. -/
def tidyText (s : ByteArray) : ByteArray := if (readR s).1 = 0 then tidy (readR s).2.2 else ⟨#[]⟩
end Rf
/-- What both answers to Tidy come to. -/
def TidyBoth (s : ByteArray) (w : World) (e : Ending) (w' : World) : Prop := Below w.heap.size w w' ∧ e = .returned (.tuple #[.string (Rf.tidyText s), .int .i64 (Rf.readR s).1, .int .i64 (Rf.readR s).2.1])
theorem Tidy_both (s : ByteArray) (w : World) (hs : s.size ≤ maxLen) : Calls Tryz.prog 21 #[.string s] w (TidyBoth s w) := by
  refine (Tidy_ref s w hs).mono ?_
  rintro e w' ⟨hb, (⟨h1, rfl⟩ | ⟨h1, rfl⟩)⟩
  · exact ⟨hb, by rw [Rf.tidyText, if_neg h1]⟩
  · have h2 := Rf.readR_at h1
    exact ⟨hb, by rw [Rf.tidyText, if_pos h1, h1, h2]⟩

set_option maxHeartbeats 2000000 in
set_option maxRecDepth 100000 in
theorem tidied_ref (HP : ∀ (s : ByteArray) (w : World), s.size ≤ maxLen → Calls Tryz.prog 20 #[.string s] w (TidyBoth s w)) (w : World) (s : ByteArray) (hs : s.size ≤ maxLen) :
    Calls Tryz.prog 14 #[.string s] w fun e w' => e = .returned (.bool true) ∧ Below w.heap.size w w' := by
  have HPP := hide HP
  clear HP
  go_enter Tryz.func14, Tryz.ntmps14
  go_wp2_with fail
  refine (unhide HPP s _ hs).mono ?_
  rintro e w1 ⟨hb1, rfl⟩
  have HB1 := hide hb1
  clear hb1
  go_wp2_with fail
  refine (Tidy_both s _ hs).mono ?_
  rintro e w2 ⟨hb2, rfl⟩
  have HB2 := hide ((unhide HB1).trans (hb2.mono (unhide HB1).size))
  clear hb2
  generalize (Rf.readR s).1 = er at *
  generalize (Rf.readR s).2.1 = at0 at *
  generalize Rf.tidyText s = tt at *
  go_wp2_with (go_at_call 22; refine (num_ref er _).mono ?_; rintro e w' ⟨rfl, rfl⟩)
  all_goals
    go_ret
    exact ⟨by first | rfl | simp, unhide HB2⟩

set_option maxHeartbeats 2000000 in
set_option maxRecDepth 100000 in
theorem step_tidy (HP : ∀ (s : ByteArray) (w : World), s.size ≤ maxLen → Calls Tryz.prog 20 #[.string s] w (TidyBoth s w)) (w : World) (S : Nat) (lv : Value) (vs : List Value) (a b c : Value) (s : ByteArray) (l : Value) (h : LW w S lv vs) (hs : s.size ≤ maxLen) :
    Calls Tryz.prog 12 #[.pointer (some ⟨S, 0, none⟩), .agg #[.int .i64 1, a, b, c, .string s, l]] w (StepP S vs w) := by
  have HH := hide h
  have hSlt := block_lt h.block
  have HPP := hide HP
  clear h HP
  go_enter Tryz.func12, Tryz.ntmps12
  go_wp2_with fail
  have hb0 := (Below.refl w.heap.size w).alloc (Nat.le_refl _) (.cells #[.int .i64 1, a, b, c, .string s, l] 32)
  have HB0 := hide hb0
  clear hb0
  refine (tidied_ref (unhide HPP) _ s hs).mono ?_
  rintro e w1 ⟨rfl, hb1⟩
  have HF := hide (And.intro (((unhide HB0).mono (B' := S) (by omega)).trans (hb1.mono (B' := S) (by simp; omega))) (((unhide HH).later (unhide HB0)).later hb1))
  clear hb1
  go_wp2_with fail
  go_ret
  exact ⟨rfl, (unhide HF).1, lv, vs, (unhide HF).2, by omega⟩

set_option maxHeartbeats 4000000 in
set_option maxRecDepth 100000 in
theorem plays_tidy (HP : ∀ (s : ByteArray) (w : World), s.size ≤ maxLen → Calls Tryz.prog 20 #[.string s] w (TidyBoth s w)) (w : World) (v : Value) (ops : List OpD) (kg : Nat) (h : ScrR w v ops) (hk : w.cell? ⟨kg, 0, none⟩ = some (.int .i64 1)) (hlen : (ops.length + 1) * 24 ≤ 140737488355328) :
    Calls Tryz.prog 11 #[v, .slice (some ⟨kg, 0, none⟩) 1 1] w fun e w' => e = .returned (.bool true) ∧ Below w.heap.size w w' := by
  have HH := hide h
  have HK := hide hk
  have HPP := hide HP
  obtain ⟨ad, cap, rfl, _⟩ := h
  clear HP hk
  have hA := heap_alloc_new w (.cells #[.slice none 0 0, .slice none 0 0] 30)
  have HA := hide hA
  clear hA
  go_enter Tryz.func11, Tryz.ntmps11
  go_wp2
  go_loopw [6] (fun i wr => ∃ (k : Nat) (lv : Value) (vs : List Value), k ≤ ops.length ∧ i = .int .i64 k ∧ vs.length ≤ k ∧ LW wr w.heap.size lv vs ∧ Below w.heap.size w wr) (fun i _ => ops.length - (intOf i).toNat)
  case atStart => exact ⟨0, _, [], Nat.zero_le _, rfl, by simp, ⟨unhide HA, World.ownsRow_nil _ _ _ _, fun k hk => by simp at hk⟩, (Below.refl _ _).alloc (Nat.le_refl _) _⟩
  case round =>
    obtain ⟨k, lv, vs, hkl, rfl, hvl, hL, hbe⟩ := hrel
    have HL := hide (And.intro hL hbe)
    clear hL hbe
    by_cases hlt : k < ops.length
    · have hlt' : (k : Int) < (ops.length : Int) := by omega
      have hk0 : (0 : Int) ≤ (k : Int) := by omega
      obtain ⟨ad', cap', he, hcells, hmax⟩ := unhide HH
      simp at he
      obtain ⟨rfl, rfl⟩ := he
      rcases hcells with hnil | ⟨g, o, hado, hcells⟩
      · rw [hnil] at hlt; simp at hlt
      subst hado
      have hsz := hmax _ (List.getElem_mem hlt)
      have HC : Hid (∀ w', Below w.heap.size w w' → w'.cell? ⟨kg, 0, none⟩ = some (.int .i64 1) ∧ w'.cell? ⟨g, o + k * 6, none⟩ = some (.int .i64 ops[k].kind) ∧ w'.cell? ⟨g, o + k * 6 + 1, none⟩ = some ops[k].a ∧ w'.cell? ⟨g, o + k * 6 + 2, none⟩ = some ops[k].b ∧ w'.cell? ⟨g, o + k * 6 + 3, none⟩ = some ops[k].c ∧ w'.cell? ⟨g, o + k * 6 + 4, none⟩ = some (.string ops[k].s) ∧ w'.cell? ⟨g, o + k * 6 + 5, none⟩ = some ops[k].l) := hide (fun w' hb =>
        let ⟨h0, h1, h2, h3, h4, h5⟩ := hcells k hlt; ⟨cell_later hb (unhide HK), cell_later hb h0, cell_later hb h1, cell_later hb h2, cell_later hb h3, cell_later hb h4, cell_later hb h5⟩)
      clear hcells hmax
      generalize ops[k].kind = kd at *
      generalize ops[k].a = oa at *
      generalize ops[k].b = ob at *
      generalize ops[k].c = oc at *
      generalize ops[k].s = os at *
      generalize ops[k].l = ol at *
      go_wp2_with fail
      go_loopw [7, 8] (fun inb j wr2 => ((inb = .bool false ∧ j = .int .i64 (0 : Nat)) ∨ (inb = .bool (kd == 1) ∧ j = .int .i64 (1 : Nat))) ∧ LW wr2 w.heap.size lv vs ∧ Below w.heap.size w wr2) (fun _ j _ => 1 - (intOf j).toNat)
      case atStart => exact ⟨Or.inl ⟨rfl, rfl⟩, (unhide HL).1, (unhide HL).2⟩
      case round =>
        obtain ⟨hst, hL2, hbe2⟩ := hrel
        obtain ⟨cK, c0, c1, c2, c3, c4, c5⟩ := unhide HC _ hbe2
        have HL2 := hide (And.intro hL2 hbe2)
        clear hL2 hbe2
        rcases hst with ⟨rfl, rfl⟩ | ⟨rfl, rfl⟩
        · clear c1 c2 c3 c4 c5
          go_wp2_with fail
          go_region_held3 (fun w' => w'.cell? ⟨kg, 0, none⟩ = some (.int .i64 1) ∧ w'.cell? ⟨g, o + k * 6, none⟩ = some (.int .i64 kd)) (go_keep) (fail)
          go_wp2_with fail
          go_roundw
          case rel => exact ⟨Or.inr ⟨by first | rfl | simp, by go_num⟩, (unhide HL2).1.later (below_to_drew _), (unhide HL2).2.trans ((below_to_drew _).mono (unhide HL2).2.size)⟩
          case measure => simp [intOf]
        · cases hz : (kd == 1) with
          | false =>
            clear cK c0 c1 c2 c3 c4 c5
            go_wp2_with fail
            go_roundw
            case rel => exact ⟨k + 1, lv, vs, by omega, by go_num, by omega, (unhide HL2).1, (unhide HL2).2⟩
            case measure => simp [intOf]; omega
          | true =>
            have hkd : kd = 1 := by simpa using hz
            subst hkd
            clear hz cK
            go_wp2_with fail
            refine (step_tidy (unhide HPP) _ w.heap.size lv vs oa ob oc os ol (unhide HL2).1 hsz).mono ?_
            rintro e w3 ⟨rfl, hb3, lv3, vs3, hL3, hl3⟩
            have HL3 := hide (And.intro hL3 ((unhide HL2).2.trans hb3))
            clear hL3 hb3 c0 c1 c2 c3 c4 c5
            go_wp2_with fail
            refine (looks_ref _ w.heap.size lv3 vs3 (unhide HL3).1 (by omega)).mono ?_
            rintro e w4 ⟨rfl, hb4⟩
            have HL4 := hide (And.intro ((unhide HL3).1.later hb4) ((unhide HL3).2.trans (hb4.mono (unhide HL3).2.size)))
            clear hb4
            go_wp2_with fail
            go_roundw
            case rel => exact ⟨k + 1, lv3, vs3, by omega, by go_num, by omega, (unhide HL4).1, (unhide HL4).2⟩
            case measure => simp [intOf]; omega
    · have hlt' : ¬ (k : Int) < (ops.length : Int) := by omega
      go_wp2_with fail
      go_ret
      exact ⟨rfl, (unhide HL).2⟩

set_option maxHeartbeats 2000000 in
set_option maxRecDepth 100000 in
theorem Tidies_ref (HP : ∀ (s : ByteArray) (w : World), s.size ≤ maxLen → Calls Tryz.prog 20 #[.string s] w (TidyBoth s w)) (w : World) (v : Value) (ops : List OpD) (h : ScrR w v ops) (hlen : (ops.length + 1) * 24 ≤ 140737488355328) :
    Calls Tryz.prog 3 #[v] w fun e w' => e = .returned (.bool true) ∧ Below w.heap.size w w' := by
  have HH := hide h
  have HPP := hide HP
  obtain ⟨ad, cap, rfl, _⟩ := h
  clear HP
  have hb0 := (Below.refl w.heap.size w).alloc (Nat.le_refl _) (.cells #[.int .i64 1] 3)
  have hn0 := heap_alloc_new w (.cells #[.int .i64 1] 3)
  have HB0 := hide (And.intro hb0 hn0)
  clear hb0 hn0
  go_enter Tryz.func3, Tryz.ntmps3
  go_wp2_with fail
  refine (plays_tidy (unhide HPP) _ _ ops _ ((unhide HH).later (unhide HB0).1) (cell_of_block (unhide HB0).2 0 (by simp)) hlen).mono ?_
  rintro e w1 ⟨rfl, hb1⟩
  have HF := hide ((unhide HB0).1.trans (hb1.mono (unhide HB0).1.size))
  clear hb1
  go_wp2_with fail
  go_ret
  exact ⟨rfl, unhide HF⟩

end Go.Proofs.YtopeochnoefgcaaGreat

