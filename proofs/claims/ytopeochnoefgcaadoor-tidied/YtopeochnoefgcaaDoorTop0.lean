/- How long what is read can be. -/
import Derived.Test.YtopeochnoefgcaaDoorStops0
namespace Go.Proofs.YtopeochnoefgcaaDoor
end Go.Proofs.YtopeochnoefgcaaDoor

namespace Go.Proofs.YtopeochnoefgcaaDoor
open Go.RowKit


def ReadP (s : ByteArray) (w : World) (e : Ending) (w' : World) : Prop :=
  Below w.heap.size w w' ∧ ∃ er ln pls, Rt.readS s = (er, ln, pls) ∧
    ((¬ er = 0 ∧ e = .returned (.tuple #[.agg #[noOps], .int .i64 er, .int .i64 ln])) ∨
     (er = 0 ∧ ln = 0 ∧ pls.length ≤ 101 ∧ ∃ lv cs, e = .returned (.tuple #[.agg #[lv], .int .i64 0, .int .i64 0]) ∧ w'.ownsRow w.heap.size 64 12 lv pls.length cs.flatten ∧ LinesV w' w.heap.size pls cs))

theorem block_later_below {w w' : World} {N B : Nat} {o : Obj} (h : w.heap[N]? = some o) (hb : Below B w w') (hN : N < B) : w'.heap[N]? = some o := by rw [hb.block N hN]; exact h
theorem tooLong_no {s : ByteArray} (h : Rt.tooLong s = false) : s.size ≤ 40000 ∧ (Rt.lines s).length ≤ 100 := by
  simp [Rt.tooLong] at h
  have := Rt.lines_len s
  omega

set_option maxHeartbeats 2000000 in
set_option maxRecDepth 100000 in
theorem read_any (s : ByteArray) (w : World) (hs : s.size ≤ maxLen) :
    Calls Tryd.prog 13 #[.string s] w (ReadP s w) := by
  have hb0 := (Below.refl w.heap.size w).alloc (Nat.le_refl _) (.cells #[noOps] 41)
  have hN0 := heap_alloc_new w (.cells #[noOps] 41)
  cases hl : Rt.tooLong s with
  | true =>
    have HE : Hid (Rt.readS s = (1, 0, [])) := hide (by unfold Rt.readS; rw [if_pos hl])
    have HB := hide hb0
    clear hb0 hN0
    go_enter Tryd.func13, Tryd.ntmps13
    go_wp2_with fail
    refine (tooLong_any s _ hs).mono ?_
    rintro e w1 ⟨rfl, rfl⟩
    rw [hl]
    clear hl
    go_wp2_with fail
    refine bodyPost_ret (v := .tuple #[.agg #[noOps], .int .i64 1, .int .i64 0]) ?_ rfl ⟨unhide HB, 1, 0, [], unhide HE, Or.inl ⟨by decide, rfl⟩⟩
    simp [results, Tryd.results13, go_sem]
  | false =>
    obtain ⟨hs1, hs2⟩ := tooLong_no hl
    have hb1 := hb0.alloc (by simp) (.cells #[noOps] 41)
    have hN1 := block_alloc hN0 (.cells #[noOps] 41)
    have hP1 := alloc2_plain w (.cells #[noOps] 41) (.cells #[noOps] 41)
    have HE1 := hide (show Rt.readS s = Rt.readForms (Rt.rForms 0 (Rt.lines s) [Rt.zPL]).1 (Rt.rForms 0 (Rt.lines s) [Rt.zPL]).2 (Rt.lines s).length by unfold Rt.readS; rw [if_neg (by rw [hl]; simp)])
    clear hb0 hN0
    go_enter Tryd.func13, Tryd.ntmps13
    go_wp2_with fail
    refine (tooLong_any s _ hs).mono ?_
    rintro e w1 ⟨rfl, rfl⟩
    rw [hl]
    clear hl
    go_wp2_with fail
    refine (readForms_any _ _ _ s hP1 hs1 hs2).mono ?_
    rintro e w2 ⟨hb2, (⟨hf, rfl, lv, cs, hpr⟩ | ⟨hf, rfl, _⟩)⟩
    · have hN2 := block_later_below hN1 hb2 (by omega)
      have hbe2 := hb1.trans (hb2.mono (B' := w.heap.size) (by omega))
      have HE2 := hide ((unhide HE1).trans (show Rt.readForms (Rt.rForms 0 (Rt.lines s) [Rt.zPL]).1 (Rt.rForms 0 (Rt.lines s) [Rt.zPL]).2 (Rt.lines s).length = _ from if_neg (by rw [hf]; simp)))
      obtain ⟨hL1, hL2, rest, hL3⟩ := Rt.rForms_facts (Rt.lines s) 0 [Rt.zPL] (Rt.rForms 0 (Rt.lines s) [Rt.zPL]).2 (Rt.lines_facts hs1) (by simp [Rt.zPL]; exact Rt.small_plain _ _ _) (Prod.ext hf rfl)
      clear HE1 hb1 hN1 hP1 hb2 hf
      generalize (Rt.rForms 0 (Rt.lines s) [Rt.zPL]).2 = pls at *
      subst hL3
      simp only [List.singleton_append] at hpr hL2
      have hrl : rest.length = (Rt.lines s).length := by simp at hL1; omega
      have HE3 := hide (unhide HE2)
      simp only [List.singleton_append, List.drop_one, List.tail_cons] at HE3
      have hPlt := block_lt hpr.block
      have hlvg : ∀ k, lv.ownBlock = some k → w.heap.size + 1 < k := fun k hk => by have := (hpr.own.lt k hk).1; omega
      clear HE2
      go_wp2_with fail
      refine (nestBlocks_any _ _ _ _ _ _ hpr (by omega)).mono ?_
      rintro e w3 ⟨hg3, er, ls, bs, hne, hcase⟩
      have hN3 : w3.heap[w.heap.size]? = some (.cells #[noOps] 41 (0, 0)) := by
        rw [hg3.block w.heap.size (by omega) (fun e => by have := hlvg _ e.symm; omega)]
        exact hN2
      have hbe3 : Below w.heap.size w w3 := hbe2.trans ⟨hg3.os, hg3.tape, hg3.output, hg3.size, fun k hk => hg3.block k (by omega) (fun e => by have := hlvg _ e.symm; omega)⟩
      rw [hne] at HE3
      simp only at HE3
      have hsm := Rt.nest_facts rest 1 [] [Rt.zPL] ls bs (by simp [Rt.zPL]; exact Rt.small_plain _ _ _) (fun p hp => hL2 p (by simp [hp]))
      clear hN2 hbe2 hpr hg3
      rcases hcase with ⟨rfl, rfl, rfl, cs3, hpr3⟩ | ⟨rfl, hbs, rfl⟩ | ⟨her, rfl⟩
      · obtain ⟨hl3, hs3⟩ := hsm hne (by omega)
        have HE4 := hide ((unhide HE3).trans (show Rt.readNest 0 ls [] (Rt.lines s).length = Rt.readNames ls from rfl))
        clear HE3 hne hsm hL2
        have hlen3 : ls.length ≤ 101 := by simp at hl3; omega
        clear hl3 hrl hL1
        go_wp2_with fail
        refine (checkNames_any _ _ _ _ _ hpr3 hlen3 hs3).mono ?_
        rintro e w4 ⟨hb4, (⟨h4, rfl⟩ | ⟨h4, h5, rfl⟩ | ⟨h4, h5, rfl⟩)⟩
        · have HE5 := hide ((unhide HE4).trans (show Rt.readNames ls = (4, (Rt.nameErr ls 1 (ls.drop 1) : Int), []) by unfold Rt.readNames; rw [if_pos h4]))
          have hN4 := block_later hN3 hb4
          have c0 := cell_of_block hN4 0 (by simp)
          have f0 := free_of_block hN4 0
          simp at c0
          have HB := hide ((hbe3.trans (hb4.mono (B' := w.heap.size) hbe3.size)).setCell (p := ⟨w.heap.size, 0, none⟩) (Nat.le_refl _) noOps)
          clear HE4 h4 hN3 hN4 hb4 hbe3 hpr3
          go_wp2_with fail
          refine bodyPost_ret (v := .tuple #[.agg #[noOps], .int .i64 4, .int .i64 _]) ?_ rfl ⟨unhide HB, _, _, _, unhide HE5, Or.inl ⟨by decide, rfl⟩⟩
          simp [results, Tryd.results13, go_sem, c0]
        · have HE5 := hide ((unhide HE4).trans (show Rt.readNames ls = (4, 0, []) by unfold Rt.readNames; rw [if_neg (by rw [h4]; simp), if_pos h5]))
          have hN4 := block_later hN3 hb4
          have c0 := cell_of_block hN4 0 (by simp)
          have f0 := free_of_block hN4 0
          simp at c0
          have HB := hide ((hbe3.trans (hb4.mono (B' := w.heap.size) hbe3.size)).setCell (p := ⟨w.heap.size, 0, none⟩) (Nat.le_refl _) noOps)
          clear HE4 h4 h5 hN3 hN4 hb4 hbe3 hpr3
          go_wp2_with fail
          refine bodyPost_ret (v := .tuple #[.agg #[noOps], .int .i64 4, .int .i64 0]) ?_ rfl ⟨unhide HB, _, _, _, unhide HE5, Or.inl ⟨by decide, rfl⟩⟩
          simp [results, Tryd.results13, go_sem, c0]
        · have HE5 := hide ((unhide HE4).trans (show Rt.readNames ls = (0, 0, ls) by unfold Rt.readNames; rw [if_neg (by rw [h4]; simp), if_neg (by rw [h5]; simp)]))
          have hpr4 := hpr3.later hb4
          have hN4 := block_later hN3 hb4
          have c0 := cell_of_block hN4 0 (by simp)
          have f0 := free_of_block hN4 0
          have cP := cell_of_block hpr4.block 0 (by simp)
          simp at c0 cP
          obtain ⟨adl, capl, rfl⟩ := ownsRow_form hpr4.own
          have hK : Keeps w4 (w4.setCell ⟨w.heap.size, 0, none⟩ (.slice adl ls.length capl)) (w.heap.size + 1 + 1) w.heap.size := fun t size n v xs _ hv => ownsRow_mono (ownsRow_setCell_below hv (by show w.heap.size < _; omega) _) (by omega)
          have HF := hide (And.intro (ownsRow_mono (b' := w.heap.size) (ownsRow_setCell_below hpr4.own (a := ⟨w.heap.size, 0, none⟩) (by show w.heap.size < _; omega) (.slice adl ls.length capl)) (by omega)) (hK.lines _ _ hpr4.lines))
          have HB := hide ((hbe3.trans (hb4.mono (B' := w.heap.size) hbe3.size)).setCell (p := ⟨w.heap.size, 0, none⟩) (Nat.le_refl _) (.slice adl ls.length capl))
          clear HE4 h4 h5 hN3 hN4 hb4 hbe3 hpr3 hpr4 hK hlvg
          go_wp2_with fail
          refine bodyPost_ret (v := .tuple #[.agg #[.slice adl ls.length capl], .int .i64 0, .int .i64 0]) ?_ rfl ⟨unhide HB, _, _, _, unhide HE5, Or.inr ⟨rfl, rfl, hlen3, _, _, rfl, (unhide HF).1, (unhide HF).2⟩⟩
          simp [results, Tryd.results13, go_sem, c0]
      · have HE4 := hide ((unhide HE3).trans (show Rt.readNest 0 ls bs (Rt.lines s).length = (3, ((Rt.lines s).length : Int), []) by unfold Rt.readNest; rw [if_neg (by simp), if_pos hbs]))
        have c0 := cell_of_block hN3 0 (by simp)
        have f0 := free_of_block hN3 0
        simp at c0
        have HB := hide (hbe3.setCell (p := ⟨w.heap.size, 0, none⟩) (Nat.le_refl _) noOps)
        have HR := hide hrl
        clear HE3 hN3 hbe3 hsm hne hL2 hbs hrl
        go_wp2_with fail
        refine bodyPost_ret (v := .tuple #[.agg #[noOps], .int .i64 3, .int .i64 rest.length]) ?_ rfl ⟨unhide HB, _, _, _, unhide HE4, Or.inl ⟨by decide, by rw [unhide HR]⟩⟩
        simp [results, Tryd.results13, go_sem, c0]
      · have HE4 := hide ((unhide HE3).trans (show Rt.readNest er ls bs (Rt.lines s).length = (3, (er : Int), []) by unfold Rt.readNest; rw [if_pos her]))
        have c0 := cell_of_block hN3 0 (by simp)
        have f0 := free_of_block hN3 0
        simp at c0
        have HB := hide (hbe3.setCell (p := ⟨w.heap.size, 0, none⟩) (Nat.le_refl _) noOps)
        clear HE3 hN3 hbe3 hsm hne hL2 her
        go_wp2_with fail
        refine bodyPost_ret (v := .tuple #[.agg #[noOps], .int .i64 3, .int .i64 er]) ?_ rfl ⟨unhide HB, _, _, _, unhide HE4, Or.inl ⟨by decide, rfl⟩⟩
        simp [results, Tryd.results13, go_sem, c0]
    · have hN2 := block_later_below hN1 hb2 (by omega)
      have HE2 := hide ((unhide HE1).trans (show Rt.readForms (Rt.rForms 0 (Rt.lines s) [Rt.zPL]).1 (Rt.rForms 0 (Rt.lines s) [Rt.zPL]).2 (Rt.lines s).length = _ from if_pos hf))
      have c0 := cell_of_block hN2 0 (by simp)
      have f0 := free_of_block hN2 0
      simp at c0
      have HB := hide ((hb1.trans (hb2.mono (B' := w.heap.size) (by omega))).setCell (p := ⟨w.heap.size, 0, none⟩) (Nat.le_refl _) noOps)
      clear HE1 hb1 hN1 hP1 hb2 hf hN2
      generalize (Rt.rForms 0 (Rt.lines s) [Rt.zPL]).1 = ln at *
      go_wp2_with fail
      refine bodyPost_ret (v := .tuple #[.agg #[noOps], .int .i64 2, .int .i64 ln]) ?_ rfl ⟨unhide HB, _, _, _, unhide HE2, Or.inl ⟨by decide, rfl⟩⟩
      simp [results, Tryd.results13, go_sem, c0]

end Go.Proofs.YtopeochnoefgcaaDoor

namespace Go.Proofs.YtopeochnoefgcaaDoor
open Go.RowKit

def StopsP (s : ByteArray) (w : World) (e : Ending) (w' : World) : Prop :=
  Below w.heap.size w w' ∧ ∃ er ln pls, Rt.readS s = (er, ln, pls) ∧
    ((¬ er = 0 ∧ e = .returned (.tuple #[noOps, .int .i64 er, .int .i64 ln])) ∨
     (er = 0 ∧ ln = 0 ∧ ∃ v, e = .returned (.tuple #[v, .int .i64 0, .int .i64 0]) ∧ w'.ownsRow w.heap.size 3 1 v (Rt.stopsP pls).length ((Rt.stopsP pls).map (Value.int .i64))))

set_option maxHeartbeats 1000000 in
set_option maxRecDepth 100000 in
theorem stops_any (s : ByteArray) (w : World) (hs : s.size ≤ maxLen) :
    Calls Tryd.prog 8 #[.string s] w (StopsP s w) := by
  go_enter Tryd.func8, Tryd.ntmps8
  go_wp2_with fail
  refine (read_any s _ hs).mono ?_
  rintro e w1 ⟨hb1, er, ln, pls, hR, (⟨her, rfl⟩ | ⟨rfl, rfl, hlen, lv, cs, rfl, hown, hlines⟩)⟩
  · have HR := hide hR
    have HB := hide (hb1.alloc hb1.size (.cells #[noOps] 41))
    have HN := hide her
    have her' : (er != 0) = true := by simpa using her
    clear hR hb1 her
    go_wp2_with fail
    go_ret3
    exact ⟨unhide HB, er, ln, pls, unhide HR, Or.inl ⟨unhide HN, rfl⟩⟩
  · have HR := hide hR
    obtain ⟨adl, capl, rfl⟩ := ownsRow_form hown
    have hb2 := (Below.refl w1.heap.size w1).alloc (Nat.le_refl _) (.cells #[.slice adl pls.length capl] 41)
    have hpr : ProgR (w1.alloc (.cells #[.slice adl pls.length capl] 41)) w1.heap.size w.heap.size pls (.slice adl pls.length capl) cs := ⟨heap_alloc_new w1 _, own_later hown hb2, (keeps_later hb2).lines _ _ hlines⟩
    have hsz := hb1.size
    clear hR hown hlines
    go_wp2_with fail
    refine (progStops_r _ _ _ _ _ _ hpr hlen).mono ?_
    rintro e w3 ⟨hb3, v, rfl, hv⟩
    have HF := hide (And.intro (hb1.trans ((hb2.mono (B' := w.heap.size) hsz).trans (hb3.mono (B' := w.heap.size) (by simp; omega)))) (ownsRow_mono (b' := w.heap.size) hv (by simp; omega)))
    obtain ⟨adv, capv, rfl⟩ := ownsRow_form hv
    clear hb1 hb2 hpr hb3 hv
    go_wp2_with fail
    go_ret3
    exact ⟨(unhide HF).1, 0, 0, pls, unhide HR, Or.inr ⟨rfl, rfl, _, rfl, (unhide HF).2⟩⟩

end Go.Proofs.YtopeochnoefgcaaDoor

