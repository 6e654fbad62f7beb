/- The document's answer: names in a row, the word to, lines that set. -/
import Derived.Test.YthleadfkfnnadaaGreatRef4
namespace Go.Proofs.YthleadfkfnnadaaGreat
open Go.RowKit
def Says (fn : Nat) (F : List ByteArray → Bool) (t : List ByteArray) : Prop :=
  ∀ (w : World) (v : Value), Strs w v t → Calls Tryz.prog fn #[v] w fun e w' => e = .returned (.bool (F t)) ∧ Below w.heap.size w w'
def Few (t : List ByteArray) : Prop := t.length ≤ 1000 ∧ ∀ x ∈ t, x.size ≤ 40000
theorem Few.take {t : List ByteArray} (h : Few t) (k : Nat) : Few (t.take k) := ⟨by have := h.1; simp; omega, fun x hx => h.2 x (List.mem_of_mem_take hx)⟩
theorem Few.drop {t : List ByteArray} (h : Few t) (k : Nat) : Few (t.drop k) := ⟨by have := h.1; simp; omega, fun x hx => h.2 x (List.mem_of_mem_drop hx)⟩
theorem Strs.take {w : World} {b o cap : Nat} {t : List ByteArray} (h : Strs w (.slice (some ⟨b, o, none⟩) t.length cap) t) (k c : Nat) (hk : k ≤ t.length) (hc : k ≤ c) : Strs w (.slice (some ⟨b, o, none⟩) k c) (t.take k) := by
  obtain ⟨ad, cap', h1, _, h2⟩ := h
  refine ⟨some ⟨b, o, none⟩, c, by simp [Nat.min_eq_left hk], by simp; omega, ?_⟩
  rcases h2 with rfl | ⟨b', o', rfl, h2⟩
  · left; simp
  · simp at h1
    obtain ⟨⟨rfl, rfl⟩, rfl⟩ := h1
    refine Or.inr ⟨b, o, rfl, fun j hj => ?_⟩
    simp at hj
    rw [h2 j (by omega)]; simp
theorem Strs.drop {w : World} {b o cap : Nat} {t : List ByteArray} (h : Strs w (.slice (some ⟨b, o, none⟩) t.length cap) t) (k n c : Nat) (hn : n = t.length - k) (hc : n ≤ c) : Strs w (.slice (some ⟨b, o + k, none⟩) n c) (t.drop k) := by
  obtain ⟨ad, cap', h1, _, h2⟩ := h
  refine ⟨some ⟨b, o + k, none⟩, c, by simp [hn], by simp; omega, ?_⟩
  rcases h2 with rfl | ⟨b', o', rfl, h2⟩
  · left; simp
  · simp at h1
    obtain ⟨⟨rfl, rfl⟩, rfl⟩ := h1
    refine Or.inr ⟨b, o + k, rfl, fun j hj => ?_⟩
    simp at hj
    rw [show o + k + j = o + (k + j) by omega, h2 (k + j) (by omega)]; simp
theorem Strs.gone {w : World} {ad : Option Addr} {t : List ByteArray} {n k c : Nat} (h : t.length ≤ k) (hn : n = t.length - k) : Strs w (.slice ad n c) (t.drop k) := by
  refine ⟨ad, c, by simp [hn], by simp; omega, Or.inl ?_⟩
  simp; omega
theorem Strs.nonnil {w : World} {ad : Option Addr} {n cap : Nat} {t : List ByteArray} (h : Strs w (.slice ad n cap) t) (hne : t ≠ []) : ∃ b o, ad = some ⟨b, o, none⟩ := by
  obtain ⟨ad', cap', h1, _, h2⟩ := h
  rcases h2 with h2 | ⟨b', o', h2, _⟩
  · exact absurd h2 hne
  · simp at h1
    exact ⟨b', o', by rw [h1.1, h2]⟩
set_option maxHeartbeats 2000000 in
theorem isExpr_step (t : List ByteArray) (hf : Few t) (S : List ByteArray → Bool) (h0 : Rf.last Rf.cmpW t < 0 → Says 176 S t)
    (h1 : ∀ k : Nat, Rf.last Rf.cmpW t = k → Says 176 S (t.take k) ∧ Says 176 S (t.drop (k + 1))) : Says 135 (Rf.exprS S) t := by
  intro w v hv
  have hl := hf.1
  have HF := hide hf
  clear hf
  have HA := hide (And.intro h0 h1)
  clear h0 h1
  obtain ⟨ad, cap, rfl, hcap⟩ := hv.form
  go_enter Tryz.func135, Tryz.ntmps135
  go_wp2_with fail
  refine (comparing_ref _).mono ?_
  rintro e w1 ⟨sv, rfl, hsv, hb1⟩
  have hv1 := hv.later hb1
  have hnil := hv.nonnil
  go_wp2_with fail
  refine (last_ref _ _ _ t Rf.cmpW hv1 hsv (by omega) (by decide) (unhide HF).2).mono ?_
  rintro e w2 ⟨rfl, hb2⟩
  have HB := hide (hb1.trans (hb2.mono (B' := w.heap.size) hb1.size))
  have HV := hide (hv1.later hb2)
  clear hv hb1 hv1 hb2 hsv
  have hlb := Rf.lastTo_b Rf.cmpW t t.length
  have hlb' : -1 ≤ Rf.last Rf.cmpW t ∧ Rf.last Rf.cmpW t < (t.length : Int) ∧ (Rf.last Rf.cmpW t = -1 ∨ 0 < Rf.last Rf.cmpW t) := hlb
  clear hlb
  by_cases hneg : Rf.last Rf.cmpW t < 0
  · have HE := hide (show Rf.exprS S t = S t by rw [Rf.exprS, if_pos hneg])
    go_wp2_with fail
    refine ((unhide HA).1 hneg _ _ (unhide HV)).mono ?_
    rintro e w3 ⟨rfl, hb3⟩
    have HB3 := hide ((unhide HB).trans (hb3.mono (B' := w.heap.size) (unhide HB).size))
    clear hb3
    go_wp2_with fail
    go_ret
    exact ⟨by rw [unhide HE]; rfl, unhide HB3⟩
  · obtain ⟨k, hk⟩ : ∃ k : Nat, Rf.last Rf.cmpW t = k := ⟨(Rf.last Rf.cmpW t).toNat, by omega⟩
    have HE := hide (show Rf.exprS S t = (S (t.take k) && S (t.drop (k + 1))) by rw [Rf.exprS, if_neg hneg, hk]; rfl)
    obtain ⟨ha, hb⟩ := (unhide HA).2 k hk
    rw [hk] at hlb' hneg ⊢
    obtain ⟨b, o, rfl⟩ := hnil (by intro h; rw [h] at hlb'; simp at hlb'; omega)
    have hkl : k < t.length := by omega
    have HS := hide (And.intro ha hb)
    clear ha hb
    go_wp2_with fail
    refine ((unhide HS).1 _ _ ((unhide HV).take k _ (by omega) (by omega))).mono ?_
    rintro e w3 ⟨rfl, hb3⟩
    have HV3 := hide ((unhide HV).later hb3)
    have HB3 := hide ((unhide HB).trans (hb3.mono (B' := w.heap.size) (unhide HB).size))
    clear hb3
    go_wp2_with fail
    all_goals
      refine ((unhide HS).2 _ _ (by first | exact Strs.gone (by omega) rfl | exact (unhide HV3).drop (k + 1) _ _ rfl (by omega))).mono ?_
      rintro e w4 ⟨rfl, hb4⟩
      have HB4 := hide ((unhide HB3).trans (hb4.mono (B' := w.heap.size) (unhide HB3).size))
      clear hb4
      go_wp2_with fail
      all_goals
        go_ret
        exact ⟨by rw [unhide HE]; exact ret_bool (by simp_all), unhide HB4⟩
set_option maxHeartbeats 2000000 in
theorem isSum_step (t : List ByteArray) (hf : Few t) (S T : List ByteArray → Bool) (h0 : Rf.last Rf.addW t < 0 → Says 205 T t)
    (h1 : ∀ k : Nat, Rf.last Rf.addW t = k → Says 176 S (t.take k) ∧ Says 205 T (t.drop (k + 1))) : Says 176 (Rf.sumS S T) t := by
  intro w v hv
  have hl := hf.1
  have HF := hide hf
  clear hf
  have HA := hide (And.intro h0 h1)
  clear h0 h1
  obtain ⟨ad, cap, rfl, hcap⟩ := hv.form
  go_enter Tryz.func176, Tryz.ntmps176
  go_wp2_with fail
  refine (adding_ref _).mono ?_
  rintro e w1 ⟨sv, rfl, hsv, hb1⟩
  have hv1 := hv.later hb1
  have hnil := hv.nonnil
  go_wp2_with fail
  refine (last_ref _ _ _ t Rf.addW hv1 hsv (by omega) (by decide) (unhide HF).2).mono ?_
  rintro e w2 ⟨rfl, hb2⟩
  have HB := hide (hb1.trans (hb2.mono (B' := w.heap.size) hb1.size))
  have HV := hide (hv1.later hb2)
  clear hv hb1 hv1 hb2 hsv
  have hlb := Rf.lastTo_b Rf.addW t t.length
  have hlb' : -1 ≤ Rf.last Rf.addW t ∧ Rf.last Rf.addW t < (t.length : Int) ∧ (Rf.last Rf.addW t = -1 ∨ 0 < Rf.last Rf.addW t) := hlb
  clear hlb
  by_cases hneg : Rf.last Rf.addW t < 0
  · have HE := hide (show Rf.sumS S T t = T t by rw [Rf.sumS, if_pos hneg])
    go_wp2_with fail
    refine ((unhide HA).1 hneg _ _ (unhide HV)).mono ?_
    rintro e w3 ⟨rfl, hb3⟩
    have HB3 := hide ((unhide HB).trans (hb3.mono (B' := w.heap.size) (unhide HB).size))
    clear hb3
    go_wp2_with fail
    go_ret
    exact ⟨by rw [unhide HE]; rfl, unhide HB3⟩
  · obtain ⟨k, hk⟩ : ∃ k : Nat, Rf.last Rf.addW t = k := ⟨(Rf.last Rf.addW t).toNat, by omega⟩
    have HE := hide (show Rf.sumS S T t = (S (t.take k) && T (t.drop (k + 1))) by rw [Rf.sumS, if_neg hneg, hk]; rfl)
    obtain ⟨ha, hb⟩ := (unhide HA).2 k hk
    rw [hk] at hlb' hneg ⊢
    obtain ⟨b, o, rfl⟩ := hnil (by intro h; rw [h] at hlb'; simp at hlb'; omega)
    have hkl : k < t.length := by omega
    have HS := hide (And.intro ha hb)
    clear ha hb
    go_wp2_with fail
    refine ((unhide HS).1 _ _ ((unhide HV).take k _ (by omega) (by omega))).mono ?_
    rintro e w3 ⟨rfl, hb3⟩
    have HV3 := hide ((unhide HV).later hb3)
    have HB3 := hide ((unhide HB).trans (hb3.mono (B' := w.heap.size) (unhide HB).size))
    clear hb3
    go_wp2_with fail
    all_goals
      refine ((unhide HS).2 _ _ (by first | exact Strs.gone (by omega) rfl | exact (unhide HV3).drop (k + 1) _ _ rfl (by omega))).mono ?_
      rintro e w4 ⟨rfl, hb4⟩
      have HB4 := hide ((unhide HB3).trans (hb4.mono (B' := w.heap.size) (unhide HB3).size))
      clear hb4
      go_wp2_with fail
      all_goals
        go_ret
        exact ⟨by rw [unhide HE]; exact ret_bool (by simp_all), unhide HB4⟩
set_option maxHeartbeats 2000000 in
theorem isTerm_step (t : List ByteArray) (hf : Few t) (S T : List ByteArray → Bool) (h0 : Rf.last Rf.divW t < 0 → Says 217 T t)
    (h1 : ∀ k : Nat, Rf.last Rf.divW t = k → Says 205 S (t.take k) ∧ Says 217 T (t.drop (k + 1))) : Says 205 (Rf.termS S T) t := by
  intro w v hv
  have hl := hf.1
  have HF := hide hf
  clear hf
  have HA := hide (And.intro h0 h1)
  clear h0 h1
  obtain ⟨ad, cap, rfl, hcap⟩ := hv.form
  go_enter Tryz.func205, Tryz.ntmps205
  go_wp2_with fail
  refine (dividing_ref _).mono ?_
  rintro e w1 ⟨sv, rfl, hsv, hb1⟩
  have hv1 := hv.later hb1
  have hnil := hv.nonnil
  go_wp2_with fail
  refine (last_ref _ _ _ t Rf.divW hv1 hsv (by omega) (by decide) (unhide HF).2).mono ?_
  rintro e w2 ⟨rfl, hb2⟩
  have HB := hide (hb1.trans (hb2.mono (B' := w.heap.size) hb1.size))
  have HV := hide (hv1.later hb2)
  clear hv hb1 hv1 hb2 hsv
  have hlb := Rf.lastTo_b Rf.divW t t.length
  have hlb' : -1 ≤ Rf.last Rf.divW t ∧ Rf.last Rf.divW t < (t.length : Int) ∧ (Rf.last Rf.divW t = -1 ∨ 0 < Rf.last Rf.divW t) := hlb
  clear hlb
  by_cases hneg : Rf.last Rf.divW t < 0
  · have HE := hide (show Rf.termS S T t = T t by rw [Rf.termS, if_pos hneg])
    go_wp2_with fail
    refine ((unhide HA).1 hneg _ _ (unhide HV)).mono ?_
    rintro e w3 ⟨rfl, hb3⟩
    have HB3 := hide ((unhide HB).trans (hb3.mono (B' := w.heap.size) (unhide HB).size))
    clear hb3
    go_wp2_with fail
    go_ret
    exact ⟨by rw [unhide HE]; rfl, unhide HB3⟩
  · obtain ⟨k, hk⟩ : ∃ k : Nat, Rf.last Rf.divW t = k := ⟨(Rf.last Rf.divW t).toNat, by omega⟩
    have HE := hide (show Rf.termS S T t = (S (t.take k) && T (t.drop (k + 1))) by rw [Rf.termS, if_neg hneg, hk]; rfl)
    obtain ⟨ha, hb⟩ := (unhide HA).2 k hk
    rw [hk] at hlb' hneg ⊢
    obtain ⟨b, o, rfl⟩ := hnil (by intro h; rw [h] at hlb'; simp at hlb'; omega)
    have hkl : k < t.length := by omega
    have HS := hide (And.intro ha hb)
    clear ha hb
    go_wp2_with fail
    refine ((unhide HS).1 _ _ ((unhide HV).take k _ (by omega) (by omega))).mono ?_
    rintro e w3 ⟨rfl, hb3⟩
    have HV3 := hide ((unhide HV).later hb3)
    have HB3 := hide ((unhide HB).trans (hb3.mono (B' := w.heap.size) (unhide HB).size))
    clear hb3
    go_wp2_with fail
    all_goals
      refine ((unhide HS).2 _ _ (by first | exact Strs.gone (by omega) rfl | exact (unhide HV3).drop (k + 1) _ _ rfl (by omega))).mono ?_
      rintro e w4 ⟨rfl, hb4⟩
      have HB4 := hide ((unhide HB3).trans (hb4.mono (B' := w.heap.size) (unhide HB3).size))
      clear hb4
      go_wp2_with fail
      all_goals
        go_ret
        exact ⟨by rw [unhide HE]; exact ret_bool (by simp_all), unhide HB4⟩
theorem Strs.mid {w : World} {b o cap : Nat} {t : List ByteArray} (h : Strs w (.slice (some ⟨b, o, none⟩) t.length cap) t) (i j n c : Nat) (hj : j ≤ t.length) (hn : n = j - i) (hc : n ≤ c) : Strs w (.slice (some ⟨b, o + i, none⟩) n c) ((t.take j).drop i) := by
  have h1 := h.take j j hj (Nat.le_refl _)
  have h2 : Strs w (.slice (some ⟨b, o, none⟩) (t.take j).length j) (t.take j) := by rw [List.length_take, Nat.min_eq_left hj]; exact h1
  exact h2.drop i n c (by rw [List.length_take, Nat.min_eq_left hj]; exact hn) hc
set_option maxHeartbeats 4000000 in
set_option maxRecDepth 100000 in
theorem isFactor_step (t : List ByteArray) (hf : Few t) (F E C : List ByteArray → Bool) (h0 : 2 ≤ t.length → Says 217 F (t.drop 1))
    (h1 : 2 ≤ t.length → Says 135 E ((t.take (t.length - 1)).drop 1)) (h2 : Says 177 C t) : Says 217 (Rf.factorS F E C) t := by
  intro w v hv
  have hl := hf.1
  have HA := hide (And.intro h0 (And.intro h1 h2))
  clear h0 h1 h2
  obtain ⟨ad, cap, rfl, hcap⟩ := hv.form
  by_cases hz : t.length = 0
  · have HE := hide (show Rf.factorS F E C t = false by rw [Rf.factorS, if_pos hz])
    have hz' : (t.length : Int) = 0 := by omega
    go_enter Tryz.func217, Tryz.ntmps217
    go_wp2_with fail
    go_ret
    exact ⟨by rw [unhide HE]; rfl, Below.refl _ _⟩
  · obtain ⟨b, o, rfl⟩ := hv.nonnil (by intro h; rw [h] at hz; simp at hz)
    have h0l : 0 < t.length := by omega
    have h1l : t.length - 1 < t.length := by omega
    have hx0 := hf.2 _ (List.getElem_mem h0l)
    have HV := hide hv
    have cells : ∀ w', Strs w' (.slice (some ⟨b, o, none⟩) t.length cap) t → w'.cell? ⟨b, o, none⟩ = some (.string t[0]) ∧ w'.cell? ⟨b, o + (t.length - 1), none⟩ = some (.string t[t.length - 1]) := by
      intro w' h
      obtain ⟨b', o', cap', he, c0⟩ := h.cell h0l
      obtain ⟨b2, o2, cap2, he2, c1⟩ := h.cell h1l
      simp at he he2
      obtain ⟨⟨rfl, rfl⟩, rfl⟩ := he
      obtain ⟨⟨rfl, rfl⟩, rfl⟩ := he2
      exact ⟨c0, c1⟩
    obtain ⟨c0, c1⟩ := cells _ hv
    have HC := hide cells
    clear cells hv
    have F0 := hide (Rf.at_lt h0l)
    have F1 := hide (Rf.at_lt h1l)
    have hx0' : t[0].size ≤ maxLen := by unfold maxLen; omega
    have HE := hide (show Rf.factorS F E C t = if t.length = 1 then Rf.nameB t[0] || Rf.numberB t[0] else if (t[0].toList == [45]) = true then F (t.drop 1) else if (t[0].toList == [40]) = true ∧ (t[t.length - 1].toList == [41]) = true then E ((t.take (t.length - 1)).drop 1) else C t by
      rw [Rf.factorS, if_neg hz, Rf.first, Rf.final, unhide F0, unhide F1])
    clear hx0
    generalize t[0] = x at *
    generalize t[t.length - 1] = y at *
    have hz' : ¬ (t.length : Int) = 0 := by omega
    go_enter Tryz.func217, Tryz.ntmps217
    go_wp2_with fail
    refine (name_ref x _ hx0').mono ?_
    rintro e w1 ⟨rfl, hb1⟩
    have HV1 := hide ((unhide HV).later hb1)
    have HB1 := hide hb1
    obtain ⟨d0, d1⟩ := unhide HC _ (unhide HV1)
    clear hb1 c0 c1
    by_cases h1 : t.length = 1
    · have h1' : (t.length : Int) = 1 := by omega
      rw [if_pos h1] at HE
      go_wp2_with (go_at_call 139; refine (number_ref x _ hx0').mono ?_; rintro e w' ⟨rfl, rfl⟩)
      all_goals
        go_ret
        exact ⟨by rw [unhide HE]; exact ret_bool (by simp_all), unhide HB1⟩
    · have h1' : ¬ (t.length : Int) = 1 := by omega
      rw [if_neg h1] at HE
      cases hm : (x.toList == [45]) with
      | true =>
        rw [if_pos hm] at HE
        go_wp2_with fail
        all_goals
          refine ((unhide HA).1 (by omega) _ _ (by first | exact Strs.gone (by omega) rfl | exact (unhide HV1).drop 1 _ _ rfl (by omega))).mono ?_
          rintro e w2 ⟨rfl, hb2⟩
          have HB2 := hide ((unhide HB1).trans (hb2.mono (B' := w.heap.size) (unhide HB1).size))
          clear hb2
          go_wp2_with fail
          go_ret
          exact ⟨by rw [unhide HE]; first | rfl | exact ret_bool (by simp), unhide HB2⟩
      | false =>
        rw [if_neg (by rw [hm]; decide)] at HE
        by_cases hp : (x.toList == [40]) = true ∧ (y.toList == [41]) = true
        · rw [if_pos hp] at HE
          obtain ⟨p1, p2⟩ := hp
          go_wp2_with fail
          all_goals
            refine ((unhide HA).2.1 (by omega) _ _ (by first | exact (unhide HV1).mid 1 (t.length - 1) _ _ (by omega) rfl (by omega) | exact (unhide HV1).mid 1 (t.length - 1) _ _ (by omega) (by omega) (by omega))).mono ?_
            rintro e w2 ⟨rfl, hb2⟩
            have HB2 := hide ((unhide HB1).trans (hb2.mono (B' := w.heap.size) (unhide HB1).size))
            clear hb2
            go_wp2_with fail
            go_ret
            exact ⟨by rw [unhide HE]; first | rfl | exact ret_bool (by simp), unhide HB2⟩
        · rw [if_neg hp] at HE
          cases p1 : (x.toList == [40])
          · go_wp2_with fail
            refine ((unhide HA).2.2 _ _ (unhide HV1)).mono ?_
            rintro e w2 ⟨rfl, hb2⟩
            have HB2 := hide ((unhide HB1).trans (hb2.mono (B' := w.heap.size) (unhide HB1).size))
            clear hb2
            go_wp2_with fail
            go_ret
            exact ⟨by rw [unhide HE]; first | rfl | exact ret_bool (by simp), unhide HB2⟩
          · have p2 : (y.toList == [41]) = false := by cases h : (y.toList == [41]) with | false => rfl | true => exact absurd ⟨p1, h⟩ hp
            go_wp2_with fail
            refine ((unhide HA).2.2 _ _ (unhide HV1)).mono ?_
            rintro e w2 ⟨rfl, hb2⟩
            have HB2 := hide ((unhide HB1).trans (hb2.mono (B' := w.heap.size) (unhide HB1).size))
            clear hb2
            go_wp2_with fail
            go_ret
            exact ⟨by rw [unhide HE]; first | rfl | exact ret_bool (by simp), unhide HB2⟩
set_option maxHeartbeats 4000000 in
set_option maxRecDepth 100000 in
theorem isCell_step (t : List ByteArray) (hf : Few t) (E : List ByteArray → Bool) (h1 : 4 ≤ t.length → Says 135 E ((t.take (t.length - 1)).drop 2)) : Says 177 (Rf.cellS E) t := by
  intro w v hv
  have hl := hf.1
  have HA := hide h1
  clear h1
  obtain ⟨ad, cap, rfl, hcap⟩ := hv.form
  by_cases hz : t.length < 4
  · have HE := hide (show Rf.cellS E t = false by rw [Rf.cellS, if_pos (Or.inl hz)])
    have hz' : (t.length : Int) < 4 := by omega
    go_enter Tryz.func177, Tryz.ntmps177
    go_wp2_with fail
    go_ret
    exact ⟨by rw [unhide HE]; rfl, Below.refl _ _⟩
  · obtain ⟨b, o, rfl⟩ := hv.nonnil (by intro h; rw [h] at hz; simp at hz)
    have h0l : 0 < t.length := by omega
    have h1l : 1 < t.length := by omega
    have h2l : t.length - 1 < t.length := by omega
    have hx0 := hf.2 _ (List.getElem_mem h0l)
    have HV := hide hv
    have cells : ∀ w', Strs w' (.slice (some ⟨b, o, none⟩) t.length cap) t → w'.cell? ⟨b, o, none⟩ = some (.string t[0]) ∧ w'.cell? ⟨b, o + 1, none⟩ = some (.string t[1]) ∧ w'.cell? ⟨b, o + (t.length - 1), none⟩ = some (.string t[t.length - 1]) := by
      intro w' h
      obtain ⟨b', o', cap', he, c0⟩ := h.cell h0l
      obtain ⟨b2, o2, cap2, he2, c1⟩ := h.cell h1l
      obtain ⟨b3, o3, cap3, he3, c2⟩ := h.cell h2l
      simp at he he2 he3
      obtain ⟨⟨rfl, rfl⟩, rfl⟩ := he
      obtain ⟨⟨rfl, rfl⟩, rfl⟩ := he2
      obtain ⟨⟨rfl, rfl⟩, rfl⟩ := he3
      exact ⟨c0, c1, c2⟩
    obtain ⟨c0, c1, c2⟩ := cells _ hv
    clear cells hv
    have F0 := hide (Rf.at_lt h0l)
    have F1 := hide (Rf.at_lt h1l)
    have F2 := hide (Rf.at_lt h2l)
    have hx0' : t[0].size ≤ maxLen := by unfold maxLen; omega
    have HE := hide (show Rf.cellS E t = if (t[1].toList == [91]) = false ∨ (t[t.length - 1].toList == [93]) = false then false else Rf.nameB t[0] && E ((t.take (t.length - 1)).drop 2) by
      rw [Rf.cellS, Rf.first, Rf.final, unhide F0, unhide F1, unhide F2]
      by_cases h : (t[1].toList == [91]) = false ∨ (t[t.length - 1].toList == [93]) = false
      · rw [if_pos h, if_pos (Or.inr h)]
      · rw [if_neg h, if_neg (by rintro (h' | h'); exact hz h'; exact h h')])
    clear hx0
    generalize t[0] = x at *
    generalize t[1] = z at *
    generalize t[t.length - 1] = y at *
    have hz' : ¬ (t.length : Int) < 4 := by omega
    cases q1 : (z.toList == [91]) with
    | false =>
      rw [if_pos (Or.inl q1)] at HE
      go_enter Tryz.func177, Tryz.ntmps177
      go_wp2_with fail
      go_ret
      exact ⟨by rw [unhide HE]; rfl, Below.refl _ _⟩
    | true =>
      cases q2 : (y.toList == [93]) with
      | false =>
        rw [if_pos (Or.inr q2)] at HE
        go_enter Tryz.func177, Tryz.ntmps177
        go_wp2_with fail
        go_ret
        exact ⟨by rw [unhide HE]; rfl, Below.refl _ _⟩
      | true =>
        rw [if_neg (by simp [q1, q2])] at HE
        go_enter Tryz.func177, Tryz.ntmps177
        go_wp2_with fail
        refine (name_ref x _ hx0').mono ?_
        rintro e w1 ⟨rfl, hb1⟩
        have HV1 := hide ((unhide HV).later hb1)
        have HB1 := hide hb1
        clear hb1 c0 c1 c2
        go_wp2_with fail
        refine (unhide HA (by omega) _ _ (by first | exact (unhide HV1).mid 2 (t.length - 1) _ _ (by omega) rfl (by omega) | exact (unhide HV1).mid 2 (t.length - 1) _ _ (by omega) (by omega) (by omega))).mono ?_
        rintro e w2 ⟨rfl, hb2⟩
        have HB2 := hide ((unhide HB1).trans (hb2.mono (B' := w.heap.size) (unhide HB1).size))
        clear hb2
        go_wp2_with fail
        all_goals
          go_ret
          exact ⟨by rw [unhide HE]; exact ret_bool (by simp_all), unhide HB2⟩
theorem exprs_ref : ∀ (f : Nat) (t : List ByteArray), Few t →
    (5 * t.length + 5 ≤ f → Says 135 (Rf.gr f 0) t) ∧ (5 * t.length + 4 ≤ f → Says 176 (Rf.gr f 1) t) ∧ (5 * t.length + 3 ≤ f → Says 205 (Rf.gr f 2) t) ∧
    (5 * t.length + 2 ≤ f → Says 217 (Rf.gr f 3) t) ∧ (5 * t.length + 1 ≤ f → Says 177 (Rf.gr f 4) t)
  | 0, t, _ => ⟨by omega, by omega, by omega, by omega, by omega⟩
  | f + 1, t, hf => by
    refine ⟨fun h => ?_, fun h => ?_, fun h => ?_, fun h => ?_, fun h => ?_⟩
    · refine isExpr_step t hf (Rf.gr f 1) (fun _ => (exprs_ref f t hf).2.1 (by omega)) (fun k hk => ?_)
      have hlb := Rf.lastTo_b Rf.cmpW t t.length
      have hk' : Rf.lastTo Rf.cmpW t t.length = k := hk
      exact ⟨(exprs_ref f _ (hf.take k)).2.1 (by simp; omega), (exprs_ref f _ (hf.drop (k + 1))).2.1 (by simp; omega)⟩
    · refine isSum_step t hf (Rf.gr f 1) (Rf.gr f 2) (fun _ => (exprs_ref f t hf).2.2.1 (by omega)) (fun k hk => ?_)
      have hlb := Rf.lastTo_b Rf.addW t t.length
      have hk' : Rf.lastTo Rf.addW t t.length = k := hk
      exact ⟨(exprs_ref f _ (hf.take k)).2.1 (by simp; omega), (exprs_ref f _ (hf.drop (k + 1))).2.2.1 (by simp; omega)⟩
    · refine isTerm_step t hf (Rf.gr f 2) (Rf.gr f 3) (fun _ => (exprs_ref f t hf).2.2.2.1 (by omega)) (fun k hk => ?_)
      have hlb := Rf.lastTo_b Rf.divW t t.length
      have hk' : Rf.lastTo Rf.divW t t.length = k := hk
      exact ⟨(exprs_ref f _ (hf.take k)).2.2.1 (by simp; omega), (exprs_ref f _ (hf.drop (k + 1))).2.2.2.1 (by simp; omega)⟩
    · exact isFactor_step t hf (Rf.gr f 3) (Rf.gr f 0) (Rf.gr f 4) (fun _ => (exprs_ref f _ (hf.drop 1)).2.2.2.1 (by simp; omega)) (fun _ => (exprs_ref f _ ((hf.take _).drop 1)).1 (by simp; omega)) ((exprs_ref f t hf).2.2.2.2 (by omega))
    · exact isCell_step t hf (Rf.gr f 0) (fun _ => (exprs_ref f _ ((hf.take _).drop 2)).1 (by simp; omega))
theorem Says.of {fn : Nat} {F G : List ByteArray → Bool} {t : List ByteArray} (h : Says fn F t) (e : G t = F t) : Says fn G t := by
  unfold Says at h ⊢; rw [e]; exact h
theorem isExpr_ref (t : List ByteArray) (hf : Few t) : Says 135 Rf.isExpr t := ((exprs_ref (5 * t.length + 5) t hf).1 (Nat.le_refl _)).of (by unfold Rf.isExpr; rfl)
theorem isCell_ref (t : List ByteArray) (hf : Few t) : Says 177 Rf.isCell t := ((exprs_ref (5 * t.length + 1) t hf).2.2.2.2 (Nat.le_refl _)).of (by unfold Rf.isCell; rfl)
set_option maxHeartbeats 1000000 in
theorem allNames_ref (w : World) (tv : Value) (t : List ByteArray) (ht : Strs w tv t) (hf : Few t) :
    Calls Tryz.prog 134 #[tv] w fun e w' => e = .returned (.bool (Rf.allNames t)) ∧ Below w.heap.size w w' := by
  have hl := hf.1
  obtain ⟨ad, cap, rfl, hcap⟩ := ht.form
  go_enter Tryz.func134, Tryz.ntmps134
  go_wp2
  go_loopw [3] (fun i wr => ∃ k : Nat, k ≤ t.length ∧ i = .int .i64 k ∧ (t.drop k).all Rf.nameB = Rf.allNames t ∧ Strs wr (.slice ad t.length cap) t ∧ Below w.heap.size w wr) (fun i _ => t.length - (intOf i).toNat)
  case atStart => exact ⟨0, Nat.zero_le _, rfl, rfl, ht, Below.refl _ _⟩
  case round =>
    obtain ⟨k, hk, rfl, hT, ht2, hbe⟩ := hrel
    by_cases hlt : k < t.length
    · obtain ⟨b, o, cap', he, cx⟩ := ht2.cell hlt
      simp at he
      obtain ⟨rfl, rfl⟩ := he
      have hx := hf.2 _ (List.getElem_mem hlt)
      rw [List.drop_eq_getElem_cons hlt, List.all_cons] at hT
      have HT := hide hT
      have HX := hide (And.intro ht2 hbe)
      have hx' : t[k].size ≤ maxLen := by unfold maxLen; omega
      have hlt' : (k : Int) < (t.length : Int) := by omega
      clear hT hx ht2 hbe
      generalize t[k] = x at *
      go_wp2_with fail
      refine (name_ref x _ hx').mono ?_
      rintro e w1 ⟨rfl, hb1⟩
      have HB := hide hb1
      clear hb1
      cases hn : Rf.nameB x with
      | true =>
        go_wp2_with fail
        go_roundw
        case rel => exact ⟨k + 1, by omega, by go_num, by have h := unhide HT; rw [hn] at h; simpa using h, (unhide HX).1.later (unhide HB), (unhide HX).2.trans ((unhide HB).mono (unhide HX).2.size)⟩
        case measure => simp [intOf]; omega
      | false =>
        go_wp2_with fail
        go_ret
        exact ⟨by rw [← unhide HT, hn]; rfl, (unhide HX).2.trans ((unhide HB).mono (unhide HX).2.size)⟩
    · have hlt' : ¬ (k : Int) < (t.length : Int) := by omega
      rw [List.drop_eq_nil_of_le (by omega)] at hT
      go_wp2_with fail
      go_ret
      exact ⟨by rw [← hT]; rfl, hbe⟩
set_option maxHeartbeats 1000000 in
theorem behind_ref (w : World) (tv : Value) (t : List ByteArray) (ht : Strs w tv t) (hf : Few t) :
    Calls Tryz.prog 153 #[tv] w fun e w' => e = .returned (.int .i64 (Rf.behind t)) ∧ w' = w := by
  have hl := hf.1
  obtain ⟨ad, cap, rfl, hcap⟩ := ht.form
  have HV := hide ht
  clear ht
  go_enter Tryz.func153, Tryz.ntmps153
  go_wp2
  go_loop [3] (fun i => ∃ k : Nat, k ≤ t.length ∧ i = .int .i64 k ∧ Rf.behindFrom (t.drop k) k = Rf.behind t) (fun i => t.length - (intOf i).toNat)
  case atStart => exact ⟨0, Nat.zero_le _, rfl, rfl⟩
  case round =>
    obtain ⟨k, hk, rfl, hT⟩ := hrel
    by_cases hlt : k < t.length
    · obtain ⟨b, o, cap', he, cx⟩ := (unhide HV).cell hlt
      simp at he
      obtain ⟨rfl, rfl⟩ := he
      rw [Rf.behind_step hlt] at hT
      have HT := hide hT
      have hlt' : (k : Int) < (t.length : Int) := by omega
      clear hT
      generalize t[k] = x at *
      cases hn : (x.toList == [116, 111]) with
      | true =>
        rw [hn, if_pos rfl] at HT
        go_wp2_with fail
        go_ret
        exact ⟨by rw [← unhide HT]; rfl, rfl⟩
      | false =>
        rw [hn, if_neg (by decide)] at HT
        go_wp2_with fail
        go_round
        case rel => exact ⟨k + 1, by omega, by go_num, unhide HT⟩
        case measure => simp [intOf]; omega
    · have hlt' : ¬ (k : Int) < (t.length : Int) := by omega
      rw [List.drop_eq_nil_of_le (by omega)] at hT
      go_wp2_with fail
      go_ret
      exact ⟨by rw [← hT]; rfl, rfl⟩
set_option maxHeartbeats 4000000 in
set_option maxRecDepth 100000 in
theorem isSet_ref (t : List ByteArray) (hf : Few t) : Says 136 Rf.isSet t := by
  intro w v hv
  have hl := hf.1
  have HF := hide hf
  obtain ⟨ad, cap, rfl, hcap⟩ := hv.form
  have HV := hide hv
  have hbb := Rf.behind_b t
  have HE := hide (show Rf.isSet t = if Rf.behind t < 2 then false else if Rf.behind t = 2 then Rf.nameB (Rf.at' t 1) && Rf.isExpr (t.drop 3) else Rf.isCell ((t.take (Rf.behind t)).drop 1) && Rf.isExpr (t.drop (Rf.behind t + 1)) from rfl)
  clear hf
  by_cases h2 : Rf.behind t < 2
  · rw [if_pos h2] at HE
    clear hv
    go_enter Tryz.func136, Tryz.ntmps136
    go_wp2_with (go_at_call 153; refine (behind_ref _ _ t (unhide HV) (unhide HF)).mono ?_; rintro e w' ⟨rfl, rfl⟩)
    go_ret
    exact ⟨by rw [unhide HE]; rfl, Below.refl _ _⟩
  · rw [if_neg h2] at HE
    obtain ⟨b, o, rfl⟩ := hv.nonnil (by intro h; rw [h] at hbb; simp at hbb; rw [h] at h2; omega)
    have h1l : 1 < t.length := by omega
    have hx1 := (unhide HF).2 _ (List.getElem_mem h1l)
    have hx1' : t[1].size ≤ maxLen := by unfold maxLen; omega
    have F1 := hide (Rf.at_lt h1l)
    rw [unhide F1] at HE
    have HC : Hid (∀ w', Strs w' (.slice (some ⟨b, o, none⟩) t.length cap) t → w'.cell? ⟨b, o + 1, none⟩ = some (.string t[1])) := hide (by
      intro w' h
      obtain ⟨b', o', cap', he, c0⟩ := h.cell h1l
      simp at he
      obtain ⟨⟨rfl, rfl⟩, rfl⟩ := he
      exact c0)
    clear hx1 hv
    generalize t[1] = x at *
    have hk : Rf.behind t < t.length := by omega
    clear hbb
    go_enter Tryz.func136, Tryz.ntmps136
    go_wp2_with (go_at_call 153; refine (behind_ref _ _ t (unhide HV) (unhide HF)).mono ?_; rintro e w' ⟨rfl, rfl⟩)
    all_goals
      refine (isExpr_ref _ ((unhide HF).drop (Rf.behind t + 1)) _ _ (by first | exact Strs.gone (by omega) rfl | exact (unhide HV).drop (Rf.behind t + 1) _ _ rfl (by omega))).mono ?_
      rintro e w1 ⟨rfl, hb1⟩
      have HV1 := hide ((unhide HV).later hb1)
      have HB1 := hide hb1
      have cx := unhide HC _ (unhide HV1)
      clear hb1
      by_cases hk2 : Rf.behind t = 2
      · have hk2' : (Rf.behind t : Int) = 2 := by omega
        rw [if_pos hk2] at HE
        go_wp2_with (go_at_call 138; refine (name_ref x _ hx1').mono ?_; rintro e w2 ⟨rfl, hb2⟩; have HB2 := hide ((unhide HB1).trans (hb2.mono (B' := w'.heap.size) (unhide HB1).size)); clear hb2)
        all_goals
          go_ret
          exact ⟨by rw [unhide HE]; exact ret_bool (by simp_all), unhide HB2⟩
      · have hk2' : ¬ (Rf.behind t : Int) = 2 := by omega
        rw [if_neg hk2] at HE
        go_wp2_with fail
        all_goals
          refine (isCell_ref _ (((unhide HF).take (Rf.behind t)).drop 1) _ _ (by first | exact (unhide HV1).mid 1 (Rf.behind t) _ _ (by omega) rfl (by omega) | exact (unhide HV1).mid 1 (Rf.behind t) _ _ (by omega) (by omega) (by omega))).mono ?_
          rintro e w2 ⟨rfl, hb2⟩
          have HB2 := hide ((unhide HB1).trans (hb2.mono (B' := w'.heap.size) (unhide HB1).size))
          clear hb2
          go_wp2_with fail
          all_goals
            go_ret
            exact ⟨by rw [unhide HE]; exact ret_bool (by simp_all), unhide HB2⟩
end Go.Proofs.YthleadfkfnnadaaGreat
