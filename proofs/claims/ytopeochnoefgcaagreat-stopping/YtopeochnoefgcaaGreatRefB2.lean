/- The document's answer: what a line may be, by its first word. -/
import Derived.Test.YtopeochnoefgcaaGreatRef9
namespace Go.Proofs.YtopeochnoefgcaaGreat
open Go.RowKit

set_option maxHeartbeats 8000000 in
set_option maxRecDepth 100000 in
theorem isLine_4 (t : List ByteArray) (hf : Few t) (h0l : 0 < t.length) (e0 : (t[0].toList == [101, 110, 100]) = false) (e1 : (t[0].toList == [101, 108, 115, 101]) = false) (e2 : (t[0].toList == [114, 101, 116, 117, 114, 110]) = false) (e3 : (t[0].toList == [118, 97, 114]) = false) (e4 : (t[0].toList == [114, 101, 97, 100]) = true) : Says 83 Rf.isLine t := by
  intro w v hv
  have hl := hf.1
  have HF := hide hf
  obtain ⟨ad, cap, rfl, hcap⟩ := hv.form
  obtain ⟨b, o, rfl⟩ := hv.nonnil (by intro h; rw [h] at h0l; simp at h0l)
  have hz : ¬ t.length = 0 := by omega
  have HE0 : Rf.isLine t = Rf.isKind t t[0].toList := by rw [Rf.isLine, if_neg hz, Rf.first, Rf.at_lt h0l]
  unfold Rf.isKind at HE0
  rw [e0, if_neg (by decide), e1, if_neg (by decide), e2, if_neg (by decide), e3, if_neg (by decide), e4, if_pos rfl] at HE0
  have HE := hide HE0
  clear HE0
  have HC : Hid (∀ w' j (hj : j < t.length), Strs w' (.slice (some ⟨b, o, none⟩) t.length cap) t → w'.cell? ⟨b, o + j, none⟩ = some (.string t[j])) := hide (by
    intro w' j hj h
    obtain ⟨b', o', cap', he, c0⟩ := h.cell hj
    simp at he
    obtain ⟨⟨rfl, rfl⟩, rfl⟩ := he
    exact c0)
  have HC0 : Hid (∀ w', Strs w' (.slice (some ⟨b, o, none⟩) t.length cap) t → w'.cell? ⟨b, o, none⟩ = some (.string t[0])) := hide (fun w' h => unhide HC w' 0 h0l h)
  have HV := hide hv
  have hz' : ((t.length : Int) == 0) = false := by rw [beq_eq_false_iff_ne]; omega
  clear hv hf
  generalize t[0] = x at *
  go_enter Tryz.func83, Tryz.ntmps83
  go_wp2_with fail
  all_goals
    refine (allNames_ref _ _ (t.drop 1) (by first | exact Strs.gone (by omega) rfl | exact (unhide HV).drop 1 _ _ rfl (by omega)) ((unhide HF).drop 1)).mono ?_
    rintro e w1 ⟨rfl, hb1⟩
    have HV1 := hide ((unhide HV).later hb1)
    have HB1 := hide hb1
    have cx := unhide HC0 _ (unhide HV1)
    clear hb1
    by_cases hn : t.length = 2
    · have hn' : ((t.length : Int) == 2) = true := by rw [beq_iff_eq]; omega
      rw [decide_eq_true hn] at HE
      go_wp2_with fail
      all_goals
        go_ret
        exact ⟨by rw [unhide HE]; exact ret_bool (by simp_all), unhide HB1⟩
    · have hn' : ((t.length : Int) == 2) = false := by rw [beq_eq_false_iff_ne]; omega
      rw [decide_eq_false hn] at HE
      go_wp2_with fail
      all_goals
        go_ret
        exact ⟨by rw [unhide HE]; exact ret_bool (by simp), unhide HB1⟩

set_option maxHeartbeats 8000000 in
set_option maxRecDepth 100000 in
theorem isLine_5 (t : List ByteArray) (hf : Few t) (h0l : 0 < t.length) (e0 : (t[0].toList == [101, 110, 100]) = false) (e1 : (t[0].toList == [101, 108, 115, 101]) = false) (e2 : (t[0].toList == [114, 101, 116, 117, 114, 110]) = false) (e3 : (t[0].toList == [118, 97, 114]) = false) (e4 : (t[0].toList == [114, 101, 97, 100]) = false) (e5 : (t[0].toList == [112, 114, 111, 99]) = true) : Says 83 Rf.isLine t := by
  intro w v hv
  have hl := hf.1
  have HF := hide hf
  obtain ⟨ad, cap, rfl, hcap⟩ := hv.form
  obtain ⟨b, o, rfl⟩ := hv.nonnil (by intro h; rw [h] at h0l; simp at h0l)
  have hz : ¬ t.length = 0 := by omega
  have HE0 : Rf.isLine t = Rf.isKind t t[0].toList := by rw [Rf.isLine, if_neg hz, Rf.first, Rf.at_lt h0l]
  unfold Rf.isKind at HE0
  rw [e0, if_neg (by decide), e1, if_neg (by decide), e2, if_neg (by decide), e3, if_neg (by decide), e4, if_neg (by decide), e5, if_pos rfl] at HE0
  have HE := hide HE0
  clear HE0
  have HC : Hid (∀ w' j (hj : j < t.length), Strs w' (.slice (some ⟨b, o, none⟩) t.length cap) t → w'.cell? ⟨b, o + j, none⟩ = some (.string t[j])) := hide (by
    intro w' j hj h
    obtain ⟨b', o', cap', he, c0⟩ := h.cell hj
    simp at he
    obtain ⟨⟨rfl, rfl⟩, rfl⟩ := he
    exact c0)
  have HC0 : Hid (∀ w', Strs w' (.slice (some ⟨b, o, none⟩) t.length cap) t → w'.cell? ⟨b, o, none⟩ = some (.string t[0])) := hide (fun w' h => unhide HC w' 0 h0l h)
  have HV := hide hv
  have hz' : ((t.length : Int) == 0) = false := by rw [beq_eq_false_iff_ne]; omega
  clear hv hf
  generalize t[0] = x at *
  go_enter Tryz.func83, Tryz.ntmps83
  go_wp2_with fail
  all_goals
    refine (allNames_ref _ _ (t.drop 1) (by first | exact Strs.gone (by omega) rfl | exact (unhide HV).drop 1 _ _ rfl (by omega)) ((unhide HF).drop 1)).mono ?_
    rintro e w1 ⟨rfl, hb1⟩
    have HV1 := hide ((unhide HV).later hb1)
    have HB1 := hide hb1
    have cx := unhide HC0 _ (unhide HV1)
    clear hb1
    by_cases hn : 2 ≤ t.length ∧ t.length ≤ 6
    · obtain ⟨n1, n2⟩ := hn
      rw [decide_eq_true (show 2 ≤ t.length ∧ t.length ≤ 6 from ⟨n1, n2⟩)] at HE
      go_wp2_with fail
      all_goals
        go_ret
        exact ⟨by rw [unhide HE]; exact ret_bool (by simp_all), unhide HB1⟩
    · rw [decide_eq_false hn] at HE
      by_cases n1 : 2 ≤ t.length
      · have n2 : ¬ t.length ≤ 6 := fun h => hn ⟨n1, h⟩
        go_wp2_with fail
        all_goals
          go_ret
          exact ⟨by rw [unhide HE]; exact ret_bool (by simp_all), unhide HB1⟩
      · go_wp2_with fail
        all_goals
          go_ret
          exact ⟨by rw [unhide HE]; exact ret_bool (by simp_all), unhide HB1⟩

set_option maxHeartbeats 8000000 in
set_option maxRecDepth 100000 in
theorem isLine_7 (t : List ByteArray) (hf : Few t) (h0l : 0 < t.length) (e0 : (t[0].toList == [101, 110, 100]) = false) (e1 : (t[0].toList == [101, 108, 115, 101]) = false) (e2 : (t[0].toList == [114, 101, 116, 117, 114, 110]) = false) (e3 : (t[0].toList == [118, 97, 114]) = false) (e4 : (t[0].toList == [114, 101, 97, 100]) = false) (e5 : (t[0].toList == [112, 114, 111, 99]) = false) (e6 : (t[0].toList == [105, 102]) = false) (e7 : (t[0].toList == [119, 104, 105, 108, 101]) = true) : Says 83 Rf.isLine t := by
  intro w v hv
  have hl := hf.1
  have HF := hide hf
  obtain ⟨ad, cap, rfl, hcap⟩ := hv.form
  obtain ⟨b, o, rfl⟩ := hv.nonnil (by intro h; rw [h] at h0l; simp at h0l)
  have hz : ¬ t.length = 0 := by omega
  have HE0 : Rf.isLine t = Rf.isKind t t[0].toList := by rw [Rf.isLine, if_neg hz, Rf.first, Rf.at_lt h0l]
  unfold Rf.isKind at HE0
  rw [e0, if_neg (by decide), e1, if_neg (by decide), e2, if_neg (by decide), e3, if_neg (by decide), e4, if_neg (by decide), e5, if_neg (by decide), e6, if_neg (by decide), e7, if_pos rfl] at HE0
  have HE := hide HE0
  clear HE0
  have HC : Hid (∀ w' j (hj : j < t.length), Strs w' (.slice (some ⟨b, o, none⟩) t.length cap) t → w'.cell? ⟨b, o + j, none⟩ = some (.string t[j])) := hide (by
    intro w' j hj h
    obtain ⟨b', o', cap', he, c0⟩ := h.cell hj
    simp at he
    obtain ⟨⟨rfl, rfl⟩, rfl⟩ := he
    exact c0)
  have HC0 : Hid (∀ w', Strs w' (.slice (some ⟨b, o, none⟩) t.length cap) t → w'.cell? ⟨b, o, none⟩ = some (.string t[0])) := hide (fun w' h => unhide HC w' 0 h0l h)
  have HV := hide hv
  have hz' : ((t.length : Int) == 0) = false := by rw [beq_eq_false_iff_ne]; omega
  clear hv hf
  generalize t[0] = x at *
  go_enter Tryz.func83, Tryz.ntmps83
  go_wp2_with fail
  all_goals
    refine (allNames_ref _ _ (t.drop 1) (by first | exact Strs.gone (by omega) rfl | exact (unhide HV).drop 1 _ _ rfl (by omega)) ((unhide HF).drop 1)).mono ?_
    rintro e w1 ⟨rfl, hb1⟩
    have HV1 := hide ((unhide HV).later hb1)
    have HB1 := hide hb1
    have cx := unhide HC0 _ (unhide HV1)
    clear hb1
    go_wp2_with fail
    all_goals
      refine (isExpr_ref _ ((unhide HF).drop 1) _ _ (by first | exact Strs.gone (by omega) rfl | exact (unhide HV1).drop 1 _ _ rfl (by omega))).mono ?_
      rintro e w2 ⟨rfl, hb2⟩
      have HB2 := hide ((unhide HB1).trans (hb2.mono (B' := w.heap.size) (unhide HB1).size))
      clear hb2
      go_wp2_with fail
      go_ret
      exact ⟨by rw [unhide HE]; first | rfl | exact ret_bool (by simp), unhide HB2⟩

set_option maxHeartbeats 8000000 in
set_option maxRecDepth 100000 in
theorem isLine_8 (t : List ByteArray) (hf : Few t) (h0l : 0 < t.length) (e0 : (t[0].toList == [101, 110, 100]) = false) (e1 : (t[0].toList == [101, 108, 115, 101]) = false) (e2 : (t[0].toList == [114, 101, 116, 117, 114, 110]) = false) (e3 : (t[0].toList == [118, 97, 114]) = false) (e4 : (t[0].toList == [114, 101, 97, 100]) = false) (e5 : (t[0].toList == [112, 114, 111, 99]) = false) (e6 : (t[0].toList == [105, 102]) = false) (e7 : (t[0].toList == [119, 104, 105, 108, 101]) = false) (e8 : (t[0].toList == [112, 114, 105, 110, 116]) = true) : Says 83 Rf.isLine t := by
  intro w v hv
  have hl := hf.1
  have HF := hide hf
  obtain ⟨ad, cap, rfl, hcap⟩ := hv.form
  obtain ⟨b, o, rfl⟩ := hv.nonnil (by intro h; rw [h] at h0l; simp at h0l)
  have hz : ¬ t.length = 0 := by omega
  have HE0 : Rf.isLine t = Rf.isKind t t[0].toList := by rw [Rf.isLine, if_neg hz, Rf.first, Rf.at_lt h0l]
  unfold Rf.isKind at HE0
  rw [e0, if_neg (by decide), e1, if_neg (by decide), e2, if_neg (by decide), e3, if_neg (by decide), e4, if_neg (by decide), e5, if_neg (by decide), e6, if_neg (by decide), e7, if_neg (by decide), e8, if_pos rfl] at HE0
  have HE := hide HE0
  clear HE0
  have HC : Hid (∀ w' j (hj : j < t.length), Strs w' (.slice (some ⟨b, o, none⟩) t.length cap) t → w'.cell? ⟨b, o + j, none⟩ = some (.string t[j])) := hide (by
    intro w' j hj h
    obtain ⟨b', o', cap', he, c0⟩ := h.cell hj
    simp at he
    obtain ⟨⟨rfl, rfl⟩, rfl⟩ := he
    exact c0)
  have HC0 : Hid (∀ w', Strs w' (.slice (some ⟨b, o, none⟩) t.length cap) t → w'.cell? ⟨b, o, none⟩ = some (.string t[0])) := hide (fun w' h => unhide HC w' 0 h0l h)
  have HV := hide hv
  have hz' : ((t.length : Int) == 0) = false := by rw [beq_eq_false_iff_ne]; omega
  clear hv hf
  generalize t[0] = x at *
  go_enter Tryz.func83, Tryz.ntmps83
  go_wp2_with fail
  all_goals
    refine (allNames_ref _ _ (t.drop 1) (by first | exact Strs.gone (by omega) rfl | exact (unhide HV).drop 1 _ _ rfl (by omega)) ((unhide HF).drop 1)).mono ?_
    rintro e w1 ⟨rfl, hb1⟩
    have HV1 := hide ((unhide HV).later hb1)
    have HB1 := hide hb1
    have cx := unhide HC0 _ (unhide HV1)
    clear hb1
    go_wp2_with fail
    all_goals
      refine (isExpr_ref _ ((unhide HF).drop 1) _ _ (by first | exact Strs.gone (by omega) rfl | exact (unhide HV1).drop 1 _ _ rfl (by omega))).mono ?_
      rintro e w2 ⟨rfl, hb2⟩
      have HB2 := hide ((unhide HB1).trans (hb2.mono (B' := w.heap.size) (unhide HB1).size))
      clear hb2
      go_wp2_with fail
      go_ret
      exact ⟨by rw [unhide HE]; first | rfl | exact ret_bool (by simp), unhide HB2⟩

end Go.Proofs.YtopeochnoefgcaaGreat

