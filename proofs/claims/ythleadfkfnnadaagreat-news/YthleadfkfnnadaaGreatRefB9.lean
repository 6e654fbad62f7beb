/- The document's answer: what a line may be. -/
import Derived.Test.YthleadfkfnnadaaGreatRefB1
namespace Go.Proofs.YthleadfkfnnadaaGreat
open Go.RowKit
set_option maxHeartbeats 8000000 in
set_option maxRecDepth 100000 in
theorem isLine_4 (t : List ByteArray) (hf : Few t) (h0l : 0 < t.length) (e0 : (t[0].toList == [101, 110, 100]) = false) (e1 : (t[0].toList == [101, 108, 115, 101]) = false) (e2 : (t[0].toList == [114, 101, 116, 117, 114, 110]) = false) (e3 : (t[0].toList == [118, 97, 114]) = false) (e4 : (t[0].toList == [114, 101, 97, 100]) = true) : Says 81 Rf.isLine t := by
  intro w v hv
  have hl := hf.1
  have HF := hide hf
  obtain ⟨ad, cap, rfl, hcap⟩ := hv.form
  obtain ⟨b, o, rfl⟩ := hv.nonnil (by intro h; rw [h] at h0l; simp at h0l)
  have hz : ¬ t.length = 0 := by omega
  have HE0 : Rf.isLine t = Rf.isKind t t[0].toList := by rw [Rf.isLine, if_neg hz, Rf.first, Rf.at_lt h0l]
  unfold Rf.isKind at HE0
  rw [e0, if_neg (by decide), e1, if_neg (by decide), e2, if_neg (by decide), e3, if_neg (by decide), e4, if_pos rfl] at HE0
  have HE := hide HE0
  clear HE0
  have HC : Hid (∀ w' j (hj : j < t.length), Strs w' (.slice (some ⟨b, o, none⟩) t.length cap) t → w'.cell? ⟨b, o + j, none⟩ = some (.string t[j])) := hide (by
    intro w' j hj h
    obtain ⟨b', o', cap', he, c0⟩ := h.cell hj
    simp at he
    obtain ⟨⟨rfl, rfl⟩, rfl⟩ := he
    exact c0)
  have HC0 : Hid (∀ w', Strs w' (.slice (some ⟨b, o, none⟩) t.length cap) t → w'.cell? ⟨b, o, none⟩ = some (.string t[0])) := hide (fun w' h => unhide HC w' 0 h0l h)
  have HV := hide hv
  have hz' : ((t.length : Int) == 0) = false := by rw [beq_eq_false_iff_ne]; omega
  clear hv hf
  generalize t[0] = x at *
  go_enter Tryz.func81, Tryz.ntmps81
  go_wp2_with fail
  all_goals
    refine (allNames_ref _ _ (t.drop 1) (by first | exact Strs.gone (by omega) rfl | exact (unhide HV).drop 1 _ _ rfl (by omega)) ((unhide HF).drop 1)).mono ?_
    rintro e w1 ⟨rfl, hb1⟩
    have HV1 := hide ((unhide HV).later hb1)
    have HB1 := hide hb1
    have cx := unhide HC0 _ (unhide HV1)
    clear hb1
    by_cases hn : t.length = 2
    · have hn' : ((t.length : Int) == 2) = true := by rw [beq_iff_eq]; omega
      rw [decide_eq_true hn] at HE
      go_wp2_with fail
      all_goals
        go_ret
        exact ⟨by rw [unhide HE]; exact ret_bool (by simp_all), unhide HB1⟩
    · have hn' : ((t.length : Int) == 2) = false := by rw [beq_eq_false_iff_ne]; omega
      rw [decide_eq_false hn] at HE
      go_wp2_with fail
      all_goals
        go_ret
        exact ⟨by rw [unhide HE]; exact ret_bool (by simp), unhide HB1⟩
set_option maxHeartbeats 8000000 in
set_option maxRecDepth 100000 in
theorem isLine_5 (t : List ByteArray) (hf : Few t) (h0l : 0 < t.length) (e0 : (t[0].toList == [101, 110, 100]) = false) (e1 : (t[0].toList == [101, 108, 115, 101]) = false) (e2 : (t[0].toList == [114, 101, 116, 117, 114, 110]) = false) (e3 : (t[0].toList == [118, 97, 114]) = false) (e4 : (t[0].toList == [114, 101, 97, 100]) = false) (e5 : (t[0].toList == [112, 114, 111, 99]) = true) : Says 81 Rf.isLine t := by
  intro w v hv
  have hl := hf.1
  have HF := hide hf
  obtain ⟨ad, cap, rfl, hcap⟩ := hv.form
  obtain ⟨b, o, rfl⟩ := hv.nonnil (by intro h; rw [h] at h0l; simp at h0l)
  have hz : ¬ t.length = 0 := by omega
  have HE0 : Rf.isLine t = Rf.isKind t t[0].toList := by rw [Rf.isLine, if_neg hz, Rf.first, Rf.at_lt h0l]
  unfold Rf.isKind at HE0
  rw [e0, if_neg (by decide), e1, if_neg (by decide), e2, if_neg (by decide), e3, if_neg (by decide), e4, if_neg (by decide), e5, if_pos rfl] at HE0
  have HE := hide HE0
  clear HE0
  have HC : Hid (∀ w' j (hj : j < t.length), Strs w' (.slice (some ⟨b, o, none⟩) t.length cap) t → w'.cell? ⟨b, o + j, none⟩ = some (.string t[j])) := hide (by
    intro w' j hj h
    obtain ⟨b', o', cap', he, c0⟩ := h.cell hj
    simp at he
    obtain ⟨⟨rfl, rfl⟩, rfl⟩ := he
    exact c0)
  have HC0 : Hid (∀ w', Strs w' (.slice (some ⟨b, o, none⟩) t.length cap) t → w'.cell? ⟨b, o, none⟩ = some (.string t[0])) := hide (fun w' h => unhide HC w' 0 h0l h)
  have HV := hide hv
  have hz' : ((t.length : Int) == 0) = false := by rw [beq_eq_false_iff_ne]; omega
  clear hv hf
  generalize t[0] = x at *
  go_enter Tryz.func81, Tryz.ntmps81
  go_wp2_with fail
  all_goals
    refine (allNames_ref _ _ (t.drop 1) (by first | exact Strs.gone (by omega) rfl | exact (unhide HV).drop 1 _ _ rfl (by omega)) ((unhide HF).drop 1)).mono ?_
    rintro e w1 ⟨rfl, hb1⟩
    have HV1 := hide ((unhide HV).later hb1)
    have HB1 := hide hb1
    have cx := unhide HC0 _ (unhide HV1)
    clear hb1
    by_cases hn : 2 ≤ t.length ∧ t.length ≤ 6
    · obtain ⟨n1, n2⟩ := hn
      rw [decide_eq_true (show 2 ≤ t.length ∧ t.length ≤ 6 from ⟨n1, n2⟩)] at HE
      go_wp2_with fail
      all_goals
        go_ret
        exact ⟨by rw [unhide HE]; exact ret_bool (by simp_all), unhide HB1⟩
    · rw [decide_eq_false hn] at HE
      by_cases n1 : 2 ≤ t.length
      · have n2 : ¬ t.length ≤ 6 := fun h => hn ⟨n1, h⟩
        go_wp2_with fail
        all_goals
          go_ret
          exact ⟨by rw [unhide HE]; exact ret_bool (by simp_all), unhide HB1⟩
      · go_wp2_with fail
        all_goals
          go_ret
          exact ⟨by rw [unhide HE]; exact ret_bool (by simp_all), unhide HB1⟩
set_option maxHeartbeats 8000000 in
set_option maxRecDepth 100000 in
theorem isLine_7 (t : List ByteArray) (hf : Few t) (h0l : 0 < t.length) (e0 : (t[0].toList == [101, 110, 100]) = false) (e1 : (t[0].toList == [101, 108, 115, 101]) = false) (e2 : (t[0].toList == [114, 101, 116, 117, 114, 110]) = false) (e3 : (t[0].toList == [118, 97, 114]) = false) (e4 : (t[0].toList == [114, 101, 97, 100]) = false) (e5 : (t[0].toList == [112, 114, 111, 99]) = false) (e6 : (t[0].toList == [105, 102]) = false) (e7 : (t[0].toList == [119, 104, 105, 108, 101]) = true) : Says 81 Rf.isLine t := by
  intro w v hv
  have hl := hf.1
  have HF := hide hf
  obtain ⟨ad, cap, rfl, hcap⟩ := hv.form
  obtain ⟨b, o, rfl⟩ := hv.nonnil (by intro h; rw [h] at h0l; simp at h0l)
  have hz : ¬ t.length = 0 := by omega
  have HE0 : Rf.isLine t = Rf.isKind t t[0].toList := by rw [Rf.isLine, if_neg hz, Rf.first, Rf.at_lt h0l]
  unfold Rf.isKind at HE0
  rw [e0, if_neg (by decide), e1, if_neg (by decide), e2, if_neg (by decide), e3, if_neg (by decide), e4, if_neg (by decide), e5, if_neg (by decide), e6, if_neg (by decide), e7, if_pos rfl] at HE0
  have HE := hide HE0
  clear HE0
  have HC : Hid (∀ w' j (hj : j < t.length), Strs w' (.slice (some ⟨b, o, none⟩) t.length cap) t → w'.cell? ⟨b, o + j, none⟩ = some (.string t[j])) := hide (by
    intro w' j hj h
    obtain ⟨b', o', cap', he, c0⟩ := h.cell hj
    simp at he
    obtain ⟨⟨rfl, rfl⟩, rfl⟩ := he
    exact c0)
  have HC0 : Hid (∀ w', Strs w' (.slice (some ⟨b, o, none⟩) t.length cap) t → w'.cell? ⟨b, o, none⟩ = some (.string t[0])) := hide (fun w' h => unhide HC w' 0 h0l h)
  have HV := hide hv
  have hz' : ((t.length : Int) == 0) = false := by rw [beq_eq_false_iff_ne]; omega
  clear hv hf
  generalize t[0] = x at *
  go_enter Tryz.func81, Tryz.ntmps81
  go_wp2_with fail
  all_goals
    refine (allNames_ref _ _ (t.drop 1) (by first | exact Strs.gone (by omega) rfl | exact (unhide HV).drop 1 _ _ rfl (by omega)) ((unhide HF).drop 1)).mono ?_
    rintro e w1 ⟨rfl, hb1⟩
    have HV1 := hide ((unhide HV).later hb1)
    have HB1 := hide hb1
    have cx := unhide HC0 _ (unhide HV1)
    clear hb1
    go_wp2_with fail
    all_goals
      refine (isExpr_ref _ ((unhide HF).drop 1) _ _ (by first | exact Strs.gone (by omega) rfl | exact (unhide HV1).drop 1 _ _ rfl (by omega))).mono ?_
      rintro e w2 ⟨rfl, hb2⟩
      have HB2 := hide ((unhide HB1).trans (hb2.mono (B' := w.heap.size) (unhide HB1).size))
      clear hb2
      go_wp2_with fail
      go_ret
      exact ⟨by rw [unhide HE]; first | rfl | exact ret_bool (by simp), unhide HB2⟩
set_option maxHeartbeats 8000000 in
set_option maxRecDepth 100000 in
theorem isLine_8 (t : List ByteArray) (hf : Few t) (h0l : 0 < t.length) (e0 : (t[0].toList == [101, 110, 100]) = false) (e1 : (t[0].toList == [101, 108, 115, 101]) = false) (e2 : (t[0].toList == [114, 101, 116, 117, 114, 110]) = false) (e3 : (t[0].toList == [118, 97, 114]) = false) (e4 : (t[0].toList == [114, 101, 97, 100]) = false) (e5 : (t[0].toList == [112, 114, 111, 99]) = false) (e6 : (t[0].toList == [105, 102]) = false) (e7 : (t[0].toList == [119, 104, 105, 108, 101]) = false) (e8 : (t[0].toList == [112, 114, 105, 110, 116]) = true) : Says 81 Rf.isLine t := by
  intro w v hv
  have hl := hf.1
  have HF := hide hf
  obtain ⟨ad, cap, rfl, hcap⟩ := hv.form
  obtain ⟨b, o, rfl⟩ := hv.nonnil (by intro h; rw [h] at h0l; simp at h0l)
  have hz : ¬ t.length = 0 := by omega
  have HE0 : Rf.isLine t = Rf.isKind t t[0].toList := by rw [Rf.isLine, if_neg hz, Rf.first, Rf.at_lt h0l]
  unfold Rf.isKind at HE0
  rw [e0, if_neg (by decide), e1, if_neg (by decide), e2, if_neg (by decide), e3, if_neg (by decide), e4, if_neg (by decide), e5, if_neg (by decide), e6, if_neg (by decide), e7, if_neg (by decide), e8, if_pos rfl] at HE0
  have HE := hide HE0
  clear HE0
  have HC : Hid (∀ w' j (hj : j < t.length), Strs w' (.slice (some ⟨b, o, none⟩) t.length cap) t → w'.cell? ⟨b, o + j, none⟩ = some (.string t[j])) := hide (by
    intro w' j hj h
    obtain ⟨b', o', cap', he, c0⟩ := h.cell hj
    simp at he
    obtain ⟨⟨rfl, rfl⟩, rfl⟩ := he
    exact c0)
  have HC0 : Hid (∀ w', Strs w' (.slice (some ⟨b, o, none⟩) t.length cap) t → w'.cell? ⟨b, o, none⟩ = some (.string t[0])) := hide (fun w' h => unhide HC w' 0 h0l h)
  have HV := hide hv
  have hz' : ((t.length : Int) == 0) = false := by rw [beq_eq_false_iff_ne]; omega
  clear hv hf
  generalize t[0] = x at *
  go_enter Tryz.func81, Tryz.ntmps81
  go_wp2_with fail
  all_goals
    refine (allNames_ref _ _ (t.drop 1) (by first | exact Strs.gone (by omega) rfl | exact (unhide HV).drop 1 _ _ rfl (by omega)) ((unhide HF).drop 1)).mono ?_
    rintro e w1 ⟨rfl, hb1⟩
    have HV1 := hide ((unhide HV).later hb1)
    have HB1 := hide hb1
    have cx := unhide HC0 _ (unhide HV1)
    clear hb1
    go_wp2_with fail
    all_goals
      refine (isExpr_ref _ ((unhide HF).drop 1) _ _ (by first | exact Strs.gone (by omega) rfl | exact (unhide HV1).drop 1 _ _ rfl (by omega))).mono ?_
      rintro e w2 ⟨rfl, hb2⟩
      have HB2 := hide ((unhide HB1).trans (hb2.mono (B' := w.heap.size) (unhide HB1).size))
      clear hb2
      go_wp2_with fail
      go_ret
      exact ⟨by rw [unhide HE]; first | rfl | exact ret_bool (by simp), unhide HB2⟩
set_option maxHeartbeats 8000000 in
set_option maxRecDepth 100000 in
theorem isLine_9 (t : List ByteArray) (hf : Few t) (h0l : 0 < t.length) (e0 : (t[0].toList == [101, 110, 100]) = false) (e1 : (t[0].toList == [101, 108, 115, 101]) = false) (e2 : (t[0].toList == [114, 101, 116, 117, 114, 110]) = false) (e3 : (t[0].toList == [118, 97, 114]) = false) (e4 : (t[0].toList == [114, 101, 97, 100]) = false) (e5 : (t[0].toList == [112, 114, 111, 99]) = false) (e6 : (t[0].toList == [105, 102]) = false) (e7 : (t[0].toList == [119, 104, 105, 108, 101]) = false) (e8 : (t[0].toList == [112, 114, 105, 110, 116]) = false) (e9 : (t[0].toList == [115, 101, 116]) = true) : Says 81 Rf.isLine t := by
  intro w v hv
  have hl := hf.1
  have HF := hide hf
  obtain ⟨ad, cap, rfl, hcap⟩ := hv.form
  obtain ⟨b, o, rfl⟩ := hv.nonnil (by intro h; rw [h] at h0l; simp at h0l)
  have hz : ¬ t.length = 0 := by omega
  have HE0 : Rf.isLine t = Rf.isKind t t[0].toList := by rw [Rf.isLine, if_neg hz, Rf.first, Rf.at_lt h0l]
  unfold Rf.isKind at HE0
  rw [e0, if_neg (by decide), e1, if_neg (by decide), e2, if_neg (by decide), e3, if_neg (by decide), e4, if_neg (by decide), e5, if_neg (by decide), e6, if_neg (by decide), e7, if_neg (by decide), e8, if_neg (by decide), e9, if_pos rfl] at HE0
  have HE := hide HE0
  clear HE0
  have HC : Hid (∀ w' j (hj : j < t.length), Strs w' (.slice (some ⟨b, o, none⟩) t.length cap) t → w'.cell? ⟨b, o + j, none⟩ = some (.string t[j])) := hide (by
    intro w' j hj h
    obtain ⟨b', o', cap', he, c0⟩ := h.cell hj
    simp at he
    obtain ⟨⟨rfl, rfl⟩, rfl⟩ := he
    exact c0)
  have HC0 : Hid (∀ w', Strs w' (.slice (some ⟨b, o, none⟩) t.length cap) t → w'.cell? ⟨b, o, none⟩ = some (.string t[0])) := hide (fun w' h => unhide HC w' 0 h0l h)
  have HV := hide hv
  have hz' : ((t.length : Int) == 0) = false := by rw [beq_eq_false_iff_ne]; omega
  clear hv hf
  generalize t[0] = x at *
  go_enter Tryz.func81, Tryz.ntmps81
  go_wp2_with fail
  all_goals
    refine (allNames_ref _ _ (t.drop 1) (by first | exact Strs.gone (by omega) rfl | exact (unhide HV).drop 1 _ _ rfl (by omega)) ((unhide HF).drop 1)).mono ?_
    rintro e w1 ⟨rfl, hb1⟩
    have HV1 := hide ((unhide HV).later hb1)
    have HB1 := hide hb1
    have cx := unhide HC0 _ (unhide HV1)
    clear hb1
    go_wp2_with fail
    all_goals
      refine (isSet_ref _ (unhide HF) _ _ (by first | exact unhide HV1 | (subst h; exact unhide HV1))).mono ?_
      rintro e w2 ⟨rfl, hb2⟩
      have HB2 := hide ((unhide HB1).trans (hb2.mono (B' := w.heap.size) (unhide HB1).size))
      clear hb2
      go_wp2_with fail
      go_ret
      exact ⟨by rw [unhide HE]; first | rfl | exact ret_bool (by simp), unhide HB2⟩
set_option maxHeartbeats 8000000 in
set_option maxRecDepth 100000 in
theorem isLine_10 (t : List ByteArray) (hf : Few t) (h0l : 0 < t.length) (e0 : (t[0].toList == [101, 110, 100]) = false) (e1 : (t[0].toList == [101, 108, 115, 101]) = false) (e2 : (t[0].toList == [114, 101, 116, 117, 114, 110]) = false) (e3 : (t[0].toList == [118, 97, 114]) = false) (e4 : (t[0].toList == [114, 101, 97, 100]) = false) (e5 : (t[0].toList == [112, 114, 111, 99]) = false) (e6 : (t[0].toList == [105, 102]) = false) (e7 : (t[0].toList == [119, 104, 105, 108, 101]) = false) (e8 : (t[0].toList == [112, 114, 105, 110, 116]) = false) (e9 : (t[0].toList == [115, 101, 116]) = false) (e10 : (t[0].toList == [99, 97, 108, 108]) = true) : Says 81 Rf.isLine t := by
  intro w v hv
  have hl := hf.1
  have HF := hide hf
  obtain ⟨ad, cap, rfl, hcap⟩ := hv.form
  obtain ⟨b, o, rfl⟩ := hv.nonnil (by intro h; rw [h] at h0l; simp at h0l)
  have hz : ¬ t.length = 0 := by omega
  have HE0 : Rf.isLine t = Rf.isKind t t[0].toList := by rw [Rf.isLine, if_neg hz, Rf.first, Rf.at_lt h0l]
  unfold Rf.isKind at HE0
  rw [e0, if_neg (by decide), e1, if_neg (by decide), e2, if_neg (by decide), e3, if_neg (by decide), e4, if_neg (by decide), e5, if_neg (by decide), e6, if_neg (by decide), e7, if_neg (by decide), e8, if_neg (by decide), e9, if_neg (by decide), e10, if_pos rfl] at HE0
  have HE := hide HE0
  clear HE0
  have HC : Hid (∀ w' j (hj : j < t.length), Strs w' (.slice (some ⟨b, o, none⟩) t.length cap) t → w'.cell? ⟨b, o + j, none⟩ = some (.string t[j])) := hide (by
    intro w' j hj h
    obtain ⟨b', o', cap', he, c0⟩ := h.cell hj
    simp at he
    obtain ⟨⟨rfl, rfl⟩, rfl⟩ := he
    exact c0)
  have HC0 : Hid (∀ w', Strs w' (.slice (some ⟨b, o, none⟩) t.length cap) t → w'.cell? ⟨b, o, none⟩ = some (.string t[0])) := hide (fun w' h => unhide HC w' 0 h0l h)
  have HV := hide hv
  have hz' : ((t.length : Int) == 0) = false := by rw [beq_eq_false_iff_ne]; omega
  clear hv hf
  generalize t[0] = x at *
  go_enter Tryz.func81, Tryz.ntmps81
  go_wp2_with fail
  all_goals
    refine (allNames_ref _ _ (t.drop 1) (by first | exact Strs.gone (by omega) rfl | exact (unhide HV).drop 1 _ _ rfl (by omega)) ((unhide HF).drop 1)).mono ?_
    rintro e w1 ⟨rfl, hb1⟩
    have HV1 := hide ((unhide HV).later hb1)
    have HB1 := hide hb1
    have cx := unhide HC0 _ (unhide HV1)
    clear hb1
    go_wp2_with fail
    all_goals
      refine (isCall_ref _ (unhide HF) _ _ (by first | exact unhide HV1 | (subst h; exact unhide HV1))).mono ?_
      rintro e w2 ⟨rfl, hb2⟩
      have HB2 := hide ((unhide HB1).trans (hb2.mono (B' := w.heap.size) (unhide HB1).size))
      clear hb2
      go_wp2_with fail
      go_ret
      exact ⟨by rw [unhide HE]; first | rfl | exact ret_bool (by simp), unhide HB2⟩
set_option maxHeartbeats 8000000 in
set_option maxRecDepth 100000 in
theorem isLine_11 (t : List ByteArray) (hf : Few t) (h0l : 0 < t.length) (e0 : (t[0].toList == [101, 110, 100]) = false) (e1 : (t[0].toList == [101, 108, 115, 101]) = false) (e2 : (t[0].toList == [114, 101, 116, 117, 114, 110]) = false) (e3 : (t[0].toList == [118, 97, 114]) = false) (e4 : (t[0].toList == [114, 101, 97, 100]) = false) (e5 : (t[0].toList == [112, 114, 111, 99]) = false) (e6 : (t[0].toList == [105, 102]) = false) (e7 : (t[0].toList == [119, 104, 105, 108, 101]) = false) (e8 : (t[0].toList == [112, 114, 105, 110, 116]) = false) (e9 : (t[0].toList == [115, 101, 116]) = false) (e10 : (t[0].toList == [99, 97, 108, 108]) = false) (e11 : (t[0].toList == [97, 114, 114, 97, 121]) = true) : Says 81 Rf.isLine t := by
  intro w v hv
  have hl := hf.1
  have HF := hide hf
  obtain ⟨ad, cap, rfl, hcap⟩ := hv.form
  obtain ⟨b, o, rfl⟩ := hv.nonnil (by intro h; rw [h] at h0l; simp at h0l)
  have hz : ¬ t.length = 0 := by omega
  have HE0 : Rf.isLine t = Rf.isKind t t[0].toList := by rw [Rf.isLine, if_neg hz, Rf.first, Rf.at_lt h0l]
  unfold Rf.isKind at HE0
  rw [e0, if_neg (by decide), e1, if_neg (by decide), e2, if_neg (by decide), e3, if_neg (by decide), e4, if_neg (by decide), e5, if_neg (by decide), e6, if_neg (by decide), e7, if_neg (by decide), e8, if_neg (by decide), e9, if_neg (by decide), e10, if_neg (by decide), e11, if_pos rfl] at HE0
  have HE := hide HE0
  clear HE0
  have HC : Hid (∀ w' j (hj : j < t.length), Strs w' (.slice (some ⟨b, o, none⟩) t.length cap) t → w'.cell? ⟨b, o + j, none⟩ = some (.string t[j])) := hide (by
    intro w' j hj h
    obtain ⟨b', o', cap', he, c0⟩ := h.cell hj
    simp at he
    obtain ⟨⟨rfl, rfl⟩, rfl⟩ := he
    exact c0)
  have HC0 : Hid (∀ w', Strs w' (.slice (some ⟨b, o, none⟩) t.length cap) t → w'.cell? ⟨b, o, none⟩ = some (.string t[0])) := hide (fun w' h => unhide HC w' 0 h0l h)
  have HV := hide hv
  have hz' : ((t.length : Int) == 0) = false := by rw [beq_eq_false_iff_ne]; omega
  clear hv hf
  generalize t[0] = x at *
  go_enter Tryz.func81, Tryz.ntmps81
  go_wp2_with fail
  all_goals
    refine (allNames_ref _ _ (t.drop 1) (by first | exact Strs.gone (by omega) rfl | exact (unhide HV).drop 1 _ _ rfl (by omega)) ((unhide HF).drop 1)).mono ?_
    rintro e w1 ⟨rfl, hb1⟩
    have HV1 := hide ((unhide HV).later hb1)
    have HB1 := hide hb1
    have cx := unhide HC0 _ (unhide HV1)
    clear hb1
    by_cases hn : t.length = 3
    · have hn' : ((t.length : Int) == 3) = true := by rw [beq_iff_eq]; omega
      have l1 : 1 < t.length := by omega
      have l2 : 2 < t.length := by omega
      have HG := hide (show Rf.isLine t = (Rf.nameB t[1] && Rf.numberB t[2] && decide ((1 : Int) ≤ Rf.worth t[2]) && decide (Rf.worth t[2] ≤ (32 : Int))) by rw [unhide HE, Rf.isArray, if_pos hn, Rf.at_lt l1, Rf.at_lt l2])
      have c1 := unhide HC _ 1 l1 (unhide HV1)
      have HC2 := hide (fun w' h => unhide HC w' 2 l2 h)
      have s1 : t[1].size ≤ maxLen := by have := (unhide HF).2 _ (List.getElem_mem l1); unfold maxLen; omega
      have s2 : t[2].size ≤ maxLen := by have := (unhide HF).2 _ (List.getElem_mem l2); unfold maxLen; omega
      clear HE HC
      generalize t[1] = y at *
      generalize t[2] = z at *
      go_wp2_with fail
      refine (name_ref y _ s1).mono ?_
      rintro e w2 ⟨rfl, hb2⟩
      have HB2 := hide ((unhide HB1).trans (hb2.mono (B' := w.heap.size) (unhide HB1).size))
      have c2 := unhide HC2 _ ((unhide HV1).later hb2)
      clear hb2
      cases hy : Rf.nameB y with
      | false =>
        go_wp2_with fail
        all_goals
          go_ret
          exact ⟨by rw [unhide HG, hy]; rfl, unhide HB2⟩
      | true =>
        cases hq : Rf.numberB z with
        | false =>
          go_wp2_with (first | (go_at_call 139; refine (number_ref z _ s2).mono ?_; rintro e w' ⟨rfl, rfl⟩; rw [hq]))
          all_goals
            go_ret
            exact ⟨by rw [unhide HG, hy, hq]; rfl, unhide HB2⟩
        | true =>
          go_wp2_with (first | (go_at_call 139; refine (number_ref z _ s2).mono ?_; rintro e w' ⟨rfl, rfl⟩; rw [hq]) | (go_at_call 93; refine (worth_ref z _ s2).mono ?_; rintro e w' ⟨rfl, rfl⟩))
          all_goals
            go_ret
            exact ⟨by rw [unhide HG, hy, hq]; exact ret_bool (by simp_all <;> omega), unhide HB2⟩
    · have hn' : ((t.length : Int) == 3) = false := by rw [beq_eq_false_iff_ne]; omega
      have HG := hide (show Rf.isLine t = false by rw [unhide HE, Rf.isArray, if_neg hn])
      clear HE
      go_wp2_with fail
      go_ret
      exact ⟨by rw [unhide HG]; rfl, unhide HB1⟩
set_option maxHeartbeats 8000000 in
set_option maxRecDepth 100000 in
theorem isLine_12 (t : List ByteArray) (hf : Few t) (h0l : 0 < t.length) (e0 : (t[0].toList == [101, 110, 100]) = false) (e1 : (t[0].toList == [101, 108, 115, 101]) = false) (e2 : (t[0].toList == [114, 101, 116, 117, 114, 110]) = false) (e3 : (t[0].toList == [118, 97, 114]) = false) (e4 : (t[0].toList == [114, 101, 97, 100]) = false) (e5 : (t[0].toList == [112, 114, 111, 99]) = false) (e6 : (t[0].toList == [105, 102]) = false) (e7 : (t[0].toList == [119, 104, 105, 108, 101]) = false) (e8 : (t[0].toList == [112, 114, 105, 110, 116]) = false) (e9 : (t[0].toList == [115, 101, 116]) = false) (e10 : (t[0].toList == [99, 97, 108, 108]) = false) (e11 : (t[0].toList == [97, 114, 114, 97, 121]) = false) : Says 81 Rf.isLine t := by
  intro w v hv
  have hl := hf.1
  have HF := hide hf
  obtain ⟨ad, cap, rfl, hcap⟩ := hv.form
  obtain ⟨b, o, rfl⟩ := hv.nonnil (by intro h; rw [h] at h0l; simp at h0l)
  have hz : ¬ t.length = 0 := by omega
  have HE0 : Rf.isLine t = Rf.isKind t t[0].toList := by rw [Rf.isLine, if_neg hz, Rf.first, Rf.at_lt h0l]
  unfold Rf.isKind at HE0
  rw [e0, if_neg (by decide), e1, if_neg (by decide), e2, if_neg (by decide), e3, if_neg (by decide), e4, if_neg (by decide), e5, if_neg (by decide), e6, if_neg (by decide), e7, if_neg (by decide), e8, if_neg (by decide), e9, if_neg (by decide), e10, if_neg (by decide), e11, if_neg (by decide)] at HE0
  have HE := hide HE0
  clear HE0
  have HC : Hid (∀ w' j (hj : j < t.length), Strs w' (.slice (some ⟨b, o, none⟩) t.length cap) t → w'.cell? ⟨b, o + j, none⟩ = some (.string t[j])) := hide (by
    intro w' j hj h
    obtain ⟨b', o', cap', he, c0⟩ := h.cell hj
    simp at he
    obtain ⟨⟨rfl, rfl⟩, rfl⟩ := he
    exact c0)
  have HC0 : Hid (∀ w', Strs w' (.slice (some ⟨b, o, none⟩) t.length cap) t → w'.cell? ⟨b, o, none⟩ = some (.string t[0])) := hide (fun w' h => unhide HC w' 0 h0l h)
  have HV := hide hv
  have hz' : ((t.length : Int) == 0) = false := by rw [beq_eq_false_iff_ne]; omega
  clear hv hf
  generalize t[0] = x at *
  go_enter Tryz.func81, Tryz.ntmps81
  go_wp2_with fail
  all_goals
    refine (allNames_ref _ _ (t.drop 1) (by first | exact Strs.gone (by omega) rfl | exact (unhide HV).drop 1 _ _ rfl (by omega)) ((unhide HF).drop 1)).mono ?_
    rintro e w1 ⟨rfl, hb1⟩
    have HV1 := hide ((unhide HV).later hb1)
    have HB1 := hide hb1
    have cx := unhide HC0 _ (unhide HV1)
    clear hb1
    go_wp2_with fail
    go_ret
    exact ⟨by rw [unhide HE]; rfl, unhide HB1⟩
set_option maxHeartbeats 400000 in
theorem isLine_ref (t : List ByteArray) (hf : Few t) : Says 81 Rf.isLine t := by
  by_cases h0 : 0 < t.length
  · by_cases e0 : (t[0].toList == [101, 110, 100]) = true
    · exact isLine_0 t hf h0  e0
    replace e0 := Bool.eq_false_iff.mpr e0
    by_cases e1 : (t[0].toList == [101, 108, 115, 101]) = true
    · exact isLine_1 t hf h0 e0 e1
    replace e1 := Bool.eq_false_iff.mpr e1
    by_cases e2 : (t[0].toList == [114, 101, 116, 117, 114, 110]) = true
    · exact isLine_2 t hf h0 e0 e1 e2
    replace e2 := Bool.eq_false_iff.mpr e2
    by_cases e3 : (t[0].toList == [118, 97, 114]) = true
    · exact isLine_3 t hf h0 e0 e1 e2 e3
    replace e3 := Bool.eq_false_iff.mpr e3
    by_cases e4 : (t[0].toList == [114, 101, 97, 100]) = true
    · exact isLine_4 t hf h0 e0 e1 e2 e3 e4
    replace e4 := Bool.eq_false_iff.mpr e4
    by_cases e5 : (t[0].toList == [112, 114, 111, 99]) = true
    · exact isLine_5 t hf h0 e0 e1 e2 e3 e4 e5
    replace e5 := Bool.eq_false_iff.mpr e5
    by_cases e6 : (t[0].toList == [105, 102]) = true
    · exact isLine_6 t hf h0 e0 e1 e2 e3 e4 e5 e6
    replace e6 := Bool.eq_false_iff.mpr e6
    by_cases e7 : (t[0].toList == [119, 104, 105, 108, 101]) = true
    · exact isLine_7 t hf h0 e0 e1 e2 e3 e4 e5 e6 e7
    replace e7 := Bool.eq_false_iff.mpr e7
    by_cases e8 : (t[0].toList == [112, 114, 105, 110, 116]) = true
    · exact isLine_8 t hf h0 e0 e1 e2 e3 e4 e5 e6 e7 e8
    replace e8 := Bool.eq_false_iff.mpr e8
    by_cases e9 : (t[0].toList == [115, 101, 116]) = true
    · exact isLine_9 t hf h0 e0 e1 e2 e3 e4 e5 e6 e7 e8 e9
    replace e9 := Bool.eq_false_iff.mpr e9
    by_cases e10 : (t[0].toList == [99, 97, 108, 108]) = true
    · exact isLine_10 t hf h0 e0 e1 e2 e3 e4 e5 e6 e7 e8 e9 e10
    replace e10 := Bool.eq_false_iff.mpr e10
    by_cases e11 : (t[0].toList == [97, 114, 114, 97, 121]) = true
    · exact isLine_11 t hf h0 e0 e1 e2 e3 e4 e5 e6 e7 e8 e9 e10 e11
    replace e11 := Bool.eq_false_iff.mpr e11
    exact isLine_12 t hf h0 e0 e1 e2 e3 e4 e5 e6 e7 e8 e9 e10 e11
  · intro w v hv
    have hl := hf.1
    obtain ⟨ad, cap, rfl, hcap⟩ := hv.form
    have hz : t.length = 0 := by omega
    have HE := hide (show Rf.isLine t = true by rw [Rf.isLine, if_pos hz])
    have hz' : ((t.length : Int) == 0) = true := by rw [beq_iff_eq]; omega
    go_enter Tryz.func81, Tryz.ntmps81
    go_wp2_with fail
    go_ret
    exact ⟨by rw [unhide HE]; rfl, Below.refl _ _⟩
end Go.Proofs.YthleadfkfnnadaaGreat
