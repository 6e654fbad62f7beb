/- The document's answer: what a line may be, by its first word. -/
import Derived.Test.YtopeochnoefgcaaGreatRef9
namespace Go.Proofs.YtopeochnoefgcaaGreat
open Go.RowKit

set_option maxHeartbeats 8000000 in
set_option maxRecDepth 100000 in
theorem isLine_9 (t : List ByteArray) (hf : Few t) (h0l : 0 < t.length) (e0 : (t[0].toList == [101, 110, 100]) = false) (e1 : (t[0].toList == [101, 108, 115, 101]) = false) (e2 : (t[0].toList == [114, 101, 116, 117, 114, 110]) = false) (e3 : (t[0].toList == [118, 97, 114]) = false) (e4 : (t[0].toList == [114, 101, 97, 100]) = false) (e5 : (t[0].toList == [112, 114, 111, 99]) = false) (e6 : (t[0].toList == [105, 102]) = false) (e7 : (t[0].toList == [119, 104, 105, 108, 101]) = false) (e8 : (t[0].toList == [112, 114, 105, 110, 116]) = false) (e9 : (t[0].toList == [115, 101, 116]) = true) : Says 83 Rf.isLine t := by
  intro w v hv
  have hl := hf.1
  have HF := hide hf
  obtain ⟨ad, cap, rfl, hcap⟩ := hv.form
  obtain ⟨b, o, rfl⟩ := hv.nonnil (by intro h; rw [h] at h0l; simp at h0l)
  have hz : ¬ t.length = 0 := by omega
  have HE0 : Rf.isLine t = Rf.isKind t t[0].toList := by rw [Rf.isLine, if_neg hz, Rf.first, Rf.at_lt h0l]
  unfold Rf.isKind at HE0
  rw [e0, if_neg (by decide), e1, if_neg (by decide), e2, if_neg (by decide), e3, if_neg (by decide), e4, if_neg (by decide), e5, if_neg (by decide), e6, if_neg (by decide), e7, if_neg (by decide), e8, if_neg (by decide), e9, if_pos rfl] at HE0
  have HE := hide HE0
  clear HE0
  have HC : Hid (∀ w' j (hj : j < t.length), Strs w' (.slice (some ⟨b, o, none⟩) t.length cap) t → w'.cell? ⟨b, o + j, none⟩ = some (.string t[j])) := hide (by
    intro w' j hj h
    obtain ⟨b', o', cap', he, c0⟩ := h.cell hj
    simp at he
    obtain ⟨⟨rfl, rfl⟩, rfl⟩ := he
    exact c0)
  have HC0 : Hid (∀ w', Strs w' (.slice (some ⟨b, o, none⟩) t.length cap) t → w'.cell? ⟨b, o, none⟩ = some (.string t[0])) := hide (fun w' h => unhide HC w' 0 h0l h)
  have HV := hide hv
  have hz' : ((t.length : Int) == 0) = false := by rw [beq_eq_false_iff_ne]; omega
  clear hv hf
  generalize t[0] = x at *
  go_enter Tryz.func83, Tryz.ntmps83
  go_wp2_with fail
  all_goals
    refine (allNames_ref _ _ (t.drop 1) (by first | exact Strs.gone (by omega) rfl | exact (unhide HV).drop 1 _ _ rfl (by omega)) ((unhide HF).drop 1)).mono ?_
    rintro e w1 ⟨rfl, hb1⟩
    have HV1 := hide ((unhide HV).later hb1)
    have HB1 := hide hb1
    have cx := unhide HC0 _ (unhide HV1)
    clear hb1
    go_wp2_with fail
    all_goals
      refine (isSet_ref _ (unhide HF) _ _ (by first | exact unhide HV1 | (subst h; exact unhide HV1))).mono ?_
      rintro e w2 ⟨rfl, hb2⟩
      have HB2 := hide ((unhide HB1).trans (hb2.mono (B' := w.heap.size) (unhide HB1).size))
      clear hb2
      go_wp2_with fail
      go_ret
      exact ⟨by rw [unhide HE]; first | rfl | exact ret_bool (by simp), unhide HB2⟩

end Go.Proofs.YtopeochnoefgcaaGreat

namespace Go.Proofs.YtopeochnoefgcaaGreat
open Go.RowKit

set_option maxHeartbeats 8000000 in
set_option maxRecDepth 100000 in
theorem isLine_10 (t : List ByteArray) (hf : Few t) (h0l : 0 < t.length) (e0 : (t[0].toList == [101, 110, 100]) = false) (e1 : (t[0].toList == [101, 108, 115, 101]) = false) (e2 : (t[0].toList == [114, 101, 116, 117, 114, 110]) = false) (e3 : (t[0].toList == [118, 97, 114]) = false) (e4 : (t[0].toList == [114, 101, 97, 100]) = false) (e5 : (t[0].toList == [112, 114, 111, 99]) = false) (e6 : (t[0].toList == [105, 102]) = false) (e7 : (t[0].toList == [119, 104, 105, 108, 101]) = false) (e8 : (t[0].toList == [112, 114, 105, 110, 116]) = false) (e9 : (t[0].toList == [115, 101, 116]) = false) (e10 : (t[0].toList == [99, 97, 108, 108]) = true) : Says 83 Rf.isLine t := by
  intro w v hv
  have hl := hf.1
  have HF := hide hf
  obtain ⟨ad, cap, rfl, hcap⟩ := hv.form
  obtain ⟨b, o, rfl⟩ := hv.nonnil (by intro h; rw [h] at h0l; simp at h0l)
  have hz : ¬ t.length = 0 := by omega
  have HE0 : Rf.isLine t = Rf.isKind t t[0].toList := by rw [Rf.isLine, if_neg hz, Rf.first, Rf.at_lt h0l]
  unfold Rf.isKind at HE0
  rw [e0, if_neg (by decide), e1, if_neg (by decide), e2, if_neg (by decide), e3, if_neg (by decide), e4, if_neg (by decide), e5, if_neg (by decide), e6, if_neg (by decide), e7, if_neg (by decide), e8, if_neg (by decide), e9, if_neg (by decide), e10, if_pos rfl] at HE0
  have HE := hide HE0
  clear HE0
  have HC : Hid (∀ w' j (hj : j < t.length), Strs w' (.slice (some ⟨b, o, none⟩) t.length cap) t → w'.cell? ⟨b, o + j, none⟩ = some (.string t[j])) := hide (by
    intro w' j hj h
    obtain ⟨b', o', cap', he, c0⟩ := h.cell hj
    simp at he
    obtain ⟨⟨rfl, rfl⟩, rfl⟩ := he
    exact c0)
  have HC0 : Hid (∀ w', Strs w' (.slice (some ⟨b, o, none⟩) t.length cap) t → w'.cell? ⟨b, o, none⟩ = some (.string t[0])) := hide (fun w' h => unhide HC w' 0 h0l h)
  have HV := hide hv
  have hz' : ((t.length : Int) == 0) = false := by rw [beq_eq_false_iff_ne]; omega
  clear hv hf
  generalize t[0] = x at *
  go_enter Tryz.func83, Tryz.ntmps83
  go_wp2_with fail
  all_goals
    refine (allNames_ref _ _ (t.drop 1) (by first | exact Strs.gone (by omega) rfl | exact (unhide HV).drop 1 _ _ rfl (by omega)) ((unhide HF).drop 1)).mono ?_
    rintro e w1 ⟨rfl, hb1⟩
    have HV1 := hide ((unhide HV).later hb1)
    have HB1 := hide hb1
    have cx := unhide HC0 _ (unhide HV1)
    clear hb1
    go_wp2_with fail
    all_goals
      refine (isCall_ref _ (unhide HF) _ _ (by first | exact unhide HV1 | (subst h; exact unhide HV1))).mono ?_
      rintro e w2 ⟨rfl, hb2⟩
      have HB2 := hide ((unhide HB1).trans (hb2.mono (B' := w.heap.size) (unhide HB1).size))
      clear hb2
      go_wp2_with fail
      go_ret
      exact ⟨by rw [unhide HE]; first | rfl | exact ret_bool (by simp), unhide HB2⟩

end Go.Proofs.YtopeochnoefgcaaGreat

namespace Go.Proofs.YtopeochnoefgcaaGreat
open Go.RowKit

set_option maxHeartbeats 8000000 in
set_option maxRecDepth 100000 in
theorem isLine_11 (t : List ByteArray) (hf : Few t) (h0l : 0 < t.length) (e0 : (t[0].toList == [101, 110, 100]) = false) (e1 : (t[0].toList == [101, 108, 115, 101]) = false) (e2 : (t[0].toList == [114, 101, 116, 117, 114, 110]) = false) (e3 : (t[0].toList == [118, 97, 114]) = false) (e4 : (t[0].toList == [114, 101, 97, 100]) = false) (e5 : (t[0].toList == [112, 114, 111, 99]) = false) (e6 : (t[0].toList == [105, 102]) = false) (e7 : (t[0].toList == [119, 104, 105, 108, 101]) = false) (e8 : (t[0].toList == [112, 114, 105, 110, 116]) = false) (e9 : (t[0].toList == [115, 101, 116]) = false) (e10 : (t[0].toList == [99, 97, 108, 108]) = false) (e11 : (t[0].toList == [97, 114, 114, 97, 121]) = true) : Says 83 Rf.isLine t := by
  intro w v hv
  have hl := hf.1
  have HF := hide hf
  obtain ⟨ad, cap, rfl, hcap⟩ := hv.form
  obtain ⟨b, o, rfl⟩ := hv.nonnil (by intro h; rw [h] at h0l; simp at h0l)
  have hz : ¬ t.length = 0 := by omega
  have HE0 : Rf.isLine t = Rf.isKind t t[0].toList := by rw [Rf.isLine, if_neg hz, Rf.first, Rf.at_lt h0l]
  unfold Rf.isKind at HE0
  rw [e0, if_neg (by decide), e1, if_neg (by decide), e2, if_neg (by decide), e3, if_neg (by decide), e4, if_neg (by decide), e5, if_neg (by decide), e6, if_neg (by decide), e7, if_neg (by decide), e8, if_neg (by decide), e9, if_neg (by decide), e10, if_neg (by decide), e11, if_pos rfl] at HE0
  have HE := hide HE0
  clear HE0
  have HC : Hid (∀ w' j (hj : j < t.length), Strs w' (.slice (some ⟨b, o, none⟩) t.length cap) t → w'.cell? ⟨b, o + j, none⟩ = some (.string t[j])) := hide (by
    intro w' j hj h
    obtain ⟨b', o', cap', he, c0⟩ := h.cell hj
    simp at he
    obtain ⟨⟨rfl, rfl⟩, rfl⟩ := he
    exact c0)
  have HC0 : Hid (∀ w', Strs w' (.slice (some ⟨b, o, none⟩) t.length cap) t → w'.cell? ⟨b, o, none⟩ = some (.string t[0])) := hide (fun w' h => unhide HC w' 0 h0l h)
  have HV := hide hv
  have hz' : ((t.length : Int) == 0) = false := by rw [beq_eq_false_iff_ne]; omega
  clear hv hf
  generalize t[0] = x at *
  go_enter Tryz.func83, Tryz.ntmps83
  go_wp2_with fail
  all_goals
    refine (allNames_ref _ _ (t.drop 1) (by first | exact Strs.gone (by omega) rfl | exact (unhide HV).drop 1 _ _ rfl (by omega)) ((unhide HF).drop 1)).mono ?_
    rintro e w1 ⟨rfl, hb1⟩
    have HV1 := hide ((unhide HV).later hb1)
    have HB1 := hide hb1
    have cx := unhide HC0 _ (unhide HV1)
    clear hb1
    by_cases hn : t.length = 3
    · have hn' : ((t.length : Int) == 3) = true := by rw [beq_iff_eq]; omega
      have l1 : 1 < t.length := by omega
      have l2 : 2 < t.length := by omega
      have HG := hide (show Rf.isLine t = (Rf.nameB t[1] && Rf.numberB t[2] && decide ((1 : Int) ≤ Rf.worth t[2]) && decide (Rf.worth t[2] ≤ (32 : Int))) by rw [unhide HE, Rf.isArray, if_pos hn, Rf.at_lt l1, Rf.at_lt l2])
      have c1 := unhide HC _ 1 l1 (unhide HV1)
      have HC2 := hide (fun w' h => unhide HC w' 2 l2 h)
      have s1 : t[1].size ≤ maxLen := by have := (unhide HF).2 _ (List.getElem_mem l1); unfold maxLen; omega
      have s2 : t[2].size ≤ maxLen := by have := (unhide HF).2 _ (List.getElem_mem l2); unfold maxLen; omega
      clear HE HC
      generalize t[1] = y at *
      generalize t[2] = z at *
      go_wp2_with fail
      refine (name_ref y _ s1).mono ?_
      rintro e w2 ⟨rfl, hb2⟩
      have HB2 := hide ((unhide HB1).trans (hb2.mono (B' := w.heap.size) (unhide HB1).size))
      have c2 := unhide HC2 _ ((unhide HV1).later hb2)
      clear hb2
      cases hy : Rf.nameB y with
      | false =>
        go_wp2_with fail
        all_goals
          go_ret
          exact ⟨by rw [unhide HG, hy]; rfl, unhide HB2⟩
      | true =>
        cases hq : Rf.numberB z with
        | false =>
          go_wp2_with (first | (go_at_call 141; refine (number_ref z _ s2).mono ?_; rintro e w' ⟨rfl, rfl⟩; rw [hq]))
          all_goals
            go_ret
            exact ⟨by rw [unhide HG, hy, hq]; rfl, unhide HB2⟩
        | true =>
          go_wp2_with (first | (go_at_call 141; refine (number_ref z _ s2).mono ?_; rintro e w' ⟨rfl, rfl⟩; rw [hq]) | (go_at_call 95; refine (worth_ref z _ s2).mono ?_; rintro e w' ⟨rfl, rfl⟩))
          all_goals
            go_ret
            exact ⟨by rw [unhide HG, hy, hq]; exact ret_bool (by simp_all <;> omega), unhide HB2⟩
    · have hn' : ((t.length : Int) == 3) = false := by rw [beq_eq_false_iff_ne]; omega
      have HG := hide (show Rf.isLine t = false by rw [unhide HE, Rf.isArray, if_neg hn])
      clear HE
      go_wp2_with fail
      go_ret
      exact ⟨by rw [unhide HG]; rfl, unhide HB1⟩

set_option maxHeartbeats 8000000 in
set_option maxRecDepth 100000 in
theorem isLine_12 (t : List ByteArray) (hf : Few t) (h0l : 0 < t.length) (e0 : (t[0].toList == [101, 110, 100]) = false) (e1 : (t[0].toList == [101, 108, 115, 101]) = false) (e2 : (t[0].toList == [114, 101, 116, 117, 114, 110]) = false) (e3 : (t[0].toList == [118, 97, 114]) = false) (e4 : (t[0].toList == [114, 101, 97, 100]) = false) (e5 : (t[0].toList == [112, 114, 111, 99]) = false) (e6 : (t[0].toList == [105, 102]) = false) (e7 : (t[0].toList == [119, 104, 105, 108, 101]) = false) (e8 : (t[0].toList == [112, 114, 105, 110, 116]) = false) (e9 : (t[0].toList == [115, 101, 116]) = false) (e10 : (t[0].toList == [99, 97, 108, 108]) = false) (e11 : (t[0].toList == [97, 114, 114, 97, 121]) = false) : Says 83 Rf.isLine t := by
  intro w v hv
  have hl := hf.1
  have HF := hide hf
  obtain ⟨ad, cap, rfl, hcap⟩ := hv.form
  obtain ⟨b, o, rfl⟩ := hv.nonnil (by intro h; rw [h] at h0l; simp at h0l)
  have hz : ¬ t.length = 0 := by omega
  have HE0 : Rf.isLine t = Rf.isKind t t[0].toList := by rw [Rf.isLine, if_neg hz, Rf.first, Rf.at_lt h0l]
  unfold Rf.isKind at HE0
  rw [e0, if_neg (by decide), e1, if_neg (by decide), e2, if_neg (by decide), e3, if_neg (by decide), e4, if_neg (by decide), e5, if_neg (by decide), e6, if_neg (by decide), e7, if_neg (by decide), e8, if_neg (by decide), e9, if_neg (by decide), e10, if_neg (by decide), e11, if_neg (by decide)] at HE0
  have HE := hide HE0
  clear HE0
  have HC : Hid (∀ w' j (hj : j < t.length), Strs w' (.slice (some ⟨b, o, none⟩) t.length cap) t → w'.cell? ⟨b, o + j, none⟩ = some (.string t[j])) := hide (by
    intro w' j hj h
    obtain ⟨b', o', cap', he, c0⟩ := h.cell hj
    simp at he
    obtain ⟨⟨rfl, rfl⟩, rfl⟩ := he
    exact c0)
  have HC0 : Hid (∀ w', Strs w' (.slice (some ⟨b, o, none⟩) t.length cap) t → w'.cell? ⟨b, o, none⟩ = some (.string t[0])) := hide (fun w' h => unhide HC w' 0 h0l h)
  have HV := hide hv
  have hz' : ((t.length : Int) == 0) = false := by rw [beq_eq_false_iff_ne]; omega
  clear hv hf
  generalize t[0] = x at *
  go_enter Tryz.func83, Tryz.ntmps83
  go_wp2_with fail
  all_goals
    refine (allNames_ref _ _ (t.drop 1) (by first | exact Strs.gone (by omega) rfl | exact (unhide HV).drop 1 _ _ rfl (by omega)) ((unhide HF).drop 1)).mono ?_
    rintro e w1 ⟨rfl, hb1⟩
    have HV1 := hide ((unhide HV).later hb1)
    have HB1 := hide hb1
    have cx := unhide HC0 _ (unhide HV1)
    clear hb1
    go_wp2_with fail
    go_ret
    exact ⟨by rw [unhide HE]; rfl, unhide HB1⟩

end Go.Proofs.YtopeochnoefgcaaGreat

