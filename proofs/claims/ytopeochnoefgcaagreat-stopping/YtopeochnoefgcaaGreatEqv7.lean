/- Facts about sources that have been read by the document's answer. -/
import Derived.Test.YtopeochnoefgcaaGreatBase
namespace Go.Proofs.YtopeochnoefgcaaGreat
namespace Rf

theorem isLine_pos {t : List ByteArray} (h : 0 < t.length) : isLine t = isKind t (first t).toList := by rw [isLine, if_neg (by omega)]
theorem first_empty {t : List ByteArray} (h : t.length = 0) : (first t).toList = [] := by
  have : t = [] := List.eq_nil_of_length_eq_zero h
  subst this
  simp [first, at']
theorem top_two {t : List ByteArray} (h : isLine t = true) (ht : topB t = true) : 2 ≤ t.length := by
  have hp : 0 < t.length := by
    by_cases h0 : 0 < t.length
    · exact h0
    · have := first_empty (t := t) (by omega)
      simp [topB, this] at ht
  rw [isLine_pos hp] at h
  unfold topB at ht
  simp only [Bool.or_eq_true, beq_iff_eq] at ht
  rcases ht with (ht | ht) | ht
  · rw [ht] at h
    simp [isKind] at h
    omega
  · rw [ht] at h
    simp [isKind, isArray] at h
    omega
  · rw [ht] at h
    simp [isKind] at h
    omega
theorem call_two {t : List ByteArray} (h : isLine t = true) (ht : ((first t).toList == [99, 97, 108, 108]) = true) : 2 ≤ t.length := by
  rw [beq_iff_eq] at ht
  have hp : 0 < t.length := by
    by_cases h0 : 0 < t.length
    · exact h0
    · have := first_empty (t := t) (by omega)
      rw [this] at ht
      cases ht
  rw [isLine_pos hp, ht] at h
  simp [isKind, isCall] at h
  exact h.1

end Rf
end Go.Proofs.YtopeochnoefgcaaGreat

