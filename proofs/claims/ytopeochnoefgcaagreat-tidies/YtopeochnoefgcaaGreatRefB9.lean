/- The document's answer: what a line may be. -/
import Derived.Test.YtopeochnoefgcaaGreatRefB1
import Derived.Test.YtopeochnoefgcaaGreatRefB2
import Derived.Test.YtopeochnoefgcaaGreatRefB3
namespace Go.Proofs.YtopeochnoefgcaaGreat
open Go.RowKit

set_option maxHeartbeats 400000 in
theorem isLine_ref (t : List ByteArray) (hf : Few t) : Says 83 Rf.isLine t := by
  by_cases h0 : 0 < t.length
  · by_cases e0 : (t[0].toList == [101, 110, 100]) = true
    · exact isLine_0 t hf h0  e0
    replace e0 := Bool.eq_false_iff.mpr e0
    by_cases e1 : (t[0].toList == [101, 108, 115, 101]) = true
    · exact isLine_1 t hf h0 e0 e1
    replace e1 := Bool.eq_false_iff.mpr e1
    by_cases e2 : (t[0].toList == [114, 101, 116, 117, 114, 110]) = true
    · exact isLine_2 t hf h0 e0 e1 e2
    replace e2 := Bool.eq_false_iff.mpr e2
    by_cases e3 : (t[0].toList == [118, 97, 114]) = true
    · exact isLine_3 t hf h0 e0 e1 e2 e3
    replace e3 := Bool.eq_false_iff.mpr e3
    by_cases e4 : (t[0].toList == [114, 101, 97, 100]) = true
    · exact isLine_4 t hf h0 e0 e1 e2 e3 e4
    replace e4 := Bool.eq_false_iff.mpr e4
    by_cases e5 : (t[0].toList == [112, 114, 111, 99]) = true
    · exact isLine_5 t hf h0 e0 e1 e2 e3 e4 e5
    replace e5 := Bool.eq_false_iff.mpr e5
    by_cases e6 : (t[0].toList == [105, 102]) = true
    · exact isLine_6 t hf h0 e0 e1 e2 e3 e4 e5 e6
    replace e6 := Bool.eq_false_iff.mpr e6
    by_cases e7 : (t[0].toList == [119, 104, 105, 108, 101]) = true
    · exact isLine_7 t hf h0 e0 e1 e2 e3 e4 e5 e6 e7
    replace e7 := Bool.eq_false_iff.mpr e7
    by_cases e8 : (t[0].toList == [112, 114, 105, 110, 116]) = true
    · exact isLine_8 t hf h0 e0 e1 e2 e3 e4 e5 e6 e7 e8
    replace e8 := Bool.eq_false_iff.mpr e8
    by_cases e9 : (t[0].toList == [115, 101, 116]) = true
    · exact isLine_9 t hf h0 e0 e1 e2 e3 e4 e5 e6 e7 e8 e9
    replace e9 := Bool.eq_false_iff.mpr e9
    by_cases e10 : (t[0].toList == [99, 97, 108, 108]) = true
    · exact isLine_10 t hf h0 e0 e1 e2 e3 e4 e5 e6 e7 e8 e9 e10
    replace e10 := Bool.eq_false_iff.mpr e10
    by_cases e11 : (t[0].toList == [97, 114, 114, 97, 121]) = true
    · exact isLine_11 t hf h0 e0 e1 e2 e3 e4 e5 e6 e7 e8 e9 e10 e11
    replace e11 := Bool.eq_false_iff.mpr e11
    exact isLine_12 t hf h0 e0 e1 e2 e3 e4 e5 e6 e7 e8 e9 e10 e11
  · intro w v hv
    have hl := hf.1
    obtain ⟨ad, cap, rfl, hcap⟩ := hv.form
    have hz : t.length = 0 := by omega
    have HE := hide (show Rf.isLine t = true by rw [Rf.isLine, if_pos hz])
    have hz' : ((t.length : Int) == 0) = true := by rw [beq_iff_eq]; omega
    go_enter Tryz.func83, Tryz.ntmps83
    go_wp2_with fail
    go_ret
    exact ⟨by rw [unhide HE]; rfl, Below.refl _ _⟩

end Go.Proofs.YtopeochnoefgcaaGreat

