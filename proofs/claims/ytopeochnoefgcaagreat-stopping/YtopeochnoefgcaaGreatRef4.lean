/- The document's answer: the last sign between two operands. -/
import Derived.Test.YtopeochnoefgcaaGreatRef3
namespace Go.Proofs.YtopeochnoefgcaaGreat
open Go.RowKit


theorem Strs.form {w : World} {v : Value} {xs : List ByteArray} (h : Strs w v xs) : ∃ ad cap, v = .slice ad xs.length cap ∧ xs.length ≤ cap := by
  obtain ⟨ad, cap, h1, h2, _⟩ := h; exact ⟨ad, cap, h1, h2⟩
theorem Strs.cell {w : World} {v : Value} {xs : List ByteArray} (h : Strs w v xs) {j : Nat} (hj : j < xs.length) : ∃ b o cap, v = .slice (some ⟨b, o, none⟩) xs.length cap ∧ w.cell? ⟨b, o + j, none⟩ = some (.string xs[j]) := by
  obtain ⟨ad, cap, h1, h2, h⟩ := h
  rcases h with rfl | ⟨b, o, rfl, h⟩
  · simp at hj
  · exact ⟨b, o, cap, h1, h j hj⟩

set_option maxHeartbeats 4000000 in
set_option maxRecDepth 100000 in
theorem last_ref (w : World) (tv sv : Value) (t sg : List ByteArray) (ht : Strs w tv t) (hsg : Strs w sv sg) (hl : t.length ≤ 1000) (hl2 : sg.length ≤ 100) (hsz : ∀ x ∈ t, x.size ≤ 40000) :
    Calls Tryz.prog 176 #[tv, sv] w fun e w' => e = .returned (.int .i64 (Rf.last sg t)) ∧ Below w.heap.size w w' := by
  obtain ⟨ad, cap, rfl, hcap⟩ := ht.form
  obtain ⟨ad2, cap2, rfl, hcap2⟩ := hsg.form
  go_enter Tryz.func176, Tryz.ntmps176
  go_wp2
  go_loopw [5, 6, 7] (fun a d i wr => ∃ k : Nat, k ≤ t.length ∧ i = .int .i64 k ∧ a = .int .i64 (Rf.lastTo sg t k) ∧ d = .int .i64 (Rf.depth t k) ∧ Strs wr (.slice ad t.length cap) t ∧ Strs wr (.slice ad2 sg.length cap2) sg ∧ Below w.heap.size w wr)
    (fun _ _ i _ => t.length - (intOf i).toNat)
  case atStart => exact ⟨0, Nat.zero_le _, rfl, rfl, rfl, ht, hsg, Below.refl _ _⟩
  case round =>
    obtain ⟨k, hk, rfl, rfl, rfl, ht2, hs2, hbe⟩ := hrel
    by_cases hlt : k < t.length
    · obtain ⟨b, o, cap', he, cx⟩ := ht2.cell hlt
      simp at he
      obtain ⟨rfl, rfl⟩ := he
      have hdb := Rf.depth_b t k
      have hD : Rf.depth t (k + 1) = Rf.depth t k + Rf.dch t[k] := by rw [Rf.depth, Rf.at_lt hlt]
      have HD := hide hD
      have HL := hide (show Rf.lastTo sg t (k + 1) = if Rf.inB sg t[k] = true ∧ Rf.depth t (k + 1) = 0 ∧ 0 < k ∧ Rf.opdB (Rf.at' t (k - 1)) = true then (k : Int) else Rf.lastTo sg t k by rw [Rf.lastTo, Rf.at_lt hlt])
      have HX := hide (And.intro ht2 (And.intro hs2 hbe))
      have hlt' : (k : Int) < (t.length : Int) := by omega
      clear hD
      generalize hx : t[k] = x at *
      generalize Rf.depth t k = d at *
      generalize Rf.lastTo sg t k = a at *
      by_cases hk0 : 0 < k
      · have hk1 : k - 1 < t.length := by omega
        obtain ⟨b', o', cap'', he, cy⟩ := (unhide HX).1.cell hk1
        simp at he
        obtain ⟨⟨rfl, rfl⟩, rfl⟩ := he
        have hy := hsz _ (List.getElem_mem hk1)
        have HY := hide (Rf.at_lt hk1)
        have hy2 : t[k - 1].size ≤ maxLen := by unfold maxLen; omega
        clear hy
        generalize t[k - 1] = y at *
        rcases Rf.dch_cases x with ⟨h1, hd⟩ | ⟨h1, h2, hd⟩ | ⟨h1, h2, h3, hd⟩ | ⟨h1, h2, h3, h4, hd⟩ | ⟨h1, h2, h3, h4, hd⟩
        all_goals
          rw [hd] at HD
          clear hd
          go_wp2_with (first | (go_at_call 134; refine (in_any _ _ _ x (unhide HX).2.1 (by omega)).mono ?_; rintro e w1 ⟨rfl, rfl⟩) | (go_at_call 205; refine (operand_ref y _ hy2).mono ?_; rintro e w2 ⟨rfl, hb2⟩; have HB2 := hide hb2; clear hb2))
        all_goals
          go_roundw
          case rel =>
            refine ⟨k + 1, by omega, by go_num, congrArg _ ?_, congrArg _ ?_, ?_, ?_, ?_⟩
            · first
              | (rw [unhide HL, if_pos ⟨by assumption, by rw [unhide HD]; omega, by omega, by rw [unhide HY]; assumption⟩])
              | (rw [unhide HL, if_neg (by rintro ⟨q1, q2, q3, q4⟩; rw [unhide HD] at q2; first | contradiction | omega | (rw [unhide HY, ‹Rf.opdB y = false›] at q4; exact absurd q4 (by decide)))])
            · have := unhide HD; omega
            · first | exact (unhide HX).1 | exact (unhide HX).1.later (unhide HB2)
            · first | exact (unhide HX).2.1 | exact (unhide HX).2.1.later (unhide HB2)
            · first | exact (unhide HX).2.2 | exact (unhide HX).2.2.trans ((unhide HB2).mono (unhide HX).2.2.size)
          case measure => simp [intOf]; omega
      · rcases Rf.dch_cases x with ⟨h1, hd⟩ | ⟨h1, h2, hd⟩ | ⟨h1, h2, h3, hd⟩ | ⟨h1, h2, h3, h4, hd⟩ | ⟨h1, h2, h3, h4, hd⟩
        all_goals
          rw [hd] at HD
          clear hd
          go_wp2_with (first | (go_at_call 134; refine (in_any _ _ _ x (unhide HX).2.1 (by omega)).mono ?_; rintro e w1 ⟨rfl, rfl⟩))
        all_goals
          go_roundw
          case rel =>
            refine ⟨k + 1, by omega, by go_num, congrArg _ ?_, congrArg _ ?_, ?_, ?_, ?_⟩
            · first
              | (rw [unhide HL, if_pos ⟨by assumption, by rw [unhide HD]; omega, by omega, by rw [unhide HY]; assumption⟩])
              | (rw [unhide HL, if_neg (by rintro ⟨q1, q2, q3, q4⟩; rw [unhide HD] at q2; first | contradiction | omega | (rw [unhide HY, ‹Rf.opdB y = false›] at q4; exact absurd q4 (by decide)))])
            · have := unhide HD; omega
            · first | exact (unhide HX).1 | exact (unhide HX).1.later (unhide HB2)
            · first | exact (unhide HX).2.1 | exact (unhide HX).2.1.later (unhide HB2)
            · first | exact (unhide HX).2.2 | exact (unhide HX).2.2.trans ((unhide HB2).mono (unhide HX).2.2.size)
          case measure => simp [intOf]; omega
    · have hlt' : ¬ (k : Int) < (t.length : Int) := by omega
      have hkk : k = t.length := by omega
      subst hkk
      go_wp2_with fail
      go_ret
      exact ⟨rfl, hbe⟩

end Go.Proofs.YtopeochnoefgcaaGreat

