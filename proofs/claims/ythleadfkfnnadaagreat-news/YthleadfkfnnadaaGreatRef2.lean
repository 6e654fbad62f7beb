/- The document's answer: runs of letters or digits, tokens, lines. -/
import Derived.Deep.QuietTactic
import Derived.BigQuiet
import Derived.Deep.RegionHeld3
import Derived.Deep.AppendLies
import Derived.Deep.DrawnRows
import Derived.Deep.RegionLaw
import Derived.Deep.LoopGhost
import Derived.Test.YthleadfkfnnadaaGreatRfDefs
namespace Go.Proofs.YthleadfkfnnadaaGreat
open Go.RowKit
def Strs (w : World) (v : Value) (xs : List ByteArray) : Prop :=
  ∃ ad cap, v = .slice ad xs.length cap ∧ xs.length ≤ cap ∧ (xs = [] ∨ ∃ b o, ad = some ⟨b, o, none⟩ ∧ ∀ j (h : j < xs.length), w.cell? ⟨b, o + j, none⟩ = some (.string xs[j]))
theorem Strs.later {w w' : World} {v : Value} {xs : List ByteArray} (h : Strs w v xs) (hb : Below w.heap.size w w') : Strs w' v xs := by
  obtain ⟨ad, cap, rfl, hc, h⟩ := h
  refine ⟨ad, cap, rfl, hc, ?_⟩
  rcases h with h | ⟨b, o, rfl, h⟩
  · exact Or.inl h
  · exact Or.inr ⟨b, o, rfl, fun j hj => cell_later hb (h j hj)⟩
theorem strs_own {w : World} {B : Nat} {v : Value} {xs : List ByteArray} (h : w.ownsRow B 9 1 v xs.length (xs.map Value.string)) : Strs w v xs := by
  have h0 := h
  rcases h.2 with ⟨rfl, hn⟩ | ⟨g, cap, cur, rfl, _, hh, hn, _⟩
  · have : xs = [] := List.eq_nil_of_length_eq_zero hn
    subst this
    exact ⟨none, 0, rfl, Nat.le_refl _, Or.inl rfl⟩
  · refine ⟨_, cap, rfl, hn, ?_⟩
    by_cases hx : xs = []
    · exact Or.inl hx
    · refine Or.inr ⟨g, 0, rfl, fun j hj => ?_⟩
      obtain ⟨g', c', he, _, _, hc⟩ := own_cell h0 (j := j) (u := .string xs[j]) (by simp [hj])
      simp at he
      rw [Nat.zero_add, he.1]
      exact hc
set_option maxHeartbeats 400000 in
theorem letter_any (b : Int) (w : World) : Calls Tryz.prog 130 #[.int .u8 b] w fun e w' => e = .returned (.bool (Rf.letterB b)) ∧ w' = w := by
  go_enter Tryz.func130, Tryz.ntmps130
  go_wp2
  all_goals (go_ret; exact ⟨ret_bool (by simp_all [Rf.letterB] <;> omega), rfl⟩)
set_option maxHeartbeats 400000 in
theorem digit_any (b : Int) (w : World) : Calls Tryz.prog 131 #[.int .u8 b] w fun e w' => e = .returned (.bool (Rf.digitB b)) ∧ w' = w := by
  go_enter Tryz.func131, Tryz.ntmps131
  go_wp2
  all_goals (go_ret; exact ⟨ret_bool (by simp_all [Rf.digitB] <;> omega), rfl⟩)
set_option maxHeartbeats 1000000 in
theorem in_any (w : World) (v : Value) (xs : List ByteArray) (x : ByteArray) (h : Strs w v xs) (hl : xs.length ≤ 100000) :
    Calls Tryz.prog 132 #[v, .string x] w fun e w' => e = .returned (.bool (Rf.inB xs x)) ∧ w' = w := by
  obtain ⟨ad, cap, rfl, _, h⟩ := h
  have HH := hide h
  clear h
  go_enter Tryz.func132, Tryz.ntmps132
  go_wp2
  go_loop [5] (fun i => ∃ k : Nat, k ≤ xs.length ∧ i = .int .i64 k ∧ (xs.drop k).any (fun y => decide (y = x)) = Rf.inB xs x) (fun i => xs.length - (intOf i).toNat)
  case atStart => exact ⟨0, Nat.zero_le _, rfl, rfl⟩
  case round =>
    obtain ⟨k, hk, rfl, hT⟩ := hrel
    have HT := hide hT
    clear hT
    by_cases hlt : k < xs.length
    · rcases unhide HH with h | ⟨b, o, rfl, h⟩
      · rw [h] at hlt; simp at hlt
      have cx := h k hlt
      have hlt' : (k : Int) < (xs.length : Int) := by omega
      clear h
      by_cases hx : xs[k] = x
      · have HE := hide (par_hit (unhide HT) hlt hx)
        have hx' := Rt.str_same hx
        clear hx
        go_wp2
        go_ret
        exact ⟨by rw [unhide HE]; rfl, rfl⟩
      · have HE := hide (par_miss (unhide HT) hlt hx)
        have hx' := Rt.str_ne hx
        clear hx
        go_wp2
        go_round
        case rel => exact ⟨k + 1, by omega, by go_num, unhide HE⟩
        case measure => simp [intOf]; omega
    · have HE := hide (par_end (unhide HT) hlt)
      have hlt' : ¬ (k : Int) < (xs.length : Int) := by omega
      go_wp2
      go_ret
      exact ⟨by rw [unhide HE]; rfl, rfl⟩
set_option maxHeartbeats 1000000 in
theorem reserved_ref (w : World) : Calls Tryz.prog 178 #[] w fun e w' => ∃ v, e = .returned v ∧ Strs w' v Rf.resvW ∧ Below w.heap.size w w' := by
  go_enter Tryz.func178, Tryz.ntmps178
  go_wp2
  go_ret
  exact ⟨_, rfl, strs_own (World.ownsRow_lit (base := 0) w (Rf.resvW.map Value.string).toArray 13 (Nat.zero_le _) (by unfold maxLen; omega) rfl), (Below.refl _ _).alloc (Nat.le_refl _) _⟩
set_option maxHeartbeats 1000000 in
theorem signs_ref (w : World) : Calls Tryz.prog 133 #[] w fun e w' => ∃ v, e = .returned v ∧ Strs w' v Rf.signW ∧ Below w.heap.size w w' := by
  go_enter Tryz.func133, Tryz.ntmps133
  go_wp2
  go_ret
  exact ⟨_, rfl, strs_own (World.ownsRow_lit (base := 0) w (Rf.signW.map Value.string).toArray 12 (Nat.zero_le _) (by unfold maxLen; omega) rfl), (Below.refl _ _).alloc (Nat.le_refl _) _⟩
set_option maxHeartbeats 1000000 in
theorem name_ref (x : ByteArray) (w : World) (hs : x.size ≤ maxLen) : Calls Tryz.prog 138 #[.string x] w fun e w' => e = .returned (.bool (Rf.nameB x)) ∧ Below w.heap.size w w' := by
  unfold maxLen at hs
  go_enter Tryz.func138, Tryz.ntmps138
  go_wp2_with fail
  refine (reserved_ref _).mono ?_
  rintro e w1 ⟨v, rfl, hv, hb1⟩
  go_wp2_with fail
  refine (in_any _ _ _ x hv (by decide)).mono ?_
  rintro e w2 ⟨rfl, rfl⟩
  have HB := hide hb1
  clear hb1 hv
  by_cases hz : 0 < x.size
  · have hz' : (0 : Int) < (x.size : Int) := by omega
    have HE := hide (show Rf.nameB x = (Rf.letterB (x[0].toNat : Int) && !Rf.inB Rf.resvW x) by simp [Rf.nameB, hz, Rt.byteAt])
    go_wp2_with (go_at_call 130; refine (letter_any _ _).mono ?_; rintro e w' ⟨rfl, rfl⟩)
    all_goals
      go_ret
      exact ⟨by rw [unhide HE]; exact ret_bool (by simp_all), unhide HB⟩
  · have hz' : ¬ (0 : Int) < (x.size : Int) := by omega
    have HE := hide (show Rf.nameB x = false by simp [Rf.nameB, hz])
    go_wp2_with fail
    go_ret
    exact ⟨by rw [unhide HE]; rfl, unhide HB⟩
set_option maxHeartbeats 1000000 in
theorem number_ref (x : ByteArray) (w : World) (hs : x.size ≤ maxLen) : Calls Tryz.prog 139 #[.string x] w fun e w' => e = .returned (.bool (Rf.numberB x)) ∧ w' = w := by
  unfold maxLen at hs
  by_cases hz : 0 < x.size
  · have hz' : (0 : Int) < (x.size : Int) := by omega
    have HE := hide (show Rf.numberB x = Rf.digitB (x[0].toNat : Int) by simp [Rf.numberB, hz, Rt.byteAt])
    go_enter Tryz.func139, Tryz.ntmps139
    go_wp2_with (go_at_call 131; refine (digit_any _ _).mono ?_; rintro e w' ⟨rfl, rfl⟩)
    go_ret
    exact ⟨by rw [unhide HE]; first | rfl | simp, rfl⟩
  · have hz' : ¬ (0 : Int) < (x.size : Int) := by omega
    have HE := hide (show Rf.numberB x = false by simp [Rf.numberB, hz])
    go_enter Tryz.func139, Tryz.ntmps139
    go_wp2_with fail
    go_ret
    exact ⟨by rw [unhide HE]; rfl, rfl⟩
set_option maxHeartbeats 1000000 in
theorem worth_ref (s : ByteArray) (w : World) (hs : s.size ≤ maxLen) :
    Calls Tryz.prog 93 #[.string s] w fun e w' => e = .returned (.int .i64 (Rf.worth s)) ∧ w' = w := by
  unfold maxLen at hs
  go_enter Tryz.func93, Tryz.ntmps93
  go_wp2
  go_loop [3, 4] (fun v i => ∃ k : Nat, k ≤ s.size ∧ i = .int .i64 k ∧ v = .int .i64 (Rf.worthTo s k)) (fun _ i => s.size - (intOf i).toNat)
  case atStart => exact ⟨0, Nat.zero_le _, rfl, rfl⟩
  case round =>
    obtain ⟨k, hk, rfl, rfl⟩ := hrel
    by_cases hlt : k < s.size
    · have HB : Hid (Rt.byteAt s k = (s[k].toNat : Int)) := Rt.byteAt_lt hlt
      go_wp2
      go_round
      case rel => exact ⟨k + 1, by omega, by go_num, by rw [Rf.worthTo, HB.out]⟩
      case measure => simp [intOf]; omega
    · have hkk : k = s.size := by omega
      subst hkk
      go_wp2
      go_ret
      exact ⟨rfl, rfl⟩
set_option maxHeartbeats 1000000 in
theorem comparing_ref (w : World) : Calls Tryz.prog 175 #[] w fun e w' => ∃ v, e = .returned v ∧ Strs w' v Rf.cmpW ∧ Below w.heap.size w w' := by
  go_enter Tryz.func175, Tryz.ntmps175
  go_wp2
  go_ret
  exact ⟨_, rfl, strs_own (World.ownsRow_lit (base := 0) w (Rf.cmpW.map Value.string).toArray 2 (Nat.zero_le _) (by unfold maxLen; omega) rfl), (Below.refl _ _).alloc (Nat.le_refl _) _⟩
set_option maxHeartbeats 1000000 in
theorem adding_ref (w : World) : Calls Tryz.prog 204 #[] w fun e w' => ∃ v, e = .returned v ∧ Strs w' v Rf.addW ∧ Below w.heap.size w w' := by
  go_enter Tryz.func204, Tryz.ntmps204
  go_wp2
  go_ret
  exact ⟨_, rfl, strs_own (World.ownsRow_lit (base := 0) w (Rf.addW.map Value.string).toArray 2 (Nat.zero_le _) (by unfold maxLen; omega) rfl), (Below.refl _ _).alloc (Nat.le_refl _) _⟩
set_option maxHeartbeats 1000000 in
theorem dividing_ref (w : World) : Calls Tryz.prog 209 #[] w fun e w' => ∃ v, e = .returned v ∧ Strs w' v Rf.divW ∧ Below w.heap.size w w' := by
  go_enter Tryz.func209, Tryz.ntmps209
  go_wp2
  go_ret
  exact ⟨_, rfl, strs_own (World.ownsRow_lit (base := 0) w (Rf.divW.map Value.string).toArray 3 (Nat.zero_le _) (by unfold maxLen; omega) rfl), (Below.refl _ _).alloc (Nat.le_refl _) _⟩
set_option maxHeartbeats 1000000 in
theorem operand_ref (x : ByteArray) (w : World) (hs : x.size ≤ maxLen) : Calls Tryz.prog 203 #[.string x] w fun e w' => e = .returned (.bool (Rf.opdB x)) ∧ Below w.heap.size w w' := by
  go_enter Tryz.func203, Tryz.ntmps203
  go_wp2_with fail
  refine (name_ref x _ hs).mono ?_
  rintro e w1 ⟨rfl, hb1⟩
  have HB := hide hb1
  have HE := hide (show Rf.opdB x = (Rf.nameB x || Rf.numberB x || (x.toList == [41]) || (x.toList == [93])) from rfl)
  clear hb1
  cases hn : Rf.nameB x with
  | true =>
    go_wp2_with fail
    go_ret
    exact ⟨by rw [unhide HE, hn]; rfl, unhide HB⟩
  | false =>
    cases hm : Rf.numberB x with
    | true =>
      go_wp2_with (go_at_call 139; refine (number_ref x _ hs).mono ?_; rintro e w' ⟨rfl, rfl⟩; rw [hm])
      go_ret
      exact ⟨by rw [unhide HE, hn, hm]; rfl, unhide HB⟩
    | false =>
      go_wp2_with (go_at_call 139; refine (number_ref x _ hs).mono ?_; rintro e w' ⟨rfl, rfl⟩; rw [hm])
      all_goals
        go_ret
        exact ⟨by rw [unhide HE, hn, hm]; exact ret_bool (by simp_all), unhide HB⟩
theorem within_letter (b : UInt8) : Rt.within 97 122 b = Rf.letterB (b.toNat : Int) := by
  rw [Bool.eq_iff_iff]; simp [Rt.within, Rf.letterB]
theorem within_digit (b : UInt8) : Rt.within 48 57 b = Rf.digitB (b.toNat : Int) := by
  rw [Bool.eq_iff_iff]; simp [Rt.within, Rf.digitB]
theorem letter_not_digit {b : Int} (h : Rf.letterB b = true) : Rf.digitB b = false := by
  rw [Bool.eq_false_iff]; simp [Rf.letterB, Rf.digitB] at h ⊢; omega
set_option maxHeartbeats 2000000 in
theorem run_ref (s : ByteArray) (a : Nat) (w : World) (hs : s.size ≤ maxLen) (ha : a < s.size) :
    Calls Tryz.prog 129 #[.string s, .int .i64 a] w fun e w' => e = .returned (.int .i64 (Rf.runN s a)) ∧ w' = w := by
  unfold maxLen at hs
  have HB := hide (Rt.byteAt_lt ha)
  cases hl : Rf.letterB (s[a].toNat : Int) with
  | true =>
    have hd := letter_not_digit hl
    have HE := hide (show Rf.runN s a = Rt.cw s 97 122 a by unfold Rf.runN; rw [unhide HB, if_pos hl])
    go_enter Tryz.func129, Tryz.ntmps129
    go_wp2
    go_loop [5] (fun i => ∃ k : Nat, a + k ≤ s.size ∧ i = .int .i64 k ∧ ∀ j (h : j < s.size), a ≤ j → j < a + k → Rt.within 97 122 s[j] = true) (fun i => s.size - (intOf i).toNat)
    case atStart => exact ⟨0, by omega, rfl, fun j h h1 h2 => by omega⟩
    case round =>
      obtain ⟨k, hk, rfl, hall⟩ := hrel
      have HA := hide hall
      clear hall
      by_cases hlt : a + k < s.size
      · have hlt' : (a : Int) + (k : Int) < (s.size : Int) := by omega
        cases hx : Rf.letterB (s[a + k].toNat : Int) with
        | true =>
          go_wp2_with (first | (go_at_call 130; refine (letter_any _ _).mono ?_; rintro e w' ⟨rfl, rfl⟩) | (go_at_call 131; refine (digit_any _ _).mono ?_; rintro e w' ⟨rfl, rfl⟩))

          go_round
          case rel =>
            refine ⟨k + 1, by omega, by go_num, fun j h h1 h2 => ?_⟩
            by_cases hj : j = a + k
            · subst hj; rw [within_letter]; exact hx
            · exact unhide HA j h h1 (by omega)
          case measure => simp [intOf]; omega
        | false =>
          go_wp2_with (first | (go_at_call 130; refine (letter_any _ _).mono ?_; rintro e w' ⟨rfl, rfl⟩) | (go_at_call 131; refine (digit_any _ _).mono ?_; rintro e w' ⟨rfl, rfl⟩))

          have hC := Rt.cw_eq s 97 122 a (a + k) (by omega) hk (unhide HA) (fun h => by rw [within_letter]; exact hx)
          have HC := hide hC
          clear hC
          go_ret
          exact ⟨ret_int (by rw [unhide HE, unhide HC]; omega), rfl⟩
      · have hlt' : ¬ (a : Int) + (k : Int) < (s.size : Int) := by omega
        have hC := Rt.cw_eq s 97 122 a (a + k) (by omega) hk (unhide HA) (fun h => absurd h hlt)
        have HC := hide hC
        clear hC
        go_wp2_with fail
        go_ret
        exact ⟨ret_int (by rw [unhide HE, unhide HC]; omega), rfl⟩
  | false =>
    cases hd : Rf.digitB (s[a].toNat : Int) with
    | true =>
      have HE := hide (show Rf.runN s a = Rt.cw s 48 57 a by unfold Rf.runN; rw [unhide HB, if_neg (by rw [hl]; simp), if_pos hd])
      go_enter Tryz.func129, Tryz.ntmps129
      go_wp2
      go_loop [5] (fun i => ∃ k : Nat, a + k ≤ s.size ∧ i = .int .i64 k ∧ ∀ j (h : j < s.size), a ≤ j → j < a + k → Rt.within 48 57 s[j] = true) (fun i => s.size - (intOf i).toNat)
      case atStart => exact ⟨0, by omega, rfl, fun j h h1 h2 => by omega⟩
      case round =>
        obtain ⟨k, hk, rfl, hall⟩ := hrel
        have HA := hide hall
        clear hall
        by_cases hlt : a + k < s.size
        · have hlt' : (a : Int) + (k : Int) < (s.size : Int) := by omega
          cases hx : Rf.digitB (s[a + k].toNat : Int) with
          | true =>
            go_wp2_with (first | (go_at_call 130; refine (letter_any _ _).mono ?_; rintro e w' ⟨rfl, rfl⟩) | (go_at_call 131; refine (digit_any _ _).mono ?_; rintro e w' ⟨rfl, rfl⟩))

            go_round
            case rel =>
              refine ⟨k + 1, by omega, by go_num, fun j h h1 h2 => ?_⟩
              by_cases hj : j = a + k
              · subst hj; rw [within_digit]; exact hx
              · exact unhide HA j h h1 (by omega)
            case measure => simp [intOf]; omega
          | false =>
            go_wp2_with (first | (go_at_call 130; refine (letter_any _ _).mono ?_; rintro e w' ⟨rfl, rfl⟩) | (go_at_call 131; refine (digit_any _ _).mono ?_; rintro e w' ⟨rfl, rfl⟩))

            have hC := Rt.cw_eq s 48 57 a (a + k) (by omega) hk (unhide HA) (fun h => by rw [within_digit]; exact hx)
            have HC := hide hC
            clear hC
            go_ret
            exact ⟨ret_int (by rw [unhide HE, unhide HC]; omega), rfl⟩
        · have hlt' : ¬ (a : Int) + (k : Int) < (s.size : Int) := by omega
          have hC := Rt.cw_eq s 48 57 a (a + k) (by omega) hk (unhide HA) (fun h => absurd h hlt)
          have HC := hide hC
          clear hC
          go_wp2_with fail
          go_ret
          exact ⟨ret_int (by rw [unhide HE, unhide HC]; omega), rfl⟩
    | false =>
      have HE := hide (show Rf.runN s a = 0 by unfold Rf.runN; rw [unhide HB, if_neg (by rw [hl]; simp), if_neg (by rw [hd]; simp)])
      go_enter Tryz.func129, Tryz.ntmps129
      go_wp2
      go_loop [5] (fun i => i = .int .i64 (0 : Nat)) (fun i => s.size - (intOf i).toNat)
      case atStart => rfl
      case round =>
        subst hrel
        have hlt' : (a : Int) + ((0 : Nat) : Int) < (s.size : Int) := by omega
        go_wp2_with (first | (go_at_call 130; refine (letter_any _ _).mono ?_; rintro e w' ⟨rfl, rfl⟩) | (go_at_call 131; refine (digit_any _ _).mono ?_; rintro e w' ⟨rfl, rfl⟩))
        all_goals (go_ret; exact ⟨ret_int (by rw [unhide HE]; rfl), rfl⟩)
end Go.Proofs.YthleadfkfnnadaaGreat
