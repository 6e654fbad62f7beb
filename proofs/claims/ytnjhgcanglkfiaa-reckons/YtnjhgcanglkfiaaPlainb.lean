/- Plain facts, continued. -/
import Derived.Test.YtnjhgcanglkfiaaKit0
namespace Go.Proofs.Ytnjhgcanglkfiaa
open Go.RowKit


theorem ret2_int {k : IntKind} {a b c d : Int} (h : a = b) (h' : c = d) : Ending.returned (.tuple #[.int k a, .int k c]) = .returned (.tuple #[.int k b, .int k d]) := by rw [h, h']


set_option maxHeartbeats 400000 in
theorem countWithin_any (s : ByteArray) (a : Nat) (lo hi : Int) (w : World) (hs : s.size ≤ maxLen) (ha : a ≤ s.size) :
    Calls Try.prog 65 #[.string s, .int .i64 a, .int .u8 lo, .int .u8 hi] w fun e w' => e = .returned (.int .i64 (Rt.cw s lo hi a)) ∧ w' = w := by
  unfold maxLen at hs
  go_enter Try.func65, Try.ntmps65
  go_wp2
  go_loop [9] (fun i => ∃ k : Nat, a ≤ k ∧ k ≤ s.size ∧ i = .int .i64 k ∧ ∀ j (h : j < s.size), a ≤ j → j < k → Rt.within lo hi s[j] = true) (fun i => s.size - (intOf i).toNat)
  case atStart => exact ⟨a, Nat.le_refl _, ha, rfl, fun j h h1 h2 => by omega⟩
  case round =>
    obtain ⟨k, hak, hk, rfl, hall⟩ := hrel
    have HA : Hid (∀ j (h : j < s.size), a ≤ j → j < k → Rt.within lo hi s[j] = true) := hall
    clear hall
    by_cases hlt : k < s.size
    · go_wp2
      · have h1 : lo ≤ (s[k].toNat : Int) := by assumption
        have h2 : (s[k].toNat : Int) ≤ hi := by assumption
        go_round
        case rel =>
          refine ⟨k + 1, by omega, by omega, by go_num, fun j h hj1 hj2 => ?_⟩
          by_cases e : j = k
          · subst e; simp [Rt.within, h1, h2]
          · exact HA.out j h hj1 (by omega)
        case measure => simp [intOf]; omega
      · have h2 : hi < (s[k].toNat : Int) := by assumption
        have := Rt.cw_eq s lo hi a k hak hk HA.out (fun h => by simp [Rt.within]; omega)
        go_ret
        exact ⟨ret_int (by rw [this]; omega), rfl⟩
      · have h2 : (s[k].toNat : Int) < lo := by assumption
        have := Rt.cw_eq s lo hi a k hak hk HA.out (fun h => by simp [Rt.within]; omega)
        go_ret
        exact ⟨ret_int (by rw [this]; omega), rfl⟩
    · go_wp2
      go_ret
      have := Rt.cw_eq s lo hi a k hak hk HA.out (fun h => absurd h hlt)
      exact ⟨ret_int (by rw [this]; omega), rfl⟩

set_option maxHeartbeats 400000 in
theorem isSign_any (b : Int) (w : World) :
    Calls Try.prog 66 #[.int .u8 b] w fun e w' => e = .returned (.bool (Rt.sign b)) ∧ w' = w := by
  go_enter Try.func66, Try.ntmps66
  go_wp2
  all_goals (go_ret; exact ⟨by simp_all [Rt.sign], rfl⟩)

set_option maxHeartbeats 400000 in
theorem measure_any (s : ByteArray) (a : Nat) (w : World) (hs : s.size ≤ maxLen) (ha : a ≤ s.size) :
    Calls Try.prog 50 #[.string s, .int .i64 a] w fun e w' => e = .returned (.tuple #[.int .i64 (Rt.measK s a), .int .i64 (Rt.measN s a)]) ∧ w' = w := by
  have hs' := hs
  unfold maxLen at hs'
  go_enter Try.func50, Try.ntmps50
  go_wp2_with (first | (go_at_call 65; refine (countWithin_any _ _ _ _ _ hs ha).mono ?_; rintro e w' ⟨rfl, rfl⟩) | (go_at_call 66; refine (isSign_any _ _).mono ?_; rintro e w' ⟨rfl, rfl⟩))
  · go_ret2
    exact ⟨ret2_int (by unfold Rt.measK; (repeat' split) <;> omega) (by unfold Rt.measN; (repeat' split) <;> omega), rfl⟩
  · go_ret2
    exact ⟨ret2_int (by unfold Rt.measK; (repeat' split) <;> omega) (by unfold Rt.measN; (repeat' split) <;> omega), rfl⟩
  · go_ret2
    exact ⟨ret2_int (by unfold Rt.measK; (repeat' split) <;> omega) (by unfold Rt.measN; (repeat' split) <;> omega), rfl⟩
  · go_ret2
    exact ⟨ret2_int (by unfold Rt.measK; (repeat' split) <;> omega) (by unfold Rt.measN; (repeat' split) <;> omega), rfl⟩
  · have h1 : a < s.size := by assumption
    have h2 : Rt.sign ↑s[a].toNat = true := by assumption
    have h3 : Hid (a < s.size ∧ Rt.sign (Rt.byteAt s a) = true) := ⟨h1, by rw [Rt.byteAt_lt h1]; exact h2⟩
    go_ret2
    exact ⟨ret2_int (by unfold Rt.measK; rw [if_pos h3.out]; (repeat' split) <;> omega) (by unfold Rt.measN; rw [if_pos h3.out]; (repeat' split) <;> omega), rfl⟩
  · have h1 : a < s.size := by assumption
    have h2 : Rt.sign ↑s[a].toNat = false := by assumption
    have h3 : Hid (¬ (a < s.size ∧ Rt.sign (Rt.byteAt s a) = true)) := by rintro ⟨_, h⟩; rw [Rt.byteAt_lt h1, h2] at h; cases h
    go_ret2
    exact ⟨ret2_int (by unfold Rt.measK; rw [if_neg h3.out]; (repeat' split) <;> omega) (by unfold Rt.measN; rw [if_neg h3.out]; (repeat' split) <;> omega), rfl⟩
  · go_ret2
    exact ⟨ret2_int (by unfold Rt.measK; (repeat' split) <;> omega) (by unfold Rt.measN; (repeat' split) <;> omega), rfl⟩

set_option maxHeartbeats 400000 in
theorem tooLong_any (s : ByteArray) (w : World) (hs : s.size ≤ maxLen) :
    Calls Try.prog 20 #[.string s] w fun e w' => e = .returned (.bool (Rt.tooLong s)) ∧ w' = w := by
  unfold maxLen at hs
  by_cases hbig : 40000 < s.size
  · go_enter Try.func20, Try.ntmps20
    go_wp2
    go_ret
    exact ⟨by simp [Rt.tooLong, hbig], rfl⟩
  · have hbig' : ¬ (40000 : Int) < (s.size : Int) := by omega
    go_enter Try.func20, Try.ntmps20
    go_wp2
    go_loop [3, 4] (fun n i => ∃ k : Nat, k ≤ s.size ∧ i = .int .i64 k ∧ n = .int .i64 (1 + Rt.nls s k : Nat)) (fun _ i => s.size - (intOf i).toNat)
    case atStart => exact ⟨0, Nat.zero_le _, rfl, rfl⟩
    case round =>
      obtain ⟨k, hk, rfl, rfl⟩ := hrel
      have hn := Rt.nls_le s k
      by_cases hlt : k < s.size
      · have HS : Hid (Rt.nls s (k + 1) = Rt.nls s k + (if (s[k].toNat : Int) = 10 then 1 else 0)) := by rw [← Rt.byteAt_lt hlt]; rfl
        go_wp2
        all_goals
          go_round
          case rel => exact ⟨k + 1, by omega, by go_num, by rw [HS.out]; first | (rw [if_pos (beqT (by assumption))]; go_num) | (rw [if_neg (beqF (by assumption))]; go_num)⟩
          case measure => simp [intOf]; omega
      · have hkk : k = s.size := by omega
        subst hkk
        go_wp2
        go_ret
        exact ⟨by simp [Rt.tooLong, hbig]; omega, rfl⟩

theorem Try.infoTok : (Try.prog.info? 101).map (fun i => (i.zero, i.size, i.bytes)) = some (some (.agg #[.int .i64 0, .string ByteArray.empty]), 2, 24) := by kernel_rfl



set_option maxHeartbeats 400000 in
set_option maxRecDepth 100000 in
theorem tokens_any (s : ByteArray) (w : World) (hs : s.size ≤ 40000) :
    Calls Try.prog 35 #[.string s] w fun e w' => Below w.heap.size w w' ∧
      ((Rt.toks s = none ∧ e = .returned (.tuple #[.slice none 0 0, .bool false])) ∨
       ∃ ts v, Rt.toks s = some ts ∧ e = .returned (.tuple #[v, .bool true]) ∧ w'.ownsRow w.heap.size 101 2 v ts.length (Rt.toksCells ts)) := by
  have hm : s.size ≤ maxLen := by unfold maxLen; omega
  obtain ⟨i0, hi, hz0, hz1, hz2⟩ := info_parts Try.infoTok
  go_enter Try.func35, Try.ntmps35
  go_wp2
  go_loopw [4, 5] (fun v i wr => ∃ (k f : Nat) (acc : List Rt.Tk), k ≤ s.size ∧ i = .int .i64 k ∧ s.size < f + k ∧ acc.length ≤ 24 ∧ Rt.toksFrom s f k acc = Rt.toks s ∧ wr.ownsRow w.heap.size 101 2 v acc.length (Rt.toksCells acc) ∧ Below w.heap.size w wr)
    (fun _ i _ => s.size - (intOf i).toNat)
  case atStart => exact ⟨0, s.size + 1, [], Nat.zero_le _, rfl, by omega, by simp, rfl, World.ownsRow_nil _ _ _ _, Below.refl _ _⟩
  case round =>
    obtain ⟨k, f, acc, hk, rfl, hf, hacc, heq, hown, hnx⟩ := hrel
    have HQ : Hid (Rt.toksFrom s f k acc = Rt.toks s) := heq
    clear heq
    have hsz := hnx.size
    obtain ⟨f, rfl⟩ : ∃ g, f = g + 1 := ⟨f - 1, by omega⟩
    obtain ⟨ad, cap, rfl⟩ := ownsRow_form hown
    by_cases hlt : k < s.size
    · have hB := Rt.byteAt_lt hlt
      by_cases hb : s[k].toNat = 32
      · have HR : Hid (Rt.toksFrom s f (k + 1) acc = Rt.toks s) := by
          have h := HQ.out
          rw [Rt.toksFrom, if_pos hlt, if_pos (by rw [hB, hb]; rfl)] at h
          exact h
        clear hB
        have hb' : ((s[k].toNat : Int) == 32) = true := by simp [hb]
        clear hb
        go_wp2_with fail
        go_roundw
        case rel => exact ⟨k + 1, f, acc, by omega, by go_num, by omega, hacc, HR.out, hown, hnx⟩
        case measure => simp [intOf]; omega
      · have hb' : ((s[k].toNat : Int) == 32) = false := by simp; omega
        have hle := Rt.measN_le s k (by omega)
        have hne : ¬ Rt.byteAt s k = 32 := by rw [hB]; omega
        clear hB
        by_cases hz : Rt.measN s k = 0
        · have HR : Hid (Rt.toks s = none) := by
            have h := HQ.out
            rw [Rt.toksFrom, if_pos hlt, if_neg hne, if_pos (Or.inl hz)] at h
            exact h.symm
          clear hne
          go_wp2_with (go_at_call 50; refine (measure_any s k _ hm (by omega)).mono ?_; rintro e w' ⟨rfl, rfl⟩; rw [hz])
          go_ret2
          exact ⟨hnx, Or.inl ⟨HR.out, rfl⟩⟩
        · by_cases h24 : 24 ≤ acc.length
          · have HR : Hid (Rt.toks s = none) := by
              have h := HQ.out
              rw [Rt.toksFrom, if_pos hlt, if_neg hne, if_pos (Or.inr h24)] at h
              exact h.symm
            clear hne
            have hz' : ((Rt.measN s k : Int) == 0) = false := by simp; omega
            go_wp2_with (go_at_call 50; refine (measure_any s k _ hm (by omega)).mono ?_; rintro e w' ⟨rfl, rfl⟩)
            go_ret2
            exact ⟨hnx, Or.inl ⟨HR.out, rfl⟩⟩
          · have HR : Hid (Rt.toksFrom s f (k + Rt.measN s k) (acc ++ [⟨Rt.measK s k, s.extract k (k + Rt.measN s k)⟩]) = Rt.toks s) := by
              have h := HQ.out
              rw [Rt.toksFrom, if_pos hlt, if_neg hne, if_neg (by omega)] at h
              exact h
            clear hne
            have hz' : ((Rt.measN s k : Int) == 0) = false := by simp; omega
            go_wp2_with (first
              | (at_builtin; refine wpList_append_own _ rfl (.tmp 31) (.tmp 40) 51 rfl w.heap.size 101 i0 _ 2 24 Try.underlying51 hi hz0 hz1 hz2 rfl (by decide) _ _ _ rfl (hown.alloc _) ⟨_, 0, none⟩ 1 1 [.int .i64 (Rt.measK s k), .string (s.extract k (k + Rt.measN s k))] rfl rfl (cell_two_new _ _ _ _) ?c2 ?c3 ?c4 ?c5 ?_)
              | (go_at_call 50; refine (measure_any s k _ hm (by omega)).mono ?_; rintro e w' ⟨rfl, rfl⟩))
            case c2 => intro u hu; simp at hu; rcases hu with rfl | rfl <;> rfl
            case c3 => unfold maxLen; omega
            case c4 => omega
            case c5 => simp; omega
            intro v' w1 hown' hgrow _
            have hb2 := below_append hnx hsz hown hgrow
            clear hgrow hown hnx
            go_wp2
            go_roundw
            case rel => exact ⟨k + Rt.measN s k, f, _, by omega, by go_num, by omega, by simp; omega, HR.out, by rw [Rt.toksCells_snoc]; simpa using hown', hb2⟩
            case measure => simp [intOf]; omega
    · go_wp2
      go_ret2
      have h := HQ.out
      rw [Rt.toksFrom, if_neg hlt] at h
      exact ⟨hnx, Or.inr ⟨acc, _, h.symm, rfl, hown⟩⟩

set_option maxHeartbeats 400000 in
set_option maxRecDepth 100000 in
theorem lines_any (s : ByteArray) (w : World) (hs : s.size ≤ 40000) :
    Calls Try.prog 34 #[.string s] w fun e w' => Below w.heap.size w w' ∧
      ∃ v, e = .returned v ∧ w'.ownsRow w.heap.size 9 1 v (Rt.lines s).length ((Rt.lines s).map Value.string) := by
  obtain ⟨i0, hi, hz0, hz1, hz2⟩ := info_parts Try.infoStr
  go_enter Try.func34, Try.ntmps34
  go_wp2
  go_loopw [3, 4, 5] (fun v st i wr => ∃ (k a f : Nat) (acc : List ByteArray), a ≤ k ∧ k ≤ s.size ∧ i = .int .i64 k ∧ st = .int .i64 a ∧ s.size < f + k ∧ acc.length ≤ k ∧ Rt.linesFrom s f a k acc = Rt.lines s ∧ wr.ownsRow w.heap.size 9 1 v acc.length (acc.map Value.string) ∧ Below w.heap.size w wr)
    (fun _ _ i _ => s.size - (intOf i).toNat)
  case atStart => exact ⟨0, 0, s.size + 1, [], Nat.le_refl _, Nat.zero_le _, rfl, rfl, by omega, by simp, rfl, World.ownsRow_nil _ _ _ _, Below.refl _ _⟩
  case round =>
    obtain ⟨k, a, f, acc, hak, hk, rfl, rfl, hf, hacc, heq, hown, hnx⟩ := hrel
    have HQ : Hid (Rt.linesFrom s f a k acc = Rt.lines s) := heq
    clear heq
    have hsz := hnx.size
    obtain ⟨f, rfl⟩ : ∃ g, f = g + 1 := ⟨f - 1, by omega⟩
    obtain ⟨ad, cap, rfl⟩ := ownsRow_form hown
    by_cases hlt : k < s.size
    · have hB := Rt.byteAt_lt hlt
      by_cases hb : s[k].toNat = 10
      · have HR : Hid (Rt.linesFrom s f (k + 1) (k + 1) (acc ++ [s.extract a k]) = Rt.lines s) := by
          have h := HQ.out
          rw [Rt.linesFrom, if_pos hlt, if_pos (by rw [hB, hb]; rfl)] at h
          exact h
        clear hB
        have hb' : ((s[k].toNat : Int) == 10) = true := by simp [hb]
        clear hb
        go_wp2_with (at_builtin; refine wpList_append_own _ rfl (.tmp 16) (.tmp 21) 52 rfl w.heap.size 9 i0 _ 1 16 Try.underlying52 hi hz0 hz1 hz2 rfl (by decide) _ _ _ rfl (hown.alloc _) ⟨_, 0, none⟩ 1 1 [.string (s.extract a k)] rfl rfl (cell_one_new _ _ _) ?c2 ?c3 ?c4 ?c5 ?_)
        case c2 => intro u hu; simp at hu; rcases hu with rfl; rfl
        case c3 => unfold maxLen; omega
        case c4 => omega
        case c5 => simp; omega
        intro v' w1 hown' hgrow _
        have hb2 := below_append hnx hsz hown hgrow
        clear hgrow hown hnx
        go_wp2
        go_roundw
        case rel => exact ⟨k + 1, k + 1, f, _, by omega, by omega, by go_num, by go_num, by omega, by simp; omega, HR.out, by simpa using hown', hb2⟩
        case measure => simp [intOf]; omega
      · have HR : Hid (Rt.linesFrom s f a (k + 1) acc = Rt.lines s) := by
          have h := HQ.out
          rw [Rt.linesFrom, if_pos hlt, if_neg (by rw [hB]; omega)] at h
          exact h
        clear hB
        have hb' : ((s[k].toNat : Int) == 10) = false := by simp; omega
        go_wp2
        go_roundw
        case rel => exact ⟨k + 1, a, f, acc, by omega, by omega, by go_num, rfl, by omega, by omega, HR.out, hown, hnx⟩
        case measure => simp [intOf]; omega
    · have HR : Hid (acc ++ [s.extract a s.size] = Rt.lines s) := by
        have h := HQ.out
        rw [Rt.linesFrom, if_neg hlt] at h
        exact h
      go_wp2_with (at_builtin; refine wpList_append_own _ rfl (.tmp 25) (.tmp 29) 52 rfl w.heap.size 9 i0 _ 1 16 Try.underlying52 hi hz0 hz1 hz2 rfl (by decide) _ _ _ rfl (hown.alloc _) ⟨_, 0, none⟩ 1 1 [.string (s.extract a s.size)] rfl rfl (cell_one_new _ _ _) ?d2 ?d3 ?d4 ?d5 ?_)
      case d2 => intro u hu; simp at hu; rcases hu with rfl; rfl
      case d3 => unfold maxLen; omega
      case d4 => omega
      case d5 => simp; omega
      intro v' w1 hown' hgrow _
      have hb2 := below_append hnx hsz hown hgrow
      clear hgrow hown hnx
      go_wp2
      go_ret
      exact ⟨hb2, _, rfl, by rw [← HR.out]; simpa using hown'⟩

end Go.Proofs.Ytnjhgcanglkfiaa

namespace Go.Proofs.Ytnjhgcanglkfiaa
namespace Rt
open Go.RowKit

/-- What a text of digits is worth, as Go reckons it. -/
def valTo (s : ByteArray) : Nat → Int
  | 0 => 0
  | k + 1 => wrap64 (wrap64 (valTo s k * 10) + (byteAt s k - 48) % 256)
def val (s : ByteArray) : Int := valTo s s.size

end Rt
end Go.Proofs.Ytnjhgcanglkfiaa

