/- The document's answer: the last sign between two operands. -/
import Derived.Test.YthleadfkfnnadaaGreatRef2
namespace Go.Proofs.YthleadfkfnnadaaGreat
open Go.RowKit
set_option maxHeartbeats 400000 in
set_option maxRecDepth 100000 in
theorem lines_ref (s : ByteArray) (w : World) (hs : s.size ≤ 40000) :
    Calls Tryz.prog 79 #[.string s] w fun e w' => Below w.heap.size w w' ∧
      ∃ v, e = .returned v ∧ w'.ownsRow w.heap.size 9 1 v (Rt.lines s).length ((Rt.lines s).map Value.string) := by
  obtain ⟨i0, hi, hz0, hz1, hz2⟩ := info_parts Tryz.infoStr
  go_enter Tryz.func79, Tryz.ntmps79
  go_wp2
  go_loopw [3, 4, 5] (fun v st i wr => ∃ (k a f : Nat) (acc : List ByteArray), a ≤ k ∧ k ≤ s.size ∧ i = .int .i64 k ∧ st = .int .i64 a ∧ s.size < f + k ∧ acc.length ≤ k ∧ Rt.linesFrom s f a k acc = Rt.lines s ∧ wr.ownsRow w.heap.size 9 1 v acc.length (acc.map Value.string) ∧ Below w.heap.size w wr)
    (fun _ _ i _ => s.size - (intOf i).toNat)
  case atStart => exact ⟨0, 0, s.size + 1, [], Nat.le_refl _, Nat.zero_le _, rfl, rfl, by omega, by simp, rfl, World.ownsRow_nil _ _ _ _, Below.refl _ _⟩
  case round =>
    obtain ⟨k, a, f, acc, hak, hk, rfl, rfl, hf, hacc, heq, hown, hnx⟩ := hrel
    have HQ : Hid (Rt.linesFrom s f a k acc = Rt.lines s) := heq
    clear heq
    have hsz := hnx.size
    obtain ⟨f, rfl⟩ : ∃ g, f = g + 1 := ⟨f - 1, by omega⟩
    obtain ⟨ad, cap, rfl⟩ := ownsRow_form hown
    by_cases hlt : k < s.size
    · have hB := Rt.byteAt_lt hlt
      by_cases hb : s[k].toNat = 10
      · have HR : Hid (Rt.linesFrom s f (k + 1) (k + 1) (acc ++ [s.extract a k]) = Rt.lines s) := by
          have h := HQ.out
          rw [Rt.linesFrom, if_pos hlt, if_pos (by rw [hB, hb]; rfl)] at h
          exact h
        clear hB
        have hb' : ((s[k].toNat : Int) == 10) = true := by simp [hb]
        clear hb
        go_wp2_with (at_builtin; refine wpList_append_own _ rfl _ _ 87 rfl w.heap.size 9 i0 _ 1 16 Tryz.underlying87 hi hz0 hz1 hz2 rfl (by decide) _ _ _ rfl (hown.alloc _) ⟨_, 0, none⟩ 1 1 [.string (s.extract a k)] rfl rfl (cell_one_new _ _ _) ?c2 ?c3 ?c4 ?c5 ?_)
        case c2 => intro u hu; simp at hu; rcases hu with rfl; rfl
        case c3 => unfold maxLen; omega
        case c4 => omega
        case c5 => simp; omega
        intro v' w1 hown' hgrow _
        have hb2 := below_append hnx hsz hown hgrow
        clear hgrow hown hnx
        go_wp2
        go_roundw
        case rel => exact ⟨k + 1, k + 1, f, _, by omega, by omega, by go_num, by go_num, by omega, by simp; omega, HR.out, by simpa using hown', hb2⟩
        case measure => simp [intOf]; omega
      · have HR : Hid (Rt.linesFrom s f a (k + 1) acc = Rt.lines s) := by
          have h := HQ.out
          rw [Rt.linesFrom, if_pos hlt, if_neg (by rw [hB]; omega)] at h
          exact h
        clear hB
        have hb' : ((s[k].toNat : Int) == 10) = false := by simp; omega
        go_wp2
        go_roundw
        case rel => exact ⟨k + 1, a, f, acc, by omega, by omega, by go_num, rfl, by omega, by omega, HR.out, hown, hnx⟩
        case measure => simp [intOf]; omega
    · have HR : Hid (acc ++ [s.extract a s.size] = Rt.lines s) := by
        have h := HQ.out
        rw [Rt.linesFrom, if_neg hlt] at h
        exact h
      go_wp2_with (at_builtin; refine wpList_append_own _ rfl _ _ 87 rfl w.heap.size 9 i0 _ 1 16 Tryz.underlying87 hi hz0 hz1 hz2 rfl (by decide) _ _ _ rfl (hown.alloc _) ⟨_, 0, none⟩ 1 1 [.string (s.extract a s.size)] rfl rfl (cell_one_new _ _ _) ?d2 ?d3 ?d4 ?d5 ?_)
      case d2 => intro u hu; simp at hu; rcases hu with rfl; rfl
      case d3 => unfold maxLen; omega
      case d4 => omega
      case d5 => simp; omega
      intro v' w1 hown' hgrow _
      have hb2 := below_append hnx hsz hown hgrow
      clear hgrow hown hnx
      go_wp2
      go_ret
      exact ⟨hb2, _, rfl, by rw [← HR.out]; simpa using hown'⟩
namespace Rt
theorem cw_zero (s : ByteArray) (lo hi : Int) (a : Nat) (ha : a < s.size) (h : within lo hi s[a] = false) : cw s lo hi a = 0 := by
  rw [cw_eq s lo hi a a (Nat.le_refl _) (by omega) (fun j h h1 h2 => by omega) (fun _ => h)]; omega
theorem cw_pos (s : ByteArray) (lo hi : Int) (a : Nat) (ha : a < s.size) (h : within lo hi s[a] = true) : 0 < cw s lo hi a := by
  unfold cw
  rw [List.drop_eq_getElem_cons (by simpa using ha), List.takeWhile_cons_of_pos]
  · simp
  · exact h
theorem one_byte (s : ByteArray) (a : Nat) (ha : a < s.size) : s.extract a (a + 1) = ⟨#[s[a]]⟩ := by
  apply ByteArray.ext
  rw [ByteArray.data_extract]
  have hd : s.data.size = s.size := rfl
  apply Array.ext
  · rw [Array.size_extract]; show _ = 1; omega
  · intro i h1 h2
    have h3 : i = 0 := by simpa using h2
    subst h3
    simp [ByteArray.getElem_eq_getElem_data]
theorem one_lit (b c : UInt8) : ((⟨#[b]⟩ : ByteArray) = ⟨#[c]⟩) ↔ (c.toNat : Int) = b.toNat := by
  constructor
  · intro h; injection h with h; simp at h; rw [h]
  · intro h
    have : c = b := UInt8.toNat_inj.mp (by omega)
    rw [this]
theorem sign_in (b : UInt8) : Rf.inB Rf.signW ⟨#[b]⟩ = sign (b.toNat : Int) := by
  rw [Bool.eq_iff_iff]
  simp only [Rf.inB, Rf.signW, sign, List.any_cons, List.any_nil, one_lit, Bool.or_eq_true, decide_eq_true_eq, List.mem_cons, List.not_mem_nil, or_false, Bool.or_false]
  rfl
end Rt
def TInv (s : ByteArray) (f k : Nat) (acc : List Rt.Tk) : Prop := (acc.length ≤ 24 ∧ Rt.toksFrom s f k acc = Rt.toks s) ∨ (24 < acc.length ∧ Rt.toks s = none)
theorem TInv.skip {s : ByteArray} {f k : Nat} {acc : List Rt.Tk} (h : TInv s (f + 1) k acc) (hlt : k < s.size) (hb : Rt.byteAt s k = 32) : TInv s f (k + 1) acc := by
  rcases h with ⟨h1, h2⟩ | h
  · rw [Rt.toksFrom, if_pos hlt, if_pos hb] at h2; exact Or.inl ⟨h1, h2⟩
  · exact Or.inr h
theorem TInv.stop {s : ByteArray} {f k : Nat} {acc : List Rt.Tk} (h : TInv s (f + 1) k acc) (hlt : k < s.size) (hb : ¬ Rt.byteAt s k = 32) (hz : Rt.measN s k = 0) : Rt.toks s = none := by
  rcases h with ⟨h1, h2⟩ | h
  · rw [Rt.toksFrom, if_pos hlt, if_neg hb, if_pos (Or.inl hz)] at h2; exact h2.symm
  · exact h.2
theorem TInv.next {s : ByteArray} {f k : Nat} {acc : List Rt.Tk} (h : TInv s (f + 1) k acc) (hlt : k < s.size) (hb : ¬ Rt.byteAt s k = 32) (hz : 0 < Rt.measN s k) :
    TInv s f (k + Rt.measN s k) (acc ++ [⟨Rt.measK s k, s.extract k (k + Rt.measN s k)⟩]) := by
  rcases h with ⟨h1, h2⟩ | h
  · rw [Rt.toksFrom, if_pos hlt, if_neg hb] at h2
    by_cases h24 : 24 ≤ acc.length
    · rw [if_pos (Or.inr h24)] at h2; exact Or.inr ⟨by simp; omega, h2.symm⟩
    · rw [if_neg (by omega)] at h2; exact Or.inl ⟨by simp; omega, h2⟩
  · exact Or.inr ⟨by simp; omega, h.2⟩
theorem TInv.fin {s : ByteArray} {f k : Nat} {acc : List Rt.Tk} (h : TInv s (f + 1) k acc) (hlt : ¬ k < s.size) :
    (acc.length ≤ 24 ∧ Rt.toks s = some acc) ∨ (24 < acc.length ∧ Rt.toks s = none) := by
  rcases h with ⟨h1, h2⟩ | h
  · rw [Rt.toksFrom, if_neg hlt] at h2; exact Or.inl ⟨h1, h2.symm⟩
  · exact Or.inr h
def textV (t : Rt.Tk) : Value := .string t.text
set_option maxHeartbeats 1000000 in
set_option maxRecDepth 100000 in
theorem tokens_ref (s : ByteArray) (w : World) (hs : s.size ≤ 40000) :
    Calls Tryz.prog 80 #[.string s] w fun e w' => Below w.heap.size w w' ∧
      ((Rt.toks s = none ∧ ∃ v, e = .returned (.tuple #[v, .bool false])) ∨
       ∃ ts v, Rt.toks s = some ts ∧ e = .returned (.tuple #[v, .bool true]) ∧ w'.ownsRow w.heap.size 9 1 v ts.length (ts.map textV)) := by
  have hm : s.size ≤ maxLen := by unfold maxLen; omega
  obtain ⟨i0, hi, hz0, hz1, hz2⟩ := info_parts Tryz.infoStr
  go_enter Tryz.func80, Tryz.ntmps80
  go_wp2
  go_loopw [4, 5] (fun v i wr => ∃ (k f : Nat) (acc : List Rt.Tk), k ≤ s.size ∧ i = .int .i64 k ∧ s.size < f + k ∧ acc.length ≤ k ∧ TInv s f k acc ∧ wr.ownsRow w.heap.size 9 1 v acc.length (acc.map textV) ∧ Below w.heap.size w wr)
    (fun _ i _ => s.size - (intOf i).toNat)
  case atStart => exact ⟨0, s.size + 1, [], Nat.zero_le _, rfl, by omega, by simp, Or.inl ⟨by simp, rfl⟩, World.ownsRow_nil _ _ _ _, Below.refl _ _⟩
  case round =>
    obtain ⟨k, f, acc, hk, rfl, hf, hacc, heq, hown, hnx⟩ := hrel
    have HQ := hide heq
    clear heq
    have hsz := hnx.size
    obtain ⟨f, rfl⟩ : ∃ g, f = g + 1 := ⟨f - 1, by omega⟩
    obtain ⟨ad, cap, rfl⟩ := ownsRow_form hown
    by_cases hlt : k < s.size
    · have hB := Rt.byteAt_lt hlt
      by_cases hb : s[k].toNat = 32
      · have HR := hide ((unhide HQ).skip hlt (by rw [hB, hb]; rfl))
        clear hB
        have hb' : ((s[k].toNat : Int) == 32) = true := by simp [hb]
        clear hb
        go_wp2_with fail
        go_roundw
        case rel => exact ⟨k + 1, f, acc, by omega, by go_num, by omega, by omega, unhide HR, hown, hnx⟩
        case measure => simp [intOf]; omega
      · have hb' : ((s[k].toNat : Int) == 32) = false := by simp; omega
        have hne : ¬ Rt.byteAt s k = 32 := by rw [hB]; omega
        have HN := hide hne
        have HB := hide hB
        clear hne
        cases hl : Rf.letterB (s[k].toNat : Int) with
        | true =>
          have hd := letter_not_digit hl
          have hp := Rt.cw_pos s 97 122 k hlt (by rw [within_letter]; exact hl)
          have hle := Rt.cw_le s 97 122 k (by omega)
          have HE := hide (show Rf.runN s k = Rt.cw s 97 122 k by unfold Rf.runN; rw [unhide HB, if_pos hl])
          by_cases h8 : 8 < Rt.cw s 97 122 k
          · have HR := hide ((unhide HQ).stop hlt (unhide HN) (by unfold Rt.measN; rw [if_pos h8]))
            clear hB
            go_wp2_with (first | (go_at_call 129; refine (run_ref s k _ hm hlt).mono ?_; rintro e w' ⟨rfl, rfl⟩; rw [unhide HE]) | (go_at_call 130; refine (letter_any _ _).mono ?_; rintro e w' ⟨rfl, rfl⟩) | (go_at_call 131; refine (digit_any _ _).mono ?_; rintro e w' ⟨rfl, rfl⟩))
            go_ret2
            exact ⟨hnx, Or.inl ⟨unhide HR, _, rfl⟩⟩
          · have hM : Rt.measN s k = Rt.cw s 97 122 k := by unfold Rt.measN; rw [if_neg h8, if_pos hp]
            have h := (unhide HQ).next hlt (unhide HN) (by rw [hM]; exact hp)
            rw [hM] at h
            have HR := hide h
            have hz' : ((Rt.cw s 97 122 k : Int) == 0) = false := by simp; omega
            clear hB h hM
            go_wp2_with (first
              | (at_builtin; refine wpList_append_own _ rfl _ _ 87 rfl w.heap.size 9 i0 _ 1 16 Tryz.underlying87 hi hz0 hz1 hz2 rfl (by decide) _ _ _ rfl (hown.alloc _) ⟨_, 0, none⟩ 1 1 [.string (s.extract k (k + Rt.cw s 97 122 k))] rfl rfl (cell_one_new _ _ _) ?c2 ?c3 ?c4 ?c5 ?_)
              | (go_at_call 129; refine (run_ref s k _ hm hlt).mono ?_; rintro e w' ⟨rfl, rfl⟩; rw [unhide HE]) | (go_at_call 130; refine (letter_any _ _).mono ?_; rintro e w' ⟨rfl, rfl⟩) | (go_at_call 131; refine (digit_any _ _).mono ?_; rintro e w' ⟨rfl, rfl⟩))
            case c2 => intro u hu; simp at hu; rcases hu with rfl; rfl
            case c3 => unfold maxLen; omega
            case c4 => omega
            case c5 => simp; omega
            intro v' w1 hown' hgrow _
            have hb2 := below_append hnx hsz hown hgrow
            clear hgrow hown hnx
            go_wp2
            go_roundw
            case rel => exact ⟨k + Rt.cw s 97 122 k, f, _, by omega, by go_num, by omega, by simp; omega, unhide HR, by rw [List.map_append]; simpa [textV] using hown', hb2⟩
            case measure => simp [intOf]; omega
        | false =>
          cases hd : Rf.digitB (s[k].toNat : Int) with
          | true =>
            have h0 := Rt.cw_zero s 97 122 k hlt (by rw [within_letter]; exact hl)
            have hp := Rt.cw_pos s 48 57 k hlt (by rw [within_digit]; exact hd)
            have hle := Rt.cw_le s 48 57 k (by omega)
            have HE := hide (show Rf.runN s k = Rt.cw s 48 57 k by unfold Rf.runN; rw [unhide HB, if_neg (by rw [hl]; simp), if_pos hd])
            by_cases h8 : 9 < Rt.cw s 48 57 k
            · have HR := hide ((unhide HQ).stop hlt (unhide HN) (by unfold Rt.measN; rw [h0, if_neg (by omega), if_neg (by omega), if_pos h8]))
              clear hB
              go_wp2_with (first | (go_at_call 129; refine (run_ref s k _ hm hlt).mono ?_; rintro e w' ⟨rfl, rfl⟩; rw [unhide HE]) | (go_at_call 130; refine (letter_any _ _).mono ?_; rintro e w' ⟨rfl, rfl⟩) | (go_at_call 131; refine (digit_any _ _).mono ?_; rintro e w' ⟨rfl, rfl⟩))
              go_ret2
              exact ⟨hnx, Or.inl ⟨unhide HR, _, rfl⟩⟩
            · have hM : Rt.measN s k = Rt.cw s 48 57 k := by unfold Rt.measN; rw [h0, if_neg (by omega), if_neg (by omega), if_neg h8, if_pos hp]
              have h := (unhide HQ).next hlt (unhide HN) (by rw [hM]; exact hp)
              rw [hM] at h
              have HR := hide h
              have hz' : ((Rt.cw s 48 57 k : Int) == 0) = false := by simp; omega
              clear hB h hM
              go_wp2_with (first
                | (at_builtin; refine wpList_append_own _ rfl _ _ 87 rfl w.heap.size 9 i0 _ 1 16 Tryz.underlying87 hi hz0 hz1 hz2 rfl (by decide) _ _ _ rfl (hown.alloc _) ⟨_, 0, none⟩ 1 1 [.string (s.extract k (k + Rt.cw s 48 57 k))] rfl rfl (cell_one_new _ _ _) ?c2 ?c3 ?c4 ?c5 ?_)
                | (go_at_call 129; refine (run_ref s k _ hm hlt).mono ?_; rintro e w' ⟨rfl, rfl⟩; rw [unhide HE]) | (go_at_call 130; refine (letter_any _ _).mono ?_; rintro e w' ⟨rfl, rfl⟩) | (go_at_call 131; refine (digit_any _ _).mono ?_; rintro e w' ⟨rfl, rfl⟩))
              case c2 => intro u hu; simp at hu; rcases hu with rfl; rfl
              case c3 => unfold maxLen; omega
              case c4 => omega
              case c5 => simp; omega
              intro v' w1 hown' hgrow _
              have hb2 := below_append hnx hsz hown hgrow
              clear hgrow hown hnx
              go_wp2
              go_roundw
              case rel => exact ⟨k + Rt.cw s 48 57 k, f, _, by omega, by go_num, by omega, by simp; omega, unhide HR, by rw [List.map_append]; simpa [textV] using hown', hb2⟩
              case measure => simp [intOf]; omega
          | false =>
            have h0 := Rt.cw_zero s 97 122 k hlt (by rw [within_letter]; exact hl)
            have h1 := Rt.cw_zero s 48 57 k hlt (by rw [within_digit]; exact hd)
            have HE := hide (show Rf.runN s k = 0 by unfold Rf.runN; rw [unhide HB, if_neg (by rw [hl]; simp), if_neg (by rw [hd]; simp)])
            have hM : Rt.measN s k = if Rt.sign (s[k].toNat : Int) = true then 1 else 0 := by
              unfold Rt.measN
              rw [h0, h1, if_neg (by omega), if_neg (by omega), if_neg (by omega), if_neg (by omega), unhide HB]
              simp [hlt]
            have HM := hide hM
            have HG := hide ((congrArg (Rf.inB Rf.signW) (Rt.one_byte s k hlt)).trans (Rt.sign_in s[k]))
            clear hB h0 h1 hM
            go_wp2_with (first | (go_at_call 129; refine (run_ref s k _ hm hlt).mono ?_; rintro e w' ⟨rfl, rfl⟩; rw [unhide HE]) | (go_at_call 130; refine (letter_any _ _).mono ?_; rintro e w' ⟨rfl, rfl⟩) | (go_at_call 131; refine (digit_any _ _).mono ?_; rintro e w' ⟨rfl, rfl⟩))
            have g1 : (k : Int) + 1 ≤ (s.size : Int) := by omega
            have g2 : (0 : Int) ≤ (k : Int) := by omega
            have g3 : (k : Int) ≤ (k : Int) + 1 := by omega
            have g4 : (0 : Int) ≤ (k : Int) + 1 := by omega
            have g5 : IntKind.i64.wrap ((k : Int) + 1) = (k : Int) + 1 := IntWalk.i64_in _ (by omega)
            go_region_held3 (fun _ => True) (trivial) (first | (go_at_call 133; refine (signs_ref _).mono ?_; rintro e w1 ⟨v, rfl, hv, hb1⟩) | (go_at_call 132; refine (in_any _ _ _ (s.extract k (k + 1)) (by first | exact hv | exact hv.later (below_to_drew _)) (by decide)).mono ?_; rintro e w2 ⟨rfl, rfl⟩; rw [unhide HG]))
            have hb1' := below_of_drew hb1
            have hown1 := own_later hown hb1'
            have hnx1 := hnx.trans (hb1'.mono (B' := w.heap.size) hsz)
            have hsz1 := hnx1.size
            clear hown hb1 hb1' hnx hsz hv
            cases hg : Rt.sign (s[k].toNat : Int) with
            | false =>
              have HR := hide ((unhide HQ).stop hlt (unhide HN) (by rw [unhide HM, hg]; rfl))
              go_wp2_with fail
              go_ret2
              exact ⟨hnx1, Or.inl ⟨unhide HR, _, rfl⟩⟩
            | true =>
              have hM : Rt.measN s k = 1 := by rw [unhide HM, hg]; rfl
              have h := (unhide HQ).next hlt (unhide HN) (by rw [hM]; omega)
              rw [hM] at h
              have HR := hide h
              clear h hM
              go_wp2_with (first
                | (at_builtin; refine wpList_append_own _ rfl _ _ 87 rfl w.heap.size 9 i0 _ 1 16 Tryz.underlying87 hi hz0 hz1 hz2 rfl (by decide) _ _ _ rfl (hown1.alloc _) ⟨_, 0, none⟩ 1 1 [.string (s.extract k (k + 1))] rfl rfl (cell_one_new _ _ _) ?c2 ?c3 ?c4 ?c5 ?_)
                | (go_at_call 129; refine (run_ref s k _ hm hlt).mono ?_; rintro e w' ⟨rfl, rfl⟩; rw [unhide HE]) | (go_at_call 130; refine (letter_any _ _).mono ?_; rintro e w' ⟨rfl, rfl⟩) | (go_at_call 131; refine (digit_any _ _).mono ?_; rintro e w' ⟨rfl, rfl⟩))
              case c2 => intro u hu; simp at hu; rcases hu with rfl; rfl
              case c3 => unfold maxLen; omega
              case c4 => omega
              case c5 => simp; omega
              intro v' w1 hown' hgrow _
              have hb2 := below_append hnx1 hsz1 hown1 hgrow
              clear hgrow hown1 hnx1
              go_wp2
              go_roundw
              case rel => exact ⟨k + 1, f, _, by omega, by go_num, by omega, by simp; omega, unhide HR, by rw [List.map_append]; simpa [textV] using hown', hb2⟩
              case measure => simp [intOf]; omega
    · rcases (unhide HQ).fin hlt with ⟨h24, hT⟩ | ⟨h24, hT⟩
      · go_wp2_with fail
        go_ret2
        exact ⟨hnx, Or.inr ⟨acc, _, hT, congrArg (fun b => Ending.returned (.tuple #[.slice ad acc.length cap, .bool b])) (decide_eq_true (by omega)), hown⟩⟩
      · go_wp2_with fail
        go_ret2
        exact ⟨hnx, Or.inl ⟨hT, _, congrArg (fun b => Ending.returned (.tuple #[.slice ad acc.length cap, .bool b])) (decide_eq_false (by omega))⟩⟩
theorem Strs.form {w : World} {v : Value} {xs : List ByteArray} (h : Strs w v xs) : ∃ ad cap, v = .slice ad xs.length cap ∧ xs.length ≤ cap := by
  obtain ⟨ad, cap, h1, h2, _⟩ := h; exact ⟨ad, cap, h1, h2⟩
theorem Strs.cell {w : World} {v : Value} {xs : List ByteArray} (h : Strs w v xs) {j : Nat} (hj : j < xs.length) : ∃ b o cap, v = .slice (some ⟨b, o, none⟩) xs.length cap ∧ w.cell? ⟨b, o + j, none⟩ = some (.string xs[j]) := by
  obtain ⟨ad, cap, h1, h2, h⟩ := h
  rcases h with rfl | ⟨b, o, rfl, h⟩
  · simp at hj
  · exact ⟨b, o, cap, h1, h j hj⟩
set_option maxHeartbeats 4000000 in
set_option maxRecDepth 100000 in
theorem last_ref (w : World) (tv sv : Value) (t sg : List ByteArray) (ht : Strs w tv t) (hsg : Strs w sv sg) (hl : t.length ≤ 1000) (hl2 : sg.length ≤ 100) (hsz : ∀ x ∈ t, x.size ≤ 40000) :
    Calls Tryz.prog 174 #[tv, sv] w fun e w' => e = .returned (.int .i64 (Rf.last sg t)) ∧ Below w.heap.size w w' := by
  obtain ⟨ad, cap, rfl, hcap⟩ := ht.form
  obtain ⟨ad2, cap2, rfl, hcap2⟩ := hsg.form
  go_enter Tryz.func174, Tryz.ntmps174
  go_wp2
  go_loopw [5, 6, 7] (fun a d i wr => ∃ k : Nat, k ≤ t.length ∧ i = .int .i64 k ∧ a = .int .i64 (Rf.lastTo sg t k) ∧ d = .int .i64 (Rf.depth t k) ∧ Strs wr (.slice ad t.length cap) t ∧ Strs wr (.slice ad2 sg.length cap2) sg ∧ Below w.heap.size w wr)
    (fun _ _ i _ => t.length - (intOf i).toNat)
  case atStart => exact ⟨0, Nat.zero_le _, rfl, rfl, rfl, ht, hsg, Below.refl _ _⟩
  case round =>
    obtain ⟨k, hk, rfl, rfl, rfl, ht2, hs2, hbe⟩ := hrel
    by_cases hlt : k < t.length
    · obtain ⟨b, o, cap', he, cx⟩ := ht2.cell hlt
      simp at he
      obtain ⟨rfl, rfl⟩ := he
      have hdb := Rf.depth_b t k
      have hD : Rf.depth t (k + 1) = Rf.depth t k + Rf.dch t[k] := by rw [Rf.depth, Rf.at_lt hlt]
      have HD := hide hD
      have HL := hide (show Rf.lastTo sg t (k + 1) = if Rf.inB sg t[k] = true ∧ Rf.depth t (k + 1) = 0 ∧ 0 < k ∧ Rf.opdB (Rf.at' t (k - 1)) = true then (k : Int) else Rf.lastTo sg t k by rw [Rf.lastTo, Rf.at_lt hlt])
      have HX := hide (And.intro ht2 (And.intro hs2 hbe))
      have hlt' : (k : Int) < (t.length : Int) := by omega
      clear hD
      generalize hx : t[k] = x at *
      generalize Rf.depth t k = d at *
      generalize Rf.lastTo sg t k = a at *
      by_cases hk0 : 0 < k
      · have hk1 : k - 1 < t.length := by omega
        obtain ⟨b', o', cap'', he, cy⟩ := (unhide HX).1.cell hk1
        simp at he
        obtain ⟨⟨rfl, rfl⟩, rfl⟩ := he
        have hy := hsz _ (List.getElem_mem hk1)
        have HY := hide (Rf.at_lt hk1)
        have hy2 : t[k - 1].size ≤ maxLen := by unfold maxLen; omega
        clear hy
        generalize t[k - 1] = y at *
        rcases Rf.dch_cases x with ⟨h1, hd⟩ | ⟨h1, h2, hd⟩ | ⟨h1, h2, h3, hd⟩ | ⟨h1, h2, h3, h4, hd⟩ | ⟨h1, h2, h3, h4, hd⟩
        all_goals
          rw [hd] at HD
          clear hd
          go_wp2_with (first | (go_at_call 132; refine (in_any _ _ _ x (unhide HX).2.1 (by omega)).mono ?_; rintro e w1 ⟨rfl, rfl⟩) | (go_at_call 203; refine (operand_ref y _ hy2).mono ?_; rintro e w2 ⟨rfl, hb2⟩; have HB2 := hide hb2; clear hb2))
        all_goals
          go_roundw
          case rel =>
            refine ⟨k + 1, by omega, by go_num, congrArg _ ?_, congrArg _ ?_, ?_, ?_, ?_⟩
            · first
              | (rw [unhide HL, if_pos ⟨by assumption, by rw [unhide HD]; omega, by omega, by rw [unhide HY]; assumption⟩])
              | (rw [unhide HL, if_neg (by rintro ⟨q1, q2, q3, q4⟩; rw [unhide HD] at q2; first | contradiction | omega | (rw [unhide HY, ‹Rf.opdB y = false›] at q4; exact absurd q4 (by decide)))])
            · have := unhide HD; omega
            · first | exact (unhide HX).1 | exact (unhide HX).1.later (unhide HB2)
            · first | exact (unhide HX).2.1 | exact (unhide HX).2.1.later (unhide HB2)
            · first | exact (unhide HX).2.2 | exact (unhide HX).2.2.trans ((unhide HB2).mono (unhide HX).2.2.size)
          case measure => simp [intOf]; omega
      · rcases Rf.dch_cases x with ⟨h1, hd⟩ | ⟨h1, h2, hd⟩ | ⟨h1, h2, h3, hd⟩ | ⟨h1, h2, h3, h4, hd⟩ | ⟨h1, h2, h3, h4, hd⟩
        all_goals
          rw [hd] at HD
          clear hd
          go_wp2_with (first | (go_at_call 132; refine (in_any _ _ _ x (unhide HX).2.1 (by omega)).mono ?_; rintro e w1 ⟨rfl, rfl⟩))
        all_goals
          go_roundw
          case rel =>
            refine ⟨k + 1, by omega, by go_num, congrArg _ ?_, congrArg _ ?_, ?_, ?_, ?_⟩
            · first
              | (rw [unhide HL, if_pos ⟨by assumption, by rw [unhide HD]; omega, by omega, by rw [unhide HY]; assumption⟩])
              | (rw [unhide HL, if_neg (by rintro ⟨q1, q2, q3, q4⟩; rw [unhide HD] at q2; first | contradiction | omega | (rw [unhide HY, ‹Rf.opdB y = false›] at q4; exact absurd q4 (by decide)))])
            · have := unhide HD; omega
            · first | exact (unhide HX).1 | exact (unhide HX).1.later (unhide HB2)
            · first | exact (unhide HX).2.1 | exact (unhide HX).2.1.later (unhide HB2)
            · first | exact (unhide HX).2.2 | exact (unhide HX).2.2.trans ((unhide HB2).mono (unhide HX).2.2.size)
          case measure => simp [intOf]; omega
    · have hlt' : ¬ (k : Int) < (t.length : Int) := by omega
      have hkk : k = t.length := by omega
      subst hkk
      go_wp2_with fail
      go_ret
      exact ⟨rfl, hbe⟩
end Go.Proofs.YthleadfkfnnadaaGreat
