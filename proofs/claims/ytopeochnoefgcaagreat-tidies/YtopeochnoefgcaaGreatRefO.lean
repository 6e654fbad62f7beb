/- The document's answer: the walk of Tidy. -/
import Derived.Test.YtopeochnoefgcaaGreatEqvA
namespace Go.Proofs.YtopeochnoefgcaaGreat
open Go.RowKit

namespace Rf
/-- Blanks behind a text, two for each block. -/
def spTo (out : ByteArray) : Nat → ByteArray
  | 0 => out
  | k + 1 => spTo out k ++ ⟨#[32, 32]⟩
/-- The first i tokens of a line behind a text. -/
def tokTo (out : ByteArray) (deep : Int) (t : List ByteArray) : Nat → ByteArray
  | 0 => out
  | i + 1 => (if i = 0 then spTo (tokTo out deep t i) deep.toNat else tokTo out deep t i ++ ⟨#[32]⟩) ++ at' t i
/-- How far a line is set in. -/
def deepAt (ls : List (List ByteArray)) (l : Nat) : Int := cnt ls l - (if ((first (lineAt ls l)).toList == [101, 110, 100]) = true then 1 else 0) - (if ((first (lineAt ls l)).toList == [101, 108, 115, 101]) = true then 1 else 0)
/-- The first l lines, tidied. -/
def tidyTo (ls : List (List ByteArray)) : Nat → ByteArray
  | 0 => ⟨#[]⟩
  | l + 1 => tokTo (if 0 < l then tidyTo ls l ++ ⟨#[10]⟩ else tidyTo ls l) (deepAt ls l) (lineAt ls l) (lineAt ls l).length
def tidy (ls : List (List ByteArray)) : ByteArray := tidyTo ls ls.length
theorem readR_at {s : ByteArray} (h : (readR s).1 = 0) : (readR s).2.1 = 0 := by
  unfold readR at h ⊢
  split
  · rfl
  · rename_i q
    rw [if_neg q] at h
    split
    · rfl
    · rename_i q
      rw [if_neg q] at h
      split
      · rename_i q; rw [if_pos q] at h; simp at h
      · rename_i q
        rw [if_neg q] at h
        unfold readLines at h ⊢
        split
        · rename_i q; rw [if_pos q] at h; simp at h
        · rename_i q
          rw [if_neg q] at h
          split
          · rename_i q; rw [if_pos q] at h; simp at h
          · rename_i q
            rw [if_neg q] at h
            unfold readNames at h ⊢
            split
            · rfl
            · split
              · rfl
              · rfl
theorem spTo_size (out : ByteArray) : ∀ k, (spTo out k).size = out.size + 2 * k
  | 0 => rfl
  | k + 1 => by rw [spTo, ByteArray.size_append, spTo_size out k]; show _ + 2 = _; omega
theorem tokTo_size {t : List ByteArray} (hf : Few t) (out : ByteArray) (deep : Int) (hd : deep ≤ 200) : ∀ i, i ≤ t.length → (tokTo out deep t i).size ≤ out.size + 400 + i * 40001
  | 0, _ => by rw [tokTo]; omega
  | i + 1, hi => by
    have ih := tokTo_size hf out deep hd i (by omega)
    have hx := hf.2 _ (List.getElem_mem (show i < t.length by omega))
    rw [tokTo, ByteArray.size_append, at_lt (by omega)]
    split
    · rename_i h0
      subst h0
      rw [spTo_size]
      rw [tokTo]
      omega
    · rw [ByteArray.size_append]
      have : (ByteArray.mk #[32]).size = 1 := rfl
      omega
theorem cnt_b (ls : List (List ByteArray)) : ∀ l : Nat, -(l : Int) ≤ cnt ls l ∧ cnt ls l ≤ l
  | 0 => by simp [cnt]
  | l + 1 => by
    have := cnt_b ls l
    rw [cnt]
    split <;> split <;> omega
theorem deep_b (ls : List (List ByteArray)) (l : Nat) : -(l : Int) - 2 ≤ deepAt ls l ∧ deepAt ls l ≤ l := by
  have := cnt_b ls l
  unfold deepAt
  split <;> split <;> omega
theorem lineAt_few {ls : List (List ByteArray)} (h : ∀ t ∈ ls, Few t) (l : Nat) (hl : l < ls.length) : Few (lineAt ls l) := by rw [lineAt_lt hl]; exact h _ (List.getElem_mem hl)
theorem tidyTo_size {ls : List (List ByteArray)} (h : ∀ t ∈ ls, Few t) (hl : ls.length ≤ 100) : ∀ l, l ≤ ls.length → (tidyTo ls l).size ≤ l * 50000000
  | 0, _ => Nat.zero_le _
  | l + 1, hl1 => by
    have ih := tidyTo_size h hl l (by omega)
    have hf := lineAt_few h l (by omega)
    have hd := deep_b ls l
    have h1 := hf.1
    rw [tidyTo]
    have h2 := tokTo_size hf (if 0 < l then tidyTo ls l ++ ⟨#[10]⟩ else tidyTo ls l) (deepAt ls l) (by omega) _ (Nat.le_refl _)
    have h3 : (if 0 < l then tidyTo ls l ++ ⟨#[10]⟩ else tidyTo ls l).size ≤ l * 50000000 + 1 := by
      split
      · rw [ByteArray.size_append]; have : (ByteArray.mk #[10]).size = 1 := rfl; rw [this]; exact Nat.succ_le_succ ih
      · exact Nat.le_succ_of_le ih
    have h4 : (lineAt ls l).length * 40001 ≤ 1000 * 40001 := Nat.mul_le_mul_right _ h1
    omega
/-- A line is an end, an else, an opener, or nothing of these. -/
theorem opens_cases (t : List ByteArray) : (((first t).toList == [101, 110, 100]) = true ∧ ((first t).toList == [101, 108, 115, 101]) = false ∧ opensB t = false) ∨ (((first t).toList == [101, 110, 100]) = false ∧ ((first t).toList == [101, 108, 115, 101]) = true ∧ opensB t = false) ∨
    (((first t).toList == [101, 110, 100]) = false ∧ ((first t).toList == [101, 108, 115, 101]) = false ∧ opensB t = true) ∨ (((first t).toList == [101, 110, 100]) = false ∧ ((first t).toList == [101, 108, 115, 101]) = false ∧ opensB t = false) := by
  unfold opensB
  generalize (first t).toList = z
  by_cases h1 : z = [101, 110, 100]
  · subst h1; left; decide
  by_cases h2 : z = [101, 108, 115, 101]
  · subst h2; right; left; decide
  have e1 : (z == [101, 110, 100]) = false := by simpa using h1
  have e2 : (z == [101, 108, 115, 101]) = false := by simpa using h2
  rw [e1, e2]
  right; right
  generalize (_ || _ : Bool) = b
  cases b
  · right; exact ⟨rfl, rfl, rfl⟩
  · left; exact ⟨rfl, rfl, rfl⟩
end Rf

theorem add_text {a b : ByteArray} (h : a.size + b.size ≤ 9223372036854775807) (w : World) : (Op.stringOp .add a b).run Tryz.prog w = .ok (.string (a ++ b)) w := run_string_add_sum w a b h

/-- What Tidy answers. -/
def TidyRP (s : ByteArray) (w : World) (e : Ending) (w' : World) : Prop := Below w.heap.size w w' ∧
  ((¬ (Rf.readR s).1 = 0 ∧ e = .returned (.tuple #[.string ⟨#[]⟩, .int .i64 (Rf.readR s).1, .int .i64 (Rf.readR s).2.1])) ∨
   ((Rf.readR s).1 = 0 ∧ e = .returned (.tuple #[.string (Rf.tidy (Rf.readR s).2.2), .int .i64 0, .int .i64 0])))

set_option maxHeartbeats 4000000 in
set_option maxRecDepth 100000 in
theorem Tidy_ref (s : ByteArray) (w : World) (hs : s.size ≤ maxLen) :
    Calls Tryz.prog 21 #[.string s] w (TidyRP s w) := by
  go_enter Tryz.func21, Tryz.ntmps21
  go_wp2_with fail
  refine (Read_ref s _ hs).mono ?_
  rintro e w1 ⟨hb1, (⟨hne, rfl⟩ | ⟨h0, hat0, hli, hp, hl, S, g, cap, rfl, hG⟩)⟩
  · have HB := hide hb1
    have hne' : ((Rf.readR s).1 == 0) = false := by rw [beq_eq_false_iff_ne]; exact hne
    have HN := hide hne
    clear hb1 hne
    go_wp2_with fail
    go_ret3
    exact ⟨unhide HB, Or.inl ⟨unhide HN, rfl⟩⟩
  · have H0 := hide h0
    have HB := hide hb1
    have HGG := hide hG
    have HLi := hide hli
    have hsz1 := hb1.size
    clear hat0 hli hb1 h0 hG
    generalize hls : (Rf.readR s).2.2 = ls at *
    have HLS := hide hls
    clear hls
    go_wp2_with fail
    go_loopw [8, 9, 10] (fun o c i wr => ∃ k : Nat, k ≤ ls.length ∧ i = .int .i64 ((k : Int) + 1) ∧ c = .int .i64 (Rf.cnt ls k) ∧ o = .string (Rf.tidyTo ls k) ∧ Below w1.heap.size w1 wr)
      (fun _ _ i _ => ls.length + 1 - (intOf i).toNat)
    case atStart => exact ⟨0, by omega, rfl, rfl, rfl, Below.refl _ _⟩
    case round =>
      obtain ⟨k, hk, rfl, rfl, rfl, hbe⟩ := hrel
      have hG := (unhide HGG).later hbe
      have cT := hG.top
      have HG := hide hG
      have HX := hide hbe
      clear hG hbe
      by_cases hkl : k < ls.length
      · have hj' : (k : Int) + 1 ≤ (ls.length : Int) := by omega
        have HC : Hid (Rf.cnt ls (k + 1) = Rf.cnt ls k + (if Rf.opensB ls[k] = true then 1 else 0) - (if ((Rf.first ls[k]).toList == [101, 110, 100]) = true then 1 else 0)) := hide (by rw [Rf.cnt, Rf.lineAt_lt hkl])
        have HD : Hid (Rf.deepAt ls k = Rf.cnt ls k - (if ((Rf.first ls[k]).toList == [101, 110, 100]) = true then 1 else 0) - (if ((Rf.first ls[k]).toList == [101, 108, 115, 101]) = true then 1 else 0)) := hide (by rw [Rf.deepAt, Rf.lineAt_lt hkl])
        have HO : Hid (Rf.tidyTo ls (k + 1) = Rf.tokTo (if 0 < k then Rf.tidyTo ls k ++ ⟨#[10]⟩ else Rf.tidyTo ls k) (Rf.deepAt ls k) ls[k] ls[k].length) := hide (by rw [Rf.tidyTo, Rf.lineAt_lt hkl])
        obtain ⟨hc1, hc2⟩ := Rf.cnt_b ls k
        have HW := hide (Rf.opens_cases ls[k])
        go_wp2_with fail
        refine (head_ref _ S g cap ls k (unhide HG) hkl hl).mono ?_
        rintro e w2 ⟨rfl, hb2⟩
        have HG2 := hide ((unhide HG).later hb2)
        have HX2 := hide ((unhide HX).trans (hb2.mono (unhide HX).size))
        clear HG HX hb2 cT
        have hcb : Rf.cnt ls k ≤ 100 := by omega
        have hca : -100 ≤ Rf.cnt ls k := by omega
        clear hc1 hc2
        generalize Rf.first ls[k] = z at *
        generalize Rf.cnt ls k = c at *
        generalize Rf.deepAt ls k = d at *
        have hk100 : k ≤ 100 := by omega
        have hwm : IntKind.i64.wrap (c - 1) = c - 1 := IntWalk.i64_in _ ⟨by omega, by omega⟩
        have hwp : IntKind.i64.wrap (c + 1) = c + 1 := IntWalk.i64_in _ ⟨by omega, by omega⟩
        rcases unhide HW with ⟨e1, e2, e3⟩ | ⟨e1, e2, e3⟩ | ⟨e1, e2, e3⟩ | ⟨e1, e2, e3⟩
        all_goals
          rw [e1, e3] at HC
          rw [e1, e2] at HD
          clear HW
          simp only [if_true, if_false, Bool.false_eq_true] at HC HD
        · have hwd : IntKind.i64.wrap (c - 1) = d := by rw [hwm]; have := unhide HD; omega
          clear hwm hwp
          go_wp2_with fail
          refine (opens_ref _ S g cap ls k (unhide HG2) hkl hl).mono ?_
          rintro e w3 ⟨rfl, hb3⟩
          rw [e3]
          have HG3 := hide ((unhide HG2).later hb3)
          have HX3 := hide ((unhide HX2).trans (hb3.mono (unhide HX2).size))
          clear HG2 HX2 hb3
          have cT := (unhide HG3).top
          obtain ⟨ad, cp, cR, hv⟩ := (unhide HG3).row k hkl
          have hkl' : (k : Int) < (ls.length : Int) := by omega
          have hw1 : IntKind.i64.wrap ((k : Int) + 1 - 1) = k := by rw [show (k : Int) + 1 - 1 = (k : Int) by omega]; exact IntWalk.i64_in _ ⟨by omega, by omega⟩
          have hw0 : IntKind.i64.wrap (k : Int) = k := IntWalk.i64_in _ ⟨by omega, by omega⟩
          have HV := hide hv
          clear hv e3
          have HFw := hide ((unhide HLi).few _ (List.getElem_mem hkl))
          have HSZ : Hid ((Rf.tidyTo ls k).size ≤ 5000000000) := hide (by have := Rf.tidyTo_size (unhide HLi).few hl k hk; omega)
          have hd100 : d ≤ 100 := by have := unhide HD; omega
          have hfw := (unhide HFw).1
          generalize ls[k] = t at *
          by_cases hkp : 0 < k
          · have hkp' : (1 : Int) < (k : Int) + 1 := by omega
            rw [if_pos hkp] at HO
            have hadd := add_text (a := Rf.tidyTo ls k) (b := ⟨#[10]⟩) (by have := unhide HSZ; show _ + 1 ≤ _; omega)
            have HS1 : Hid ((Rf.tidyTo ls k ++ ⟨#[10]⟩).size ≤ 5000000001) := hide (by have := unhide HSZ; rw [ByteArray.size_append]; show _ + 1 ≤ _; omega)
            go_wp2_with fail
            clear hadd HSZ
            generalize (Rf.tidyTo ls k ++ ⟨#[10]⟩) = o1 at *
            go_loopw [8, 15, 16] (fun o i _ wr => ∃ j : Nat, j ≤ t.length ∧ i = .int .i64 j ∧ o = .string (Rf.tokTo o1 d t j) ∧ wr = w3) (fun _ i _ _ => t.length + 1 - (intOf i).toNat)
            case atStart => exact ⟨0, by omega, rfl, rfl, rfl⟩
            case round =>
              obtain ⟨j, hj, rfl, rfl, rfl⟩ := hrel
              by_cases hjt : j < t.length
              · have hjt' : (j : Int) < (t.length : Int) := by omega
                have hj0 : (0 : Int) ≤ (j : Int) := by omega
                obtain ⟨b, o, cp', he, cJ⟩ := (unhide HV).cell hjt
                simp only [Value.slice.injEq, true_and] at he
                obtain ⟨rfl, he⟩ := he
                clear he
                have HT : Hid (Rf.tokTo o1 d t (j + 1) = (if j = 0 then Rf.spTo (Rf.tokTo o1 d t j) d.toNat else Rf.tokTo o1 d t j ++ ⟨#[32]⟩) ++ t[j]) := hide (by rw [Rf.tokTo, Rf.at_lt hjt])
                have HXs := hide ((unhide HFw).2 _ (List.getElem_mem hjt))
                have HS2 : Hid ((Rf.tokTo o1 d t j).size ≤ 5100000001) := hide (by have := Rf.tokTo_size (unhide HFw) o1 d (by omega) j hj; have := unhide HS1; omega)
                generalize t[j] = x at *
                by_cases hj1 : j = 0
                · have hj1' : ((j : Int) == 0) = true := by simpa using hj1
                  rw [if_pos hj1] at HT
                  clear hj1
                  generalize Rf.tokTo o1 d t j = o2 at *
                  go_wp2_with fail
                  go_loopw [8, 16] (fun o i wr' => ∃ m : Nat, m ≤ d.toNat ∧ i = .int .i64 m ∧ o = .string (Rf.spTo o2 m) ∧ wr' = wr) (fun _ i _ => d.toNat + 1 - (intOf i).toNat)
                  case atStart => exact ⟨0, by omega, rfl, rfl, rfl⟩
                  case round =>
                    obtain ⟨m, hm, rfl, rfl, rfl⟩ := hrel
                    by_cases hmd : m < d.toNat
                    · have hmd' : (m : Int) < d := by omega
                      have hadd := add_text (a := Rf.spTo o2 m) (b := ⟨#[32, 32]⟩) (by rw [Rf.spTo_size]; have := unhide HS2; show _ + 2 ≤ _; omega)
                      go_wp2_with fail
                      go_roundw
                      case rel => exact ⟨m + 1, by omega, by go_num, rfl, trivial⟩
                      case measure => simp [intOf]; omega
                    · have hmd' : ¬ (m : Int) < d := by omega
                      have HM : Hid (Rf.spTo o2 d.toNat = Rf.spTo o2 m) := hide (by rw [show d.toNat = m by omega])
                      have hadd := add_text (a := Rf.spTo o2 m) (b := x) (by rw [Rf.spTo_size]; have := unhide HS2; have := unhide HXs; omega)
                      clear hmd hm
                      go_wp2_with fail
                      go_roundw
                      case rel => exact ⟨j + 1, by omega, by go_num, by rw [unhide HT, unhide HM], trivial⟩
                      case measure => simp [intOf]; omega
                · have hj1' : ((j : Int) == 0) = false := by simpa using hj1
                  rw [if_neg hj1] at HT
                  clear hj1
                  generalize Rf.tokTo o1 d t j = o2 at *
                  have hadd := add_text (a := o2) (b := ⟨#[32]⟩) (by have := unhide HS2; show _ + 1 ≤ _; omega)
                  have hadd2 := add_text (a := o2 ++ ⟨#[32]⟩) (b := x) (by rw [ByteArray.size_append]; have := unhide HS2; have := unhide HXs; show _ + 1 + _ ≤ _; omega)
                  go_wp2_with fail
                  go_roundw
                  case rel => exact ⟨j + 1, by omega, by go_num, by rw [unhide HT], trivial⟩
                  case measure => simp [intOf]; omega
              · have hjt' : ¬ (j : Int) < (t.length : Int) := by omega
                have HJ : Hid (Rf.tokTo o1 d t t.length = Rf.tokTo o1 d t j) := hide (by rw [show t.length = j by omega])
                go_wp2_with fail
                go_roundw
                case rel => exact ⟨k + 1, by omega, by go_num, congrArg (Value.int .i64) (by have := unhide HC; have := unhide HD; omega), by rw [unhide HO, unhide HJ], unhide HX3⟩
                case measure => simp [intOf]; omega
          · have hkp' : ¬ (1 : Int) < (k : Int) + 1 := by omega
            rw [if_neg hkp] at HO
            have HS1 : Hid ((Rf.tidyTo ls k).size ≤ 5000000001) := hide (by have := unhide HSZ; omega)
            clear HSZ
            go_wp2_with fail
            generalize Rf.tidyTo ls k = o1 at *
            go_loopw [8, 15, 16] (fun o i _ wr => ∃ j : Nat, j ≤ t.length ∧ i = .int .i64 j ∧ o = .string (Rf.tokTo o1 d t j) ∧ wr = w3) (fun _ i _ _ => t.length + 1 - (intOf i).toNat)
            case atStart => exact ⟨0, by omega, rfl, rfl, rfl⟩
            case round =>
              obtain ⟨j, hj, rfl, rfl, rfl⟩ := hrel
              by_cases hjt : j < t.length
              · have hjt' : (j : Int) < (t.length : Int) := by omega
                have hj0 : (0 : Int) ≤ (j : Int) := by omega
                obtain ⟨b, o, cp', he, cJ⟩ := (unhide HV).cell hjt
                simp only [Value.slice.injEq, true_and] at he
                obtain ⟨rfl, he⟩ := he
                clear he
                have HT : Hid (Rf.tokTo o1 d t (j + 1) = (if j = 0 then Rf.spTo (Rf.tokTo o1 d t j) d.toNat else Rf.tokTo o1 d t j ++ ⟨#[32]⟩) ++ t[j]) := hide (by rw [Rf.tokTo, Rf.at_lt hjt])
                have HXs := hide ((unhide HFw).2 _ (List.getElem_mem hjt))
                have HS2 : Hid ((Rf.tokTo o1 d t j).size ≤ 5100000001) := hide (by have := Rf.tokTo_size (unhide HFw) o1 d (by omega) j hj; have := unhide HS1; omega)
                generalize t[j] = x at *
                by_cases hj1 : j = 0
                · have hj1' : ((j : Int) == 0) = true := by simpa using hj1
                  rw [if_pos hj1] at HT
                  clear hj1
                  generalize Rf.tokTo o1 d t j = o2 at *
                  go_wp2_with fail
                  go_loopw [8, 16] (fun o i wr' => ∃ m : Nat, m ≤ d.toNat ∧ i = .int .i64 m ∧ o = .string (Rf.spTo o2 m) ∧ wr' = wr) (fun _ i _ => d.toNat + 1 - (intOf i).toNat)
                  case atStart => exact ⟨0, by omega, rfl, rfl, rfl⟩
                  case round =>
                    obtain ⟨m, hm, rfl, rfl, rfl⟩ := hrel
                    by_cases hmd : m < d.toNat
                    · have hmd' : (m : Int) < d := by omega
                      have hadd := add_text (a := Rf.spTo o2 m) (b := ⟨#[32, 32]⟩) (by rw [Rf.spTo_size]; have := unhide HS2; show _ + 2 ≤ _; omega)
                      go_wp2_with fail
                      go_roundw
                      case rel => exact ⟨m + 1, by omega, by go_num, rfl, trivial⟩
                      case measure => simp [intOf]; omega
                    · have hmd' : ¬ (m : Int) < d := by omega
                      have HM : Hid (Rf.spTo o2 d.toNat = Rf.spTo o2 m) := hide (by rw [show d.toNat = m by omega])
                      have hadd := add_text (a := Rf.spTo o2 m) (b := x) (by rw [Rf.spTo_size]; have := unhide HS2; have := unhide HXs; omega)
                      clear hmd hm
                      go_wp2_with fail
                      go_roundw
                      case rel => exact ⟨j + 1, by omega, by go_num, by rw [unhide HT, unhide HM], trivial⟩
                      case measure => simp [intOf]; omega
                · have hj1' : ((j : Int) == 0) = false := by simpa using hj1
                  rw [if_neg hj1] at HT
                  clear hj1
                  generalize Rf.tokTo o1 d t j = o2 at *
                  have hadd := add_text (a := o2) (b := ⟨#[32]⟩) (by have := unhide HS2; show _ + 1 ≤ _; omega)
                  have hadd2 := add_text (a := o2 ++ ⟨#[32]⟩) (b := x) (by rw [ByteArray.size_append]; have := unhide HS2; have := unhide HXs; show _ + 1 + _ ≤ _; omega)
                  go_wp2_with fail
                  go_roundw
                  case rel => exact ⟨j + 1, by omega, by go_num, by rw [unhide HT], trivial⟩
                  case measure => simp [intOf]; omega
              · have hjt' : ¬ (j : Int) < (t.length : Int) := by omega
                have HJ : Hid (Rf.tokTo o1 d t t.length = Rf.tokTo o1 d t j) := hide (by rw [show t.length = j by omega])
                go_wp2_with fail
                go_roundw
                case rel => exact ⟨k + 1, by omega, by go_num, congrArg (Value.int .i64) (by have := unhide HC; have := unhide HD; omega), by rw [unhide HO, unhide HJ], unhide HX3⟩
                case measure => simp [intOf]; omega
        · have hwd : IntKind.i64.wrap (c - 1) = d := by rw [hwm]; have := unhide HD; omega
          clear hwm hwp
          go_wp2_with fail
          refine (opens_ref _ S g cap ls k (unhide HG2) hkl hl).mono ?_
          rintro e w3 ⟨rfl, hb3⟩
          rw [e3]
          have HG3 := hide ((unhide HG2).later hb3)
          have HX3 := hide ((unhide HX2).trans (hb3.mono (unhide HX2).size))
          clear HG2 HX2 hb3
          have cT := (unhide HG3).top
          obtain ⟨ad, cp, cR, hv⟩ := (unhide HG3).row k hkl
          have hkl' : (k : Int) < (ls.length : Int) := by omega
          have hw1 : IntKind.i64.wrap ((k : Int) + 1 - 1) = k := by rw [show (k : Int) + 1 - 1 = (k : Int) by omega]; exact IntWalk.i64_in _ ⟨by omega, by omega⟩
          have hw0 : IntKind.i64.wrap (k : Int) = k := IntWalk.i64_in _ ⟨by omega, by omega⟩
          have HV := hide hv
          clear hv e3
          have HFw := hide ((unhide HLi).few _ (List.getElem_mem hkl))
          have HSZ : Hid ((Rf.tidyTo ls k).size ≤ 5000000000) := hide (by have := Rf.tidyTo_size (unhide HLi).few hl k hk; omega)
          have hd100 : d ≤ 100 := by have := unhide HD; omega
          have hfw := (unhide HFw).1
          generalize ls[k] = t at *
          by_cases hkp : 0 < k
          · have hkp' : (1 : Int) < (k : Int) + 1 := by omega
            rw [if_pos hkp] at HO
            have hadd := add_text (a := Rf.tidyTo ls k) (b := ⟨#[10]⟩) (by have := unhide HSZ; show _ + 1 ≤ _; omega)
            have HS1 : Hid ((Rf.tidyTo ls k ++ ⟨#[10]⟩).size ≤ 5000000001) := hide (by have := unhide HSZ; rw [ByteArray.size_append]; show _ + 1 ≤ _; omega)
            go_wp2_with fail
            clear hadd HSZ
            generalize (Rf.tidyTo ls k ++ ⟨#[10]⟩) = o1 at *
            go_loopw [8, 15, 16] (fun o i _ wr => ∃ j : Nat, j ≤ t.length ∧ i = .int .i64 j ∧ o = .string (Rf.tokTo o1 d t j) ∧ wr = w3) (fun _ i _ _ => t.length + 1 - (intOf i).toNat)
            case atStart => exact ⟨0, by omega, rfl, rfl, rfl⟩
            case round =>
              obtain ⟨j, hj, rfl, rfl, rfl⟩ := hrel
              by_cases hjt : j < t.length
              · have hjt' : (j : Int) < (t.length : Int) := by omega
                have hj0 : (0 : Int) ≤ (j : Int) := by omega
                obtain ⟨b, o, cp', he, cJ⟩ := (unhide HV).cell hjt
                simp only [Value.slice.injEq, true_and] at he
                obtain ⟨rfl, he⟩ := he
                clear he
                have HT : Hid (Rf.tokTo o1 d t (j + 1) = (if j = 0 then Rf.spTo (Rf.tokTo o1 d t j) d.toNat else Rf.tokTo o1 d t j ++ ⟨#[32]⟩) ++ t[j]) := hide (by rw [Rf.tokTo, Rf.at_lt hjt])
                have HXs := hide ((unhide HFw).2 _ (List.getElem_mem hjt))
                have HS2 : Hid ((Rf.tokTo o1 d t j).size ≤ 5100000001) := hide (by have := Rf.tokTo_size (unhide HFw) o1 d (by omega) j hj; have := unhide HS1; omega)
                generalize t[j] = x at *
                by_cases hj1 : j = 0
                · have hj1' : ((j : Int) == 0) = true := by simpa using hj1
                  rw [if_pos hj1] at HT
                  clear hj1
                  generalize Rf.tokTo o1 d t j = o2 at *
                  go_wp2_with fail
                  go_loopw [8, 16] (fun o i wr' => ∃ m : Nat, m ≤ d.toNat ∧ i = .int .i64 m ∧ o = .string (Rf.spTo o2 m) ∧ wr' = wr) (fun _ i _ => d.toNat + 1 - (intOf i).toNat)
                  case atStart => exact ⟨0, by omega, rfl, rfl, rfl⟩
                  case round =>
                    obtain ⟨m, hm, rfl, rfl, rfl⟩ := hrel
                    by_cases hmd : m < d.toNat
                    · have hmd' : (m : Int) < d := by omega
                      have hadd := add_text (a := Rf.spTo o2 m) (b := ⟨#[32, 32]⟩) (by rw [Rf.spTo_size]; have := unhide HS2; show _ + 2 ≤ _; omega)
                      go_wp2_with fail
                      go_roundw
                      case rel => exact ⟨m + 1, by omega, by go_num, rfl, trivial⟩
                      case measure => simp [intOf]; omega
                    · have hmd' : ¬ (m : Int) < d := by omega
                      have HM : Hid (Rf.spTo o2 d.toNat = Rf.spTo o2 m) := hide (by rw [show d.toNat = m by omega])
                      have hadd := add_text (a := Rf.spTo o2 m) (b := x) (by rw [Rf.spTo_size]; have := unhide HS2; have := unhide HXs; omega)
                      clear hmd hm
                      go_wp2_with fail
                      go_roundw
                      case rel => exact ⟨j + 1, by omega, by go_num, by rw [unhide HT, unhide HM], trivial⟩
                      case measure => simp [intOf]; omega
                · have hj1' : ((j : Int) == 0) = false := by simpa using hj1
                  rw [if_neg hj1] at HT
                  clear hj1
                  generalize Rf.tokTo o1 d t j = o2 at *
                  have hadd := add_text (a := o2) (b := ⟨#[32]⟩) (by have := unhide HS2; show _ + 1 ≤ _; omega)
                  have hadd2 := add_text (a := o2 ++ ⟨#[32]⟩) (b := x) (by rw [ByteArray.size_append]; have := unhide HS2; have := unhide HXs; show _ + 1 + _ ≤ _; omega)
                  go_wp2_with fail
                  go_roundw
                  case rel => exact ⟨j + 1, by omega, by go_num, by rw [unhide HT], trivial⟩
                  case measure => simp [intOf]; omega
              · have hjt' : ¬ (j : Int) < (t.length : Int) := by omega
                have HJ : Hid (Rf.tokTo o1 d t t.length = Rf.tokTo o1 d t j) := hide (by rw [show t.length = j by omega])
                go_wp2_with fail
                go_roundw
                case rel => exact ⟨k + 1, by omega, by go_num, congrArg (Value.int .i64) (by have := unhide HC; have := unhide HD; omega), by rw [unhide HO, unhide HJ], unhide HX3⟩
                case measure => simp [intOf]; omega
          · have hkp' : ¬ (1 : Int) < (k : Int) + 1 := by omega
            rw [if_neg hkp] at HO
            have HS1 : Hid ((Rf.tidyTo ls k).size ≤ 5000000001) := hide (by have := unhide HSZ; omega)
            clear HSZ
            go_wp2_with fail
            generalize Rf.tidyTo ls k = o1 at *
            go_loopw [8, 15, 16] (fun o i _ wr => ∃ j : Nat, j ≤ t.length ∧ i = .int .i64 j ∧ o = .string (Rf.tokTo o1 d t j) ∧ wr = w3) (fun _ i _ _ => t.length + 1 - (intOf i).toNat)
            case atStart => exact ⟨0, by omega, rfl, rfl, rfl⟩
            case round =>
              obtain ⟨j, hj, rfl, rfl, rfl⟩ := hrel
              by_cases hjt : j < t.length
              · have hjt' : (j : Int) < (t.length : Int) := by omega
                have hj0 : (0 : Int) ≤ (j : Int) := by omega
                obtain ⟨b, o, cp', he, cJ⟩ := (unhide HV).cell hjt
                simp only [Value.slice.injEq, true_and] at he
                obtain ⟨rfl, he⟩ := he
                clear he
                have HT : Hid (Rf.tokTo o1 d t (j + 1) = (if j = 0 then Rf.spTo (Rf.tokTo o1 d t j) d.toNat else Rf.tokTo o1 d t j ++ ⟨#[32]⟩) ++ t[j]) := hide (by rw [Rf.tokTo, Rf.at_lt hjt])
                have HXs := hide ((unhide HFw).2 _ (List.getElem_mem hjt))
                have HS2 : Hid ((Rf.tokTo o1 d t j).size ≤ 5100000001) := hide (by have := Rf.tokTo_size (unhide HFw) o1 d (by omega) j hj; have := unhide HS1; omega)
                generalize t[j] = x at *
                by_cases hj1 : j = 0
                · have hj1' : ((j : Int) == 0) = true := by simpa using hj1
                  rw [if_pos hj1] at HT
                  clear hj1
                  generalize Rf.tokTo o1 d t j = o2 at *
                  go_wp2_with fail
                  go_loopw [8, 16] (fun o i wr' => ∃ m : Nat, m ≤ d.toNat ∧ i = .int .i64 m ∧ o = .string (Rf.spTo o2 m) ∧ wr' = wr) (fun _ i _ => d.toNat + 1 - (intOf i).toNat)
                  case atStart => exact ⟨0, by omega, rfl, rfl, rfl⟩
                  case round =>
                    obtain ⟨m, hm, rfl, rfl, rfl⟩ := hrel
                    by_cases hmd : m < d.toNat
                    · have hmd' : (m : Int) < d := by omega
                      have hadd := add_text (a := Rf.spTo o2 m) (b := ⟨#[32, 32]⟩) (by rw [Rf.spTo_size]; have := unhide HS2; show _ + 2 ≤ _; omega)
                      go_wp2_with fail
                      go_roundw
                      case rel => exact ⟨m + 1, by omega, by go_num, rfl, trivial⟩
                      case measure => simp [intOf]; omega
                    · have hmd' : ¬ (m : Int) < d := by omega
                      have HM : Hid (Rf.spTo o2 d.toNat = Rf.spTo o2 m) := hide (by rw [show d.toNat = m by omega])
                      have hadd := add_text (a := Rf.spTo o2 m) (b := x) (by rw [Rf.spTo_size]; have := unhide HS2; have := unhide HXs; omega)
                      clear hmd hm
                      go_wp2_with fail
                      go_roundw
                      case rel => exact ⟨j + 1, by omega, by go_num, by rw [unhide HT, unhide HM], trivial⟩
                      case measure => simp [intOf]; omega
                · have hj1' : ((j : Int) == 0) = false := by simpa using hj1
                  rw [if_neg hj1] at HT
                  clear hj1
                  generalize Rf.tokTo o1 d t j = o2 at *
                  have hadd := add_text (a := o2) (b := ⟨#[32]⟩) (by have := unhide HS2; show _ + 1 ≤ _; omega)
                  have hadd2 := add_text (a := o2 ++ ⟨#[32]⟩) (b := x) (by rw [ByteArray.size_append]; have := unhide HS2; have := unhide HXs; show _ + 1 + _ ≤ _; omega)
                  go_wp2_with fail
                  go_roundw
                  case rel => exact ⟨j + 1, by omega, by go_num, by rw [unhide HT], trivial⟩
                  case measure => simp [intOf]; omega
              · have hjt' : ¬ (j : Int) < (t.length : Int) := by omega
                have HJ : Hid (Rf.tokTo o1 d t t.length = Rf.tokTo o1 d t j) := hide (by rw [show t.length = j by omega])
                go_wp2_with fail
                go_roundw
                case rel => exact ⟨k + 1, by omega, by go_num, congrArg (Value.int .i64) (by have := unhide HC; have := unhide HD; omega), by rw [unhide HO, unhide HJ], unhide HX3⟩
                case measure => simp [intOf]; omega
        · have hdc : d = c := by have := unhide HD; omega
          subst hdc
          clear hwm
          go_wp2_with fail
          refine (opens_ref _ S g cap ls k (unhide HG2) hkl hl).mono ?_
          rintro e w3 ⟨rfl, hb3⟩
          rw [e3]
          have HG3 := hide ((unhide HG2).later hb3)
          have HX3 := hide ((unhide HX2).trans (hb3.mono (unhide HX2).size))
          clear HG2 HX2 hb3
          have cT := (unhide HG3).top
          obtain ⟨ad, cp, cR, hv⟩ := (unhide HG3).row k hkl
          have hkl' : (k : Int) < (ls.length : Int) := by omega
          have hw1 : IntKind.i64.wrap ((k : Int) + 1 - 1) = k := by rw [show (k : Int) + 1 - 1 = (k : Int) by omega]; exact IntWalk.i64_in _ ⟨by omega, by omega⟩
          have hw0 : IntKind.i64.wrap (k : Int) = k := IntWalk.i64_in _ ⟨by omega, by omega⟩
          have HV := hide hv
          clear hv e3
          have HFw := hide ((unhide HLi).few _ (List.getElem_mem hkl))
          have HSZ : Hid ((Rf.tidyTo ls k).size ≤ 5000000000) := hide (by have := Rf.tidyTo_size (unhide HLi).few hl k hk; omega)
          have hd100 : d ≤ 100 := by have := unhide HD; omega
          have hfw := (unhide HFw).1
          generalize ls[k] = t at *
          by_cases hkp : 0 < k
          · have hkp' : (1 : Int) < (k : Int) + 1 := by omega
            rw [if_pos hkp] at HO
            have hadd := add_text (a := Rf.tidyTo ls k) (b := ⟨#[10]⟩) (by have := unhide HSZ; show _ + 1 ≤ _; omega)
            have HS1 : Hid ((Rf.tidyTo ls k ++ ⟨#[10]⟩).size ≤ 5000000001) := hide (by have := unhide HSZ; rw [ByteArray.size_append]; show _ + 1 ≤ _; omega)
            go_wp2_with fail
            clear hadd HSZ
            generalize (Rf.tidyTo ls k ++ ⟨#[10]⟩) = o1 at *
            go_loopw [8, 15, 16] (fun o i _ wr => ∃ j : Nat, j ≤ t.length ∧ i = .int .i64 j ∧ o = .string (Rf.tokTo o1 d t j) ∧ wr = w3) (fun _ i _ _ => t.length + 1 - (intOf i).toNat)
            case atStart => exact ⟨0, by omega, rfl, rfl, rfl⟩
            case round =>
              obtain ⟨j, hj, rfl, rfl, rfl⟩ := hrel
              by_cases hjt : j < t.length
              · have hjt' : (j : Int) < (t.length : Int) := by omega
                have hj0 : (0 : Int) ≤ (j : Int) := by omega
                obtain ⟨b, o, cp', he, cJ⟩ := (unhide HV).cell hjt
                simp only [Value.slice.injEq, true_and] at he
                obtain ⟨rfl, he⟩ := he
                clear he
                have HT : Hid (Rf.tokTo o1 d t (j + 1) = (if j = 0 then Rf.spTo (Rf.tokTo o1 d t j) d.toNat else Rf.tokTo o1 d t j ++ ⟨#[32]⟩) ++ t[j]) := hide (by rw [Rf.tokTo, Rf.at_lt hjt])
                have HXs := hide ((unhide HFw).2 _ (List.getElem_mem hjt))
                have HS2 : Hid ((Rf.tokTo o1 d t j).size ≤ 5100000001) := hide (by have := Rf.tokTo_size (unhide HFw) o1 d (by omega) j hj; have := unhide HS1; omega)
                generalize t[j] = x at *
                by_cases hj1 : j = 0
                · have hj1' : ((j : Int) == 0) = true := by simpa using hj1
                  rw [if_pos hj1] at HT
                  clear hj1
                  generalize Rf.tokTo o1 d t j = o2 at *
                  go_wp2_with fail
                  go_loopw [8, 16] (fun o i wr' => ∃ m : Nat, m ≤ d.toNat ∧ i = .int .i64 m ∧ o = .string (Rf.spTo o2 m) ∧ wr' = wr) (fun _ i _ => d.toNat + 1 - (intOf i).toNat)
                  case atStart => exact ⟨0, by omega, rfl, rfl, rfl⟩
                  case round =>
                    obtain ⟨m, hm, rfl, rfl, rfl⟩ := hrel
                    by_cases hmd : m < d.toNat
                    · have hmd' : (m : Int) < d := by omega
                      have hadd := add_text (a := Rf.spTo o2 m) (b := ⟨#[32, 32]⟩) (by rw [Rf.spTo_size]; have := unhide HS2; show _ + 2 ≤ _; omega)
                      go_wp2_with fail
                      go_roundw
                      case rel => exact ⟨m + 1, by omega, by go_num, rfl, trivial⟩
                      case measure => simp [intOf]; omega
                    · have hmd' : ¬ (m : Int) < d := by omega
                      have HM : Hid (Rf.spTo o2 d.toNat = Rf.spTo o2 m) := hide (by rw [show d.toNat = m by omega])
                      have hadd := add_text (a := Rf.spTo o2 m) (b := x) (by rw [Rf.spTo_size]; have := unhide HS2; have := unhide HXs; omega)
                      clear hmd hm
                      go_wp2_with fail
                      go_roundw
                      case rel => exact ⟨j + 1, by omega, by go_num, by rw [unhide HT, unhide HM], trivial⟩
                      case measure => simp [intOf]; omega
                · have hj1' : ((j : Int) == 0) = false := by simpa using hj1
                  rw [if_neg hj1] at HT
                  clear hj1
                  generalize Rf.tokTo o1 d t j = o2 at *
                  have hadd := add_text (a := o2) (b := ⟨#[32]⟩) (by have := unhide HS2; show _ + 1 ≤ _; omega)
                  have hadd2 := add_text (a := o2 ++ ⟨#[32]⟩) (b := x) (by rw [ByteArray.size_append]; have := unhide HS2; have := unhide HXs; show _ + 1 + _ ≤ _; omega)
                  go_wp2_with fail
                  go_roundw
                  case rel => exact ⟨j + 1, by omega, by go_num, by rw [unhide HT], trivial⟩
                  case measure => simp [intOf]; omega
              · have hjt' : ¬ (j : Int) < (t.length : Int) := by omega
                have HJ : Hid (Rf.tokTo o1 d t t.length = Rf.tokTo o1 d t j) := hide (by rw [show t.length = j by omega])
                go_wp2_with fail
                go_roundw
                case rel => exact ⟨k + 1, by omega, by go_num, congrArg (Value.int .i64) (by have := unhide HC; have := unhide HD; omega), by rw [unhide HO, unhide HJ], unhide HX3⟩
                case measure => simp [intOf]; omega
          · have hkp' : ¬ (1 : Int) < (k : Int) + 1 := by omega
            rw [if_neg hkp] at HO
            have HS1 : Hid ((Rf.tidyTo ls k).size ≤ 5000000001) := hide (by have := unhide HSZ; omega)
            clear HSZ
            go_wp2_with fail
            generalize Rf.tidyTo ls k = o1 at *
            go_loopw [8, 15, 16] (fun o i _ wr => ∃ j : Nat, j ≤ t.length ∧ i = .int .i64 j ∧ o = .string (Rf.tokTo o1 d t j) ∧ wr = w3) (fun _ i _ _ => t.length + 1 - (intOf i).toNat)
            case atStart => exact ⟨0, by omega, rfl, rfl, rfl⟩
            case round =>
              obtain ⟨j, hj, rfl, rfl, rfl⟩ := hrel
              by_cases hjt : j < t.length
              · have hjt' : (j : Int) < (t.length : Int) := by omega
                have hj0 : (0 : Int) ≤ (j : Int) := by omega
                obtain ⟨b, o, cp', he, cJ⟩ := (unhide HV).cell hjt
                simp only [Value.slice.injEq, true_and] at he
                obtain ⟨rfl, he⟩ := he
                clear he
                have HT : Hid (Rf.tokTo o1 d t (j + 1) = (if j = 0 then Rf.spTo (Rf.tokTo o1 d t j) d.toNat else Rf.tokTo o1 d t j ++ ⟨#[32]⟩) ++ t[j]) := hide (by rw [Rf.tokTo, Rf.at_lt hjt])
                have HXs := hide ((unhide HFw).2 _ (List.getElem_mem hjt))
                have HS2 : Hid ((Rf.tokTo o1 d t j).size ≤ 5100000001) := hide (by have := Rf.tokTo_size (unhide HFw) o1 d (by omega) j hj; have := unhide HS1; omega)
                generalize t[j] = x at *
                by_cases hj1 : j = 0
                · have hj1' : ((j : Int) == 0) = true := by simpa using hj1
                  rw [if_pos hj1] at HT
                  clear hj1
                  generalize Rf.tokTo o1 d t j = o2 at *
                  go_wp2_with fail
                  go_loopw [8, 16] (fun o i wr' => ∃ m : Nat, m ≤ d.toNat ∧ i = .int .i64 m ∧ o = .string (Rf.spTo o2 m) ∧ wr' = wr) (fun _ i _ => d.toNat + 1 - (intOf i).toNat)
                  case atStart => exact ⟨0, by omega, rfl, rfl, rfl⟩
                  case round =>
                    obtain ⟨m, hm, rfl, rfl, rfl⟩ := hrel
                    by_cases hmd : m < d.toNat
                    · have hmd' : (m : Int) < d := by omega
                      have hadd := add_text (a := Rf.spTo o2 m) (b := ⟨#[32, 32]⟩) (by rw [Rf.spTo_size]; have := unhide HS2; show _ + 2 ≤ _; omega)
                      go_wp2_with fail
                      go_roundw
                      case rel => exact ⟨m + 1, by omega, by go_num, rfl, trivial⟩
                      case measure => simp [intOf]; omega
                    · have hmd' : ¬ (m : Int) < d := by omega
                      have HM : Hid (Rf.spTo o2 d.toNat = Rf.spTo o2 m) := hide (by rw [show d.toNat = m by omega])
                      have hadd := add_text (a := Rf.spTo o2 m) (b := x) (by rw [Rf.spTo_size]; have := unhide HS2; have := unhide HXs; omega)
                      clear hmd hm
                      go_wp2_with fail
                      go_roundw
                      case rel => exact ⟨j + 1, by omega, by go_num, by rw [unhide HT, unhide HM], trivial⟩
                      case measure => simp [intOf]; omega
                · have hj1' : ((j : Int) == 0) = false := by simpa using hj1
                  rw [if_neg hj1] at HT
                  clear hj1
                  generalize Rf.tokTo o1 d t j = o2 at *
                  have hadd := add_text (a := o2) (b := ⟨#[32]⟩) (by have := unhide HS2; show _ + 1 ≤ _; omega)
                  have hadd2 := add_text (a := o2 ++ ⟨#[32]⟩) (b := x) (by rw [ByteArray.size_append]; have := unhide HS2; have := unhide HXs; show _ + 1 + _ ≤ _; omega)
                  go_wp2_with fail
                  go_roundw
                  case rel => exact ⟨j + 1, by omega, by go_num, by rw [unhide HT], trivial⟩
                  case measure => simp [intOf]; omega
              · have hjt' : ¬ (j : Int) < (t.length : Int) := by omega
                have HJ : Hid (Rf.tokTo o1 d t t.length = Rf.tokTo o1 d t j) := hide (by rw [show t.length = j by omega])
                go_wp2_with fail
                go_roundw
                case rel => exact ⟨k + 1, by omega, by go_num, congrArg (Value.int .i64) (by have := unhide HC; have := unhide HD; omega), by rw [unhide HO, unhide HJ], unhide HX3⟩
                case measure => simp [intOf]; omega
        · have hdc : d = c := by have := unhide HD; omega
          subst hdc
          clear hwm hwp
          go_wp2_with fail
          refine (opens_ref _ S g cap ls k (unhide HG2) hkl hl).mono ?_
          rintro e w3 ⟨rfl, hb3⟩
          rw [e3]
          have HG3 := hide ((unhide HG2).later hb3)
          have HX3 := hide ((unhide HX2).trans (hb3.mono (unhide HX2).size))
          clear HG2 HX2 hb3
          have cT := (unhide HG3).top
          obtain ⟨ad, cp, cR, hv⟩ := (unhide HG3).row k hkl
          have hkl' : (k : Int) < (ls.length : Int) := by omega
          have hw1 : IntKind.i64.wrap ((k : Int) + 1 - 1) = k := by rw [show (k : Int) + 1 - 1 = (k : Int) by omega]; exact IntWalk.i64_in _ ⟨by omega, by omega⟩
          have hw0 : IntKind.i64.wrap (k : Int) = k := IntWalk.i64_in _ ⟨by omega, by omega⟩
          have HV := hide hv
          clear hv e3
          have HFw := hide ((unhide HLi).few _ (List.getElem_mem hkl))
          have HSZ : Hid ((Rf.tidyTo ls k).size ≤ 5000000000) := hide (by have := Rf.tidyTo_size (unhide HLi).few hl k hk; omega)
          have hd100 : d ≤ 100 := by have := unhide HD; omega
          have hfw := (unhide HFw).1
          generalize ls[k] = t at *
          by_cases hkp : 0 < k
          · have hkp' : (1 : Int) < (k : Int) + 1 := by omega
            rw [if_pos hkp] at HO
            have hadd := add_text (a := Rf.tidyTo ls k) (b := ⟨#[10]⟩) (by have := unhide HSZ; show _ + 1 ≤ _; omega)
            have HS1 : Hid ((Rf.tidyTo ls k ++ ⟨#[10]⟩).size ≤ 5000000001) := hide (by have := unhide HSZ; rw [ByteArray.size_append]; show _ + 1 ≤ _; omega)
            go_wp2_with fail
            clear hadd HSZ
            generalize (Rf.tidyTo ls k ++ ⟨#[10]⟩) = o1 at *
            go_loopw [8, 15, 16] (fun o i _ wr => ∃ j : Nat, j ≤ t.length ∧ i = .int .i64 j ∧ o = .string (Rf.tokTo o1 d t j) ∧ wr = w3) (fun _ i _ _ => t.length + 1 - (intOf i).toNat)
            case atStart => exact ⟨0, by omega, rfl, rfl, rfl⟩
            case round =>
              obtain ⟨j, hj, rfl, rfl, rfl⟩ := hrel
              by_cases hjt : j < t.length
              · have hjt' : (j : Int) < (t.length : Int) := by omega
                have hj0 : (0 : Int) ≤ (j : Int) := by omega
                obtain ⟨b, o, cp', he, cJ⟩ := (unhide HV).cell hjt
                simp only [Value.slice.injEq, true_and] at he
                obtain ⟨rfl, he⟩ := he
                clear he
                have HT : Hid (Rf.tokTo o1 d t (j + 1) = (if j = 0 then Rf.spTo (Rf.tokTo o1 d t j) d.toNat else Rf.tokTo o1 d t j ++ ⟨#[32]⟩) ++ t[j]) := hide (by rw [Rf.tokTo, Rf.at_lt hjt])
                have HXs := hide ((unhide HFw).2 _ (List.getElem_mem hjt))
                have HS2 : Hid ((Rf.tokTo o1 d t j).size ≤ 5100000001) := hide (by have := Rf.tokTo_size (unhide HFw) o1 d (by omega) j hj; have := unhide HS1; omega)
                generalize t[j] = x at *
                by_cases hj1 : j = 0
                · have hj1' : ((j : Int) == 0) = true := by simpa using hj1
                  rw [if_pos hj1] at HT
                  clear hj1
                  generalize Rf.tokTo o1 d t j = o2 at *
                  go_wp2_with fail
                  go_loopw [8, 16] (fun o i wr' => ∃ m : Nat, m ≤ d.toNat ∧ i = .int .i64 m ∧ o = .string (Rf.spTo o2 m) ∧ wr' = wr) (fun _ i _ => d.toNat + 1 - (intOf i).toNat)
                  case atStart => exact ⟨0, by omega, rfl, rfl, rfl⟩
                  case round =>
                    obtain ⟨m, hm, rfl, rfl, rfl⟩ := hrel
                    by_cases hmd : m < d.toNat
                    · have hmd' : (m : Int) < d := by omega
                      have hadd := add_text (a := Rf.spTo o2 m) (b := ⟨#[32, 32]⟩) (by rw [Rf.spTo_size]; have := unhide HS2; show _ + 2 ≤ _; omega)
                      go_wp2_with fail
                      go_roundw
                      case rel => exact ⟨m + 1, by omega, by go_num, rfl, trivial⟩
                      case measure => simp [intOf]; omega
                    · have hmd' : ¬ (m : Int) < d := by omega
                      have HM : Hid (Rf.spTo o2 d.toNat = Rf.spTo o2 m) := hide (by rw [show d.toNat = m by omega])
                      have hadd := add_text (a := Rf.spTo o2 m) (b := x) (by rw [Rf.spTo_size]; have := unhide HS2; have := unhide HXs; omega)
                      clear hmd hm
                      go_wp2_with fail
                      go_roundw
                      case rel => exact ⟨j + 1, by omega, by go_num, by rw [unhide HT, unhide HM], trivial⟩
                      case measure => simp [intOf]; omega
                · have hj1' : ((j : Int) == 0) = false := by simpa using hj1
                  rw [if_neg hj1] at HT
                  clear hj1
                  generalize Rf.tokTo o1 d t j = o2 at *
                  have hadd := add_text (a := o2) (b := ⟨#[32]⟩) (by have := unhide HS2; show _ + 1 ≤ _; omega)
                  have hadd2 := add_text (a := o2 ++ ⟨#[32]⟩) (b := x) (by rw [ByteArray.size_append]; have := unhide HS2; have := unhide HXs; show _ + 1 + _ ≤ _; omega)
                  go_wp2_with fail
                  go_roundw
                  case rel => exact ⟨j + 1, by omega, by go_num, by rw [unhide HT], trivial⟩
                  case measure => simp [intOf]; omega
              · have hjt' : ¬ (j : Int) < (t.length : Int) := by omega
                have HJ : Hid (Rf.tokTo o1 d t t.length = Rf.tokTo o1 d t j) := hide (by rw [show t.length = j by omega])
                go_wp2_with fail
                go_roundw
                case rel => exact ⟨k + 1, by omega, by go_num, congrArg (Value.int .i64) (by have := unhide HC; have := unhide HD; omega), by rw [unhide HO, unhide HJ], unhide HX3⟩
                case measure => simp [intOf]; omega
          · have hkp' : ¬ (1 : Int) < (k : Int) + 1 := by omega
            rw [if_neg hkp] at HO
            have HS1 : Hid ((Rf.tidyTo ls k).size ≤ 5000000001) := hide (by have := unhide HSZ; omega)
            clear HSZ
            go_wp2_with fail
            generalize Rf.tidyTo ls k = o1 at *
            go_loopw [8, 15, 16] (fun o i _ wr => ∃ j : Nat, j ≤ t.length ∧ i = .int .i64 j ∧ o = .string (Rf.tokTo o1 d t j) ∧ wr = w3) (fun _ i _ _ => t.length + 1 - (intOf i).toNat)
            case atStart => exact ⟨0, by omega, rfl, rfl, rfl⟩
            case round =>
              obtain ⟨j, hj, rfl, rfl, rfl⟩ := hrel
              by_cases hjt : j < t.length
              · have hjt' : (j : Int) < (t.length : Int) := by omega
                have hj0 : (0 : Int) ≤ (j : Int) := by omega
                obtain ⟨b, o, cp', he, cJ⟩ := (unhide HV).cell hjt
                simp only [Value.slice.injEq, true_and] at he
                obtain ⟨rfl, he⟩ := he
                clear he
                have HT : Hid (Rf.tokTo o1 d t (j + 1) = (if j = 0 then Rf.spTo (Rf.tokTo o1 d t j) d.toNat else Rf.tokTo o1 d t j ++ ⟨#[32]⟩) ++ t[j]) := hide (by rw [Rf.tokTo, Rf.at_lt hjt])
                have HXs := hide ((unhide HFw).2 _ (List.getElem_mem hjt))
                have HS2 : Hid ((Rf.tokTo o1 d t j).size ≤ 5100000001) := hide (by have := Rf.tokTo_size (unhide HFw) o1 d (by omega) j hj; have := unhide HS1; omega)
                generalize t[j] = x at *
                by_cases hj1 : j = 0
                · have hj1' : ((j : Int) == 0) = true := by simpa using hj1
                  rw [if_pos hj1] at HT
                  clear hj1
                  generalize Rf.tokTo o1 d t j = o2 at *
                  go_wp2_with fail
                  go_loopw [8, 16] (fun o i wr' => ∃ m : Nat, m ≤ d.toNat ∧ i = .int .i64 m ∧ o = .string (Rf.spTo o2 m) ∧ wr' = wr) (fun _ i _ => d.toNat + 1 - (intOf i).toNat)
                  case atStart => exact ⟨0, by omega, rfl, rfl, rfl⟩
                  case round =>
                    obtain ⟨m, hm, rfl, rfl, rfl⟩ := hrel
                    by_cases hmd : m < d.toNat
                    · have hmd' : (m : Int) < d := by omega
                      have hadd := add_text (a := Rf.spTo o2 m) (b := ⟨#[32, 32]⟩) (by rw [Rf.spTo_size]; have := unhide HS2; show _ + 2 ≤ _; omega)
                      go_wp2_with fail
                      go_roundw
                      case rel => exact ⟨m + 1, by omega, by go_num, rfl, trivial⟩
                      case measure => simp [intOf]; omega
                    · have hmd' : ¬ (m : Int) < d := by omega
                      have HM : Hid (Rf.spTo o2 d.toNat = Rf.spTo o2 m) := hide (by rw [show d.toNat = m by omega])
                      have hadd := add_text (a := Rf.spTo o2 m) (b := x) (by rw [Rf.spTo_size]; have := unhide HS2; have := unhide HXs; omega)
                      clear hmd hm
                      go_wp2_with fail
                      go_roundw
                      case rel => exact ⟨j + 1, by omega, by go_num, by rw [unhide HT, unhide HM], trivial⟩
                      case measure => simp [intOf]; omega
                · have hj1' : ((j : Int) == 0) = false := by simpa using hj1
                  rw [if_neg hj1] at HT
                  clear hj1
                  generalize Rf.tokTo o1 d t j = o2 at *
                  have hadd := add_text (a := o2) (b := ⟨#[32]⟩) (by have := unhide HS2; show _ + 1 ≤ _; omega)
                  have hadd2 := add_text (a := o2 ++ ⟨#[32]⟩) (b := x) (by rw [ByteArray.size_append]; have := unhide HS2; have := unhide HXs; show _ + 1 + _ ≤ _; omega)
                  go_wp2_with fail
                  go_roundw
                  case rel => exact ⟨j + 1, by omega, by go_num, by rw [unhide HT], trivial⟩
                  case measure => simp [intOf]; omega
              · have hjt' : ¬ (j : Int) < (t.length : Int) := by omega
                have HJ : Hid (Rf.tokTo o1 d t t.length = Rf.tokTo o1 d t j) := hide (by rw [show t.length = j by omega])
                go_wp2_with fail
                go_roundw
                case rel => exact ⟨k + 1, by omega, by go_num, congrArg (Value.int .i64) (by have := unhide HC; have := unhide HD; omega), by rw [unhide HO, unhide HJ], unhide HX3⟩
                case measure => simp [intOf]; omega
      · have hj' : ¬ (k : Int) + 1 ≤ (ls.length : Int) := by omega
        go_wp2_with fail
        go_ret3
        refine ⟨(unhide HB).trans ((unhide HX).mono hsz1), Or.inr ⟨unhide H0, ?_⟩⟩
        rw [unhide HLS, Rf.tidy, show ls.length = k by omega]
        rfl

end Go.Proofs.YtopeochnoefgcaaGreat

