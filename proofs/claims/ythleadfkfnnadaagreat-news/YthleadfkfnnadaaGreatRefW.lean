/- The document's answer: a place of its own, in memory. -/
import Derived.Test.YthleadfkfnnadaaGreatRefO
import Derived.Test.YthleadfkfnnadaaGreatLwB
import Derived.Deep.AppendSrc
import Derived.Laws.IdiomStrings
import Derived.Test.YthleadfkfnnadaaGreatRfDefs
import Derived.Test.YthleadfkfnnadaaGreatMcD
namespace Go.Proofs.YthleadfkfnnadaaGreat
open Go.RowKit
namespace Rf
def closerFrom (ls : List (List ByteArray)) : Nat → Nat → Int → Nat
  | 0, _, _ => 0
  | f + 1, m, n =>
    if ((first (lineAt ls m)).toList == [101, 110, 100]) = true then
      (if (if opensB (lineAt ls m) = true then n + 1 else n) - 1 = 0 then m + 1 else closerFrom ls f (m + 1) ((if opensB (lineAt ls m) = true then n + 1 else n) - 1))
    else closerFrom ls f (m + 1) (if opensB (lineAt ls m) = true then n + 1 else n)
def closer (ls : List (List ByteArray)) (l : Nat) : Nat := closerFrom ls (ls.length - l) l 0
theorem closerFrom_b (ls : List (List ByteArray)) : ∀ f m n, closerFrom ls f m n ≤ m + f
  | 0, _, _ => Nat.zero_le _
  | f + 1, m, n => by
    rw [closerFrom]
    generalize (if opensB (lineAt ls m) = true then n + 1 else n) = q
    have h1 := closerFrom_b ls f (m + 1) (q - 1)
    have h2 := closerFrom_b ls f (m + 1) q
    split
    · split <;> omega
    · omega
theorem closer_b (ls : List (List ByteArray)) {l : Nat} (hl : l ≤ ls.length) : closer ls l ≤ ls.length := by
  have := closerFrom_b ls (ls.length - l) l 0
  unfold closer; omega
def otherFrom (ls : List (List ByteArray)) (l c : Nat) : Nat → Nat → Nat
  | 0, _ => c
  | f + 1, m => if ((first (lineAt ls m)).toList == [101, 108, 115, 101]) = true ∧ openerFrom ls m 1 = l + 1 then m + 1 else otherFrom ls l c f (m + 1)
def other (ls : List (List ByteArray)) (l : Nat) : Nat := otherFrom ls l (closer ls l) (closer ls l - (l + 2)) (l + 1)
end Rf
set_option maxHeartbeats 4000000 in
set_option maxRecDepth 100000 in
theorem closer_ref (w : World) (S g cap : Nat) (ls : List (List ByteArray)) (l : Nat) (h : SrcG w S g cap ls) (hl : l ≤ ls.length) (hlen : ls.length ≤ 100) :
    Calls Tryz.prog 152 #[.pointer (some ⟨S, 0, none⟩), .int .i64 ((l : Int) + 1)] w fun e w' => e = .returned (.int .i64 (Rf.closer ls l)) ∧ Below w.heap.size w w' := by
  have HN := hide h
  clear h
  go_enter Tryz.func152, Tryz.ntmps152
  go_wp2
  go_loopw [5, 6] (fun nv i wr => ∃ (f k : Nat) (n : Int), k + f = ls.length ∧ -(k : Int) ≤ n ∧ n ≤ k ∧ nv = .int .i64 n ∧ i = .int .i64 ((k : Int) + 1) ∧ Rf.closerFrom ls f k n = Rf.closer ls l ∧ SrcG wr S g cap ls ∧ Below w.heap.size w wr) (fun _ i _ => ls.length + 1 - (intOf i).toNat)
  case atStart => exact ⟨ls.length - l, l, 0, by omega, by omega, by omega, rfl, by go_num, rfl, unhide HN, Below.refl _ _⟩
  case round =>
    obtain ⟨f, k, n, hkf, hn1, hn2, rfl, rfl, hT, hs, hbe⟩ := hrel
    have cT := hs.top
    have HS := hide (And.intro hs hbe)
    have HT := hide hT
    clear hs hbe hT
    cases f with
    | zero =>
      have hj' : ¬ (k : Int) + 1 ≤ (ls.length : Int) := by omega
      go_wp2_with fail
      go_ret
      exact ⟨by rw [← unhide HT]; rfl, (unhide HS).2⟩
    | succ f =>
      have hlt : k < ls.length := by omega
      have hj' : (k : Int) + 1 ≤ (ls.length : Int) := by omega
      rw [Rf.closerFrom, Rf.lineAt_lt hlt] at HT
      have hk100 : k ≤ 100 := by omega
      have hwp : IntKind.i64.wrap (n + 1) = n + 1 := IntWalk.i64_in _ ⟨by omega, by omega⟩
      have hwm : IntKind.i64.wrap (n - 1) = n - 1 := IntWalk.i64_in _ ⟨by omega, by omega⟩
      have hwa : IntKind.i64.wrap (n + 1 - 1) = n + 1 - 1 := IntWalk.i64_in _ ⟨by omega, by omega⟩
      go_wp2_with fail
      refine (opens_ref _ S g cap ls k (unhide HS).1 hlt hlen).mono ?_
      rintro e w1 ⟨rfl, hb1⟩
      have HS1 := hide (And.intro ((unhide HS).1.later hb1) ((unhide HS).2.trans (hb1.mono (unhide HS).2.size)))
      clear hb1 cT
      go_wp2_with fail
      refine (head_ref _ S g cap ls k (unhide HS1).1 hlt hlen).mono ?_
      rintro e w2 ⟨rfl, hb2⟩
      have HS2 := hide (And.intro ((unhide HS1).1.later hb2) ((unhide HS1).2.trans (hb2.mono (unhide HS1).2.size)))
      clear hb2
      have HW := hide (Rf.opens_cases ls[k])
      generalize Rf.first ls[k] = z at *
      generalize Rf.opensB ls[k] = ob at *
      cases hz : (z.toList == [101, 110, 100]) with
      | true =>
        have hob : ob = false := by rcases unhide HW with ⟨_, _, h⟩ | ⟨h, _⟩ | ⟨h, _⟩ | ⟨h, _⟩ <;> first | exact h | (rw [hz] at h; cases h)
        subst hob
        rw [hz] at HT
        clear HW
        simp only [if_true, Bool.false_eq_true, if_false] at HT
        by_cases hn : n - 1 = 0
        · rw [if_pos hn] at HT
          have hn' : (n - 1 == 0) = true := by simpa using hn
          clear hn
          go_wp2_with fail
          go_ret
          exact ⟨by rw [← unhide HT]; rfl, (unhide HS2).2⟩
        · rw [if_neg hn] at HT
          have hn' : (n - 1 == 0) = false := by simpa using hn
          clear hn
          go_wp2_with fail
          go_roundw
          case rel => exact ⟨f, k + 1, n - 1, by omega, by omega, by omega, rfl, by go_num, unhide HT, (unhide HS2).1, (unhide HS2).2⟩
          case measure => simp [intOf]; omega
      | false =>
        rw [hz] at HT
        clear HW
        simp only [Bool.false_eq_true, if_false] at HT
        cases ob with
        | true =>
          rw [if_pos rfl] at HT
          go_wp2_with fail
          go_roundw
          case rel => exact ⟨f, k + 1, n + 1, by omega, by omega, by omega, rfl, by go_num, unhide HT, (unhide HS2).1, (unhide HS2).2⟩
          case measure => simp [intOf]; omega
        | false =>
          rw [if_neg (by decide)] at HT
          go_wp2_with fail
          go_roundw
          case rel => exact ⟨f, k + 1, n, by omega, by omega, by omega, rfl, by go_num, unhide HT, (unhide HS2).1, (unhide HS2).2⟩
          case measure => simp [intOf]; omega
namespace Rf
theorem closer_i {ls : List (List ByteArray)} {k i : Nat} (h : k < ls.length) (hf : HF (first ls[k]) i) (f : Nat) (n : Int) : closerFrom ls (f + 1) k n = if i = 7 then (if n - 1 = 0 then k + 1 else closerFrom ls f (k + 1) (n - 1)) else if i = 3 ∨ i = 4 ∨ i = 5 then closerFrom ls f (k + 1) (n + 1) else closerFrom ls f (k + 1) n := by
  obtain ⟨f0, f1, f2, f3, f4, f5, f6, f7⟩ := hf
  have ho : (opensB ls[k] = true) ↔ (i = 3 ∨ i = 4 ∨ i = 5) := by
    unfold opensB; rw [f3, f4, f5]; simp [or_assoc]
  rw [closerFrom, lineAt_lt h, f7]
  simp only [ho, decide_eq_true_eq]
  by_cases h7 : i = 7
  · simp [h7]
  · simp [h7]
    split <;> rfl
theorem closer_of {ls : List (List ByteArray)} : ∀ (k n o : Nat), k ≤ ls.length → 0 < n → openerFrom ls k n = o + 1 → closer ls o = closerFrom ls (ls.length - k) k n
  | 0, _, _, _, _, h => by simp [openerFrom] at h
  | k + 1, n, o, hk, hn, h => by
    have hkl : k < ls.length := by omega
    obtain ⟨i, _, hF⟩ := head_cases (first ls[k])
    have hs : ls.length - k = (ls.length - (k + 1)) + 1 := by omega
    have hc := fun n : Int => (congrArg (fun q => closerFrom ls q k n) hs).trans (closer_i hkl hF (ls.length - (k + 1)) n)
    rw [opener_i hkl hF] at h
    by_cases h3 : i = 3 ∨ i = 4 ∨ i = 5
    · rw [if_pos h3] at h
      by_cases h1 : n = 1
      · rw [if_pos h1] at h
        have : o = k := by omega
        subst this
        rw [closer, hc, if_neg (by omega), if_pos h3, h1]
        rfl
      · rw [if_neg h1] at h
        rw [closer_of k (n - 1) o (by omega) (by omega) h, hc, if_neg (by omega), if_pos h3]
        congr 1
        omega
    · rw [if_neg h3] at h
      by_cases h7 : i = 7
      · rw [if_pos h7] at h
        rw [closer_of k (n + 1) o (by omega) (by omega) h, hc, if_pos h7, if_neg (by omega)]
        congr 1
        omega
      · rw [if_neg h7] at h
        rw [closer_of k n o (by omega) hn h, hc, if_neg h7, if_neg h3]
theorem closerFrom_lo (ls : List (List ByteArray)) : ∀ f m n, closerFrom ls f m n = 0 ∨ m < closerFrom ls f m n
  | 0, _, _ => Or.inl rfl
  | f + 1, m, n => by
    rw [closerFrom]
    generalize (if opensB (lineAt ls m) = true then n + 1 else n) = q
    have h1 := closerFrom_lo ls f (m + 1) (q - 1)
    have h2 := closerFrom_lo ls f (m + 1) q
    split
    · split <;> omega
    · omega
theorem closed_of {ls : List (List ByteArray)} (hpos : 0 < ls.length) : ∀ (f k : Nat) (op sp : List Nat) (n : Nat), ls.length - k = f → nestFrom ls (ls.drop k) k op sp = 0 → 0 < n → n ≤ op.length → k ≤ ls.length → 0 < closerFrom ls f k n
  | 0, k, op, sp, n, hf, h, hn, hno, hk => by
    rw [List.drop_eq_nil_of_le (by omega), nestFrom] at h
    exfalso
    split at h <;> omega
  | f + 1, k, op, sp, n, hf, h, hn, hno, hk => by
    have hkl : k < ls.length := by omega
    obtain ⟨i, _, hF⟩ := head_cases (first ls[k])
    rw [nest_i hkl hF] at h
    rw [closer_i hkl hF]
    by_cases i0 : i = 0
    · rw [if_pos i0] at h
      rw [if_neg (by omega), if_neg (by omega)]
      exact closed_of hpos f (k + 1) op sp n (by omega) h hn hno (by omega)
    rw [if_neg i0] at h
    by_cases hc : decide (i = 1 ∨ i = 2 ∨ i = 3) = !decide (op.length = 0)
    · rw [if_pos hc] at h; omega
    rw [if_neg hc] at h
    by_cases i3 : i = 3 ∨ i = 4 ∨ i = 5
    · rw [if_pos i3] at h
      rw [if_neg (by omega), if_pos i3]
      have := closed_of hpos f (k + 1) _ sp (n + 1) (by omega) h (by omega) (by simp; omega) (by omega)
      simpa using this
    rw [if_neg i3] at h
    by_cases i6 : i = 6
    · rw [if_pos i6] at h
      rw [if_neg (by omega), if_neg i3]
      split at h
      · omega
      · exact closed_of hpos f (k + 1) op _ n (by omega) h hn hno (by omega)
    rw [if_neg i6] at h
    by_cases i7 : i = 7
    · rw [if_pos i7] at h
      rw [if_pos i7]
      split
      · omega
      · rename_i hq
        have := closed_of hpos f (k + 1) _ _ (n - 1) (by omega) h (by omega) (by simp; omega) (by omega)
        rw [show ((n : Int) - 1) = ((n - 1 : Nat) : Int) by omega]
        exact this
    rw [if_neg i7] at h
    rw [if_neg i7, if_neg i3]
    exact closed_of hpos f (k + 1) op sp n (by omega) h hn hno (by omega)
theorem else_in {ls : List (List ByteArray)} (h : nested ls = 0) {l : Nat} (hl : l < ls.length) (he : ((first ls[l]).toList == [101, 108, 115, 101]) = true) : 0 < openerFrom ls l 1 ∧ l + 1 < closer ls (openerFrom ls l 1 - 1) := by
  obtain ⟨op, sp, h1, h2, h3⟩ := nest_at ls.length 0 [] [] (by omega) h (by intro pre o suf he; simp at he) (by simp) l hl (by omega)
  obtain ⟨i, _, hF⟩ := head_cases (first ls[l])
  have h6 : i = 6 := by
    have := hF.2.2.2.2.2.2.1
    rw [he] at this
    simpa using this.symm
  subst h6
  have h1' := h1
  rw [nest_i hl hF] at h1
  rcases nat_snoc op with rfl | ⟨pre, x, rfl⟩
  · simp at h1
  · have ho := h2 pre x [] rfl
    have hx := h3 x (by simp)
    simp at ho
    have hpos : 0 < openerFrom ls l 1 := by omega
    refine ⟨hpos, ?_⟩
    have hc := closer_of (ls := ls) l 1 (openerFrom ls l 1 - 1) (by omega) (by omega) (by omega)
    have hd := closed_of (ls := ls) (by omega) (ls.length - l) l (pre ++ [x]) sp 1 rfl h1' (by omega) (by simp) (by omega)
    rw [hc]
    have hs : ls.length - l = (ls.length - (l + 1)) + 1 := by omega
    have e1 := closer_i hl hF (ls.length - (l + 1)) ((1 : Nat) : Int)
    rw [if_neg (show ¬ (6 : Nat) = 7 by omega), if_neg (show ¬ ((6 : Nat) = 3 ∨ (6 : Nat) = 4 ∨ (6 : Nat) = 5) by omega)] at e1
    rw [hs, e1] at hd ⊢
    rcases closerFrom_lo ls (ls.length - (l + 1)) (l + 1) ((1 : Nat) : Int) with h | h <;> omega
def goesFrom (ls : List (List ByteArray)) : Nat → Nat → Nat
  | 0, _ => 0
  | f + 1, k =>
    if ls.length ≤ k then 0
    else if stopB ls k (lineAt ls k) = true then k + 1
    else if ((first (lineAt ls k)).toList == [101, 108, 115, 101]) = true then goesFrom ls f (closer ls (openerFrom ls k 1 - 1))
    else if ((first (lineAt ls k)).toList == [101, 110, 100]) = true then (if ((first (lineAt ls (openerFrom ls k 1 - 1))).toList == [119, 104, 105, 108, 101]) = true then openerFrom ls k 1 else goesFrom ls f (k + 1))
    else goesFrom ls f (k + 1)
def goes (ls : List (List ByteArray)) (k : Nat) : Nat := goesFrom ls (ls.length + 1 - k) k
theorem goes_step {ls : List (List ByteArray)} (f k : Nat) (hk : k < ls.length) : goesFrom ls (f + 1) k = if stopB ls k ls[k] = true then k + 1
    else if ((first ls[k]).toList == [101, 108, 115, 101]) = true then goesFrom ls f (closer ls (openerFrom ls k 1 - 1))
    else if ((first ls[k]).toList == [101, 110, 100]) = true then (if ((first (lineAt ls (openerFrom ls k 1 - 1))).toList == [119, 104, 105, 108, 101]) = true then openerFrom ls k 1 else goesFrom ls f (k + 1))
    else goesFrom ls f (k + 1) := by rw [goesFrom, if_neg (by omega), lineAt_lt hk]
end Rf
set_option maxHeartbeats 4000000 in
set_option maxRecDepth 100000 in
theorem goes_ref (w : World) (S g cap : Nat) (ls : List (List ByteArray)) (l : Nat) (h : SrcG w S g cap ls) (hl : l ≤ ls.length) (hlen : ls.length ≤ 100) (hn : Rf.nested ls = 0) :
    Calls Tryz.prog 94 #[.pointer (some ⟨S, 0, none⟩), .int .i64 ((l : Int) + 1)] w fun e w' => e = .returned (.int .i64 (Rf.goes ls l)) ∧ Below w.heap.size w w' := by
  have HN := hide h
  have HNe := hide hn
  clear h hn
  go_enter Tryz.func94, Tryz.ntmps94
  go_wp2
  go_loopw [1] (fun i wr => ∃ f k : Nat, k ≤ ls.length ∧ ls.length < f + k ∧ i = .int .i64 ((k : Int) + 1) ∧ Rf.goesFrom ls f k = Rf.goes ls l ∧ SrcG wr S g cap ls ∧ Below w.heap.size w wr) (fun i _ => ls.length + 1 - (intOf i).toNat)
  case atStart => exact ⟨ls.length + 1 - l, l, hl, by omega, by go_num, rfl, unhide HN, Below.refl _ _⟩
  case round =>
    obtain ⟨f, k, hk, hkf, rfl, hT, hs, hbe⟩ := hrel
    have cT := hs.top
    have HS := hide (And.intro hs hbe)
    obtain ⟨f, rfl⟩ : ∃ q, f = q + 1 := ⟨f - 1, by omega⟩
    by_cases hlt : k < ls.length
    · rw [Rf.goes_step f k hlt] at hT
      have HT := hide hT
      clear hs hbe hT
      have hj' : (k : Int) + 1 ≤ (ls.length : Int) := by omega
      go_wp2_with fail
      refine (stop_ref _ S g cap ls k (unhide HS).1 hlt hlen (unhide HNe)).mono ?_
      rintro e w1 ⟨rfl, hb1⟩
      have HS1 := hide (And.intro ((unhide HS).1.later hb1) ((unhide HS).2.trans (hb1.mono (unhide HS).2.size)))
      clear hb1 cT
      cases hst : Rf.stopB ls k ls[k] with
      | true =>
        rw [hst, if_pos rfl] at HT
        go_wp2_with fail
        go_ret
        exact ⟨by rw [← unhide HT]; rfl, (unhide HS1).2⟩
      | false =>
        rw [hst, if_neg (by decide)] at HT
        have hob := Rf.openerFrom_b ls k 1
        go_wp2_with fail
        refine (opener_ref _ S g cap ls k (unhide HS1).1 hlt hlen).mono ?_
        rintro e w2 ⟨rfl, hb2⟩
        have HS2 := hide (And.intro ((unhide HS1).1.later hb2) ((unhide HS1).2.trans (hb2.mono (unhide HS1).2.size)))
        clear hb2
        go_wp2_with fail
        refine (head_ref _ S g cap ls k (unhide HS2).1 hlt hlen).mono ?_
        rintro e w3 ⟨rfl, hb3⟩
        have HS3 := hide (And.intro ((unhide HS2).1.later hb3) ((unhide HS2).2.trans (hb3.mono (unhide HS2).2.size)))
        clear hb3
        cases hel : ((Rf.first ls[k]).toList == [101, 108, 115, 101]) with
        | true =>
          obtain ⟨ho1, ho2⟩ := Rf.else_in (unhide HNe) hlt hel
          obtain ⟨o, ho⟩ : ∃ o, Rf.openerFrom ls k 1 = o + 1 := ⟨Rf.openerFrom ls k 1 - 1, by omega⟩
          rw [hel, if_pos rfl, ho, Nat.add_sub_cancel] at HT
          rw [ho, Nat.add_sub_cancel] at ho2
          rw [ho] at hob
          have hcb := Rf.closer_b ls (l := o) (by omega)
          rw [ho, show ((o + 1 : Nat) : Int) = (o : Int) + 1 by omega]
          have HO := hide ho2
          have HCB := hide hcb
          clear ho ho1 ho2 hcb
          go_wp2_with fail
          refine (closer_ref _ S g cap ls o (unhide HS3).1 (by omega) hlen).mono ?_
          rintro e w4 ⟨rfl, hb4⟩
          have HS4 := hide (And.intro ((unhide HS3).1.later hb4) ((unhide HS3).2.trans (hb4.mono (unhide HS3).2.size)))
          clear hb4
          generalize Rf.closer ls o = c at *
          have hc1 := unhide HO
          have hc2 := unhide HCB
          go_wp2_with fail
          go_roundw
          case rel => exact ⟨f, c, by omega, by omega, by go_num, unhide HT, (unhide HS4).1, (unhide HS4).2⟩
          case measure => simp [intOf]; omega
        | false =>
          rw [hel, if_neg (by decide)] at HT
          cases hen : ((Rf.first ls[k]).toList == [101, 110, 100]) with
          | true =>
            have ho1 := Rf.nested_open (unhide HNe) hlt hen
            obtain ⟨o, ho⟩ : ∃ o, Rf.openerFrom ls k 1 = o + 1 := ⟨Rf.openerFrom ls k 1 - 1, by omega⟩
            rw [ho] at hob
            have hol : o < ls.length := by omega
            rw [hen, if_pos rfl, ho, Nat.add_sub_cancel, Rf.lineAt_lt hol] at HT
            rw [ho, show ((o + 1 : Nat) : Int) = (o : Int) + 1 by omega]
            clear ho ho1
            go_wp2_with fail
            refine (head_ref _ S g cap ls o (unhide HS3).1 hol hlen).mono ?_
            rintro e w4 ⟨rfl, hb4⟩
            have HS4 := hide (And.intro ((unhide HS3).1.later hb4) ((unhide HS3).2.trans (hb4.mono (unhide HS3).2.size)))
            clear hb4
            cases hwh : ((Rf.first ls[o]).toList == [119, 104, 105, 108, 101]) with
            | true =>
              rw [hwh, if_pos rfl] at HT
              go_wp2_with fail
              go_ret
              exact ⟨by rw [← unhide HT]; rfl, (unhide HS4).2⟩
            | false =>
              rw [hwh, if_neg (by decide)] at HT
              go_wp2_with fail
              go_roundw
              case rel => exact ⟨f, k + 1, by omega, by omega, by go_num, unhide HT, (unhide HS4).1, (unhide HS4).2⟩
              case measure => simp [intOf]; omega
          | false =>
            rw [hen, if_neg (by decide)] at HT
            go_wp2_with fail
            go_roundw
            case rel => exact ⟨f, k + 1, by omega, by omega, by go_num, unhide HT, (unhide HS3).1, (unhide HS3).2⟩
            case measure => simp [intOf]; omega
    · have hke : k = ls.length := by omega
      have HT : Hid (0 = Rf.goes ls l) := hide (by rw [← hT, Rf.goesFrom, if_pos (by omega)])
      clear hs hbe hT
      have hj' : ¬ (k : Int) + 1 ≤ (ls.length : Int) := by omega
      clear hke
      go_wp2_with fail
      go_ret
      exact ⟨by rw [← unhide HT]; rfl, (unhide HS).2⟩
namespace Rf
def indexFrom (xs : List ByteArray) (x : ByteArray) : Nat → Nat → Int
  | 0, _ => -1
  | f + 1, k => if at' xs k = x then (k : Int) else indexFrom xs x f (k + 1)
def index (xs : List ByteArray) (x : ByteArray) : Int := indexFrom xs x xs.length 0
def two (a : Int) (x : List UInt8) (b : Int) : Int × Int :=
  if (x == [43]) = true then (wrap64 (a + b), 0) else if (x == [45]) = true then (wrap64 (a - b), 0) else if (x == [42]) = true then (wrap64 (a * b), 0)
  else if (x == [60]) = true then (if a < b then 1 else 0, 0) else if (x == [61]) = true then (if a = b then 1 else 0, 0)
  else if b = 0 then (0, 2) else if (x == [47]) = true then (wrap64 (a.tdiv b), 0) else (a.tmod b, 0)
def split (t : List ByteArray) : Int := if last cmpW t < 0 then (if last addW t < 0 then last divW t else last addW t) else last cmpW t
structure Fr where
  proc : Nat
  args : List Int
  call : Int
structure Pl where
  frames : List Fr
  vars : List Int
  cells : List (List Int)
  read : Nat
  out : List Int
  line : Int
  fin : Int
def zFr : Fr := ⟨0, [], 0⟩
def top (p : Pl) : Fr := p.frames.getD (p.frames.length - 1) zFr
def parsOf (ls : List (List ByteArray)) (l : Nat) : List ByteArray := (lineAt ls (l - 1)).drop 2
def value (ls : List (List ByteArray)) (p : Pl) (x : ByteArray) : Int :=
  if 0 ≤ index (parsOf ls (top p).proc) x then (top p).args.getD (index (parsOf ls (top p).proc) x).toNat 0 else p.vars.getD (decl ls x) 0
structure FrOK (ls : List (List ByteArray)) (f : Fr) : Prop where
  lo : 1 ≤ f.proc
  hi : f.proc ≤ ls.length
  two : 2 ≤ (lineAt ls (f.proc - 1)).length
  args : f.args.length = (lineAt ls (f.proc - 1)).length - 2
end Rf
set_option maxHeartbeats 1000000 in
theorem ints_ref (w : World) (v : Value) (xs : List Int) (h : Ints w v xs) (hl : xs.length ≤ 1000000) :
    Calls Tryz.prog 58 #[v] w fun e w' => Below w.heap.size w w' ∧ ∃ v', e = .returned v' ∧ w'.ownsRow w.heap.size 3 1 v' xs.length (xs.map (Value.int .i64)) := by
  obtain ⟨i0, hi0, hz0, hz1, hz2⟩ := info_parts Tryz.infoInt
  have HH := hide h
  obtain ⟨ad, cap, rfl, _⟩ := h
  have hb0 := (Below.refl w.heap.size w).alloc (Nat.le_refl _) (.cells #[] 3)
  have hown : (w.alloc (.cells #[] 3)).ownsRow w.heap.size 3 1 (.slice (some ⟨w.heap.size, 0, none⟩) 0 0) 0 [] := World.ownsRow_made w #[] 0 (Nat.le_refl _) (by unfold maxLen; omega) rfl
  go_enter Tryz.func58, Tryz.ntmps58
  go_wp2_with (at_builtin; refine wpList_append_any _ rfl _ _ 24 24 rfl w.heap.size 3 i0 _ Tryz.underlying24 hi0 hz0 hz1 (by omega) rfl _ _ _ rfl hown _ xs.length (xs.map (Value.int .i64)) rfl ((unhide HH).later hb0).src ?c1 ?c2 ?_)
  case c1 => omega
  case c2 => simp
  intro v' w' hown' hgrow
  have hb1 := hb0.grown hgrow (by simp) (fun j hj => by simp [Value.ownBlock] at hj; omega)
  have HF := hide (And.intro hown' hb1)
  clear hown' hb1 hgrow hown hb0
  go_wp2_with fail
  go_ret
  exact ⟨(unhide HF).2, _, rfl, (unhide HF).1⟩
def plA (fv vv cv ov : Value) (p : Rf.Pl) : Array Value := #[fv, vv, cv, .int .i64 p.read, ov, .int .i64 p.line, .int .i64 p.fin]
structure PlX where
  fv : Value
  vv : Value
  cv : Value
  ov : Value
  fps : List Value
  cps : List Value
def frCells : List Value → List Rf.Fr → List Value
  | v :: vs, f :: fs => .int .i64 f.proc :: v :: .int .i64 f.call :: frCells vs fs
  | _, _ => []
theorem frCells_snoc : ∀ (vs : List Value) (fs : List Rf.Fr) (v : Value) (f : Rf.Fr), vs.length = fs.length → frCells (vs ++ [v]) (fs ++ [f]) = frCells vs fs ++ [.int .i64 f.proc, v, .int .i64 f.call]
  | [], [], _, _, _ => rfl
  | [], _ :: _, _, _, h => by simp at h
  | _ :: _, [], _, _, h => by simp at h
  | v :: vs, f :: fs, v', f', h => by
    have := frCells_snoc vs fs v' f' (by simpa using h)
    simp only [List.cons_append, frCells, this]
def frRow (v : Value) (vs : List Value) (fs : List Rf.Fr) : Rw := ⟨130, 3, v, fs.length, frCells vs fs⟩
def lRow (v : Value) (vs : List Value) (n : Nat) : Rw := ⟨24, 1, v, n, vs⟩
def plRows (X : PlX) (p : Rf.Pl) : List Rw :=
  [frRow X.fv X.fps p.frames, iRow X.vv p.vars, lRow X.cv X.cps p.cells.length, iRow X.ov p.out] ++ (List.zipWith iRow X.fps (p.frames.map Rf.Fr.args) ++ List.zipWith iRow X.cps p.cells)
structure PlO (w : World) (B P : Nat) (p : Rf.Pl) (X : PlX) : Prop where
  block : w.heap[P]? = some (.cells (plA X.fv X.vv X.cv X.ov p) 72 (0, 0))
  own : Own w (plRows X p)
  fl : X.fps.length = p.frames.length
  cl : X.cps.length = p.cells.length
  new : ∀ k ∈ blks (plRows X p), B ≤ k
  here : B ≤ P
theorem PlO.later {w w' : World} {B P : Nat} {p : Rf.Pl} {X : PlX} (h : PlO w B P p X) (hb : Below w.heap.size w w') : PlO w' B P p X :=
  ⟨block_later h.block hb, h.own.later hb, h.fl, h.cl, h.new, h.here⟩
section
variable {w : World} {B P : Nat} {p : Rf.Pl} {X : PlX} (h : PlO w B P p X)
include h
theorem PlO.frow : w.ownsRow 0 130 3 X.fv p.frames.length (frCells X.fps p.frames) := h.own.rows (frRow X.fv X.fps p.frames) (by simp [plRows])
theorem PlO.vrow : w.ownsRow 0 3 1 X.vv p.vars.length (intsV p.vars) := h.own.rows (iRow X.vv p.vars) (by simp [plRows])
theorem PlO.crow : w.ownsRow 0 24 1 X.cv p.cells.length X.cps := h.own.rows (lRow X.cv X.cps p.cells.length) (by simp [plRows])
theorem PlO.orow : w.ownsRow 0 3 1 X.ov p.out.length (intsV p.out) := h.own.rows (iRow X.ov p.out) (by simp [plRows])
end
end Go.Proofs.YthleadfkfnnadaaGreat
