/- The law's world: looks. -/
import Derived.Test.YthleadfkfnnadaaGreatRefL
namespace Go.Proofs.YthleadfkfnnadaaGreat
open Go.RowKit
namespace Rf
def openerFrom (ls : List (List ByteArray)) : Nat → Nat → Nat
  | 0, _ => 0
  | m + 1, n =>
    if opensB (lineAt ls m) = true then
      (if (if ((first (lineAt ls m)).toList == [101, 110, 100]) = true then n + 1 else n) = 1 then m + 1 else openerFrom ls m ((if ((first (lineAt ls m)).toList == [101, 110, 100]) = true then n + 1 else n) - 1))
    else openerFrom ls m (if ((first (lineAt ls m)).toList == [101, 110, 100]) = true then n + 1 else n)
theorem openerFrom_b (ls : List (List ByteArray)) : ∀ m n, openerFrom ls m n ≤ m
  | 0, _ => Nat.le_refl _
  | m + 1, n => by
    rw [openerFrom]
    generalize (if ((first (lineAt ls m)).toList == [101, 110, 100]) = true then n + 1 else n) = q
    have h1 := openerFrom_b ls m (q - 1)
    have h2 := openerFrom_b ls m q
    split
    · split <;> omega
    · omega
def OpInv (ls : List (List ByteArray)) (k : Nat) (op : List Nat) : Prop := ∀ pre o suf, op = pre ++ o :: suf → openerFrom ls k (suf.length + 1) = o
theorem opener_i {ls : List (List ByteArray)} {k i : Nat} (h : k < ls.length) (hf : HF (first ls[k]) i) (n : Nat) : openerFrom ls (k + 1) n = if i = 3 ∨ i = 4 ∨ i = 5 then (if n = 1 then k + 1 else openerFrom ls k (n - 1)) else if i = 7 then openerFrom ls k (n + 1) else openerFrom ls k n := by
  obtain ⟨f0, f1, f2, f3, f4, f5, f6, f7⟩ := hf
  have ho : (opensB ls[k] = true) ↔ (i = 3 ∨ i = 4 ∨ i = 5) := by
    unfold opensB; rw [f3, f4, f5]; simp [or_assoc]
  rw [openerFrom, lineAt_lt h, f7]
  simp only [ho, decide_eq_true_eq]
  by_cases h3 : i = 3 ∨ i = 4 ∨ i = 5
  · have h7 : ¬ i = 7 := by omega
    simp [h3, h7]
  · by_cases h7 : i = 7
    · simp [h7]
    · simp [h3, h7]
theorem OpInv.push {ls : List (List ByteArray)} {k i : Nat} {op : List Nat} (h : OpInv ls k op) (hk : k < ls.length) (hf : HF (first ls[k]) i) (hi : i = 3 ∨ i = 4 ∨ i = 5) : OpInv ls (k + 1) (op ++ [k + 1]) := by
  intro pre o suf he
  rw [opener_i hk hf _, if_pos hi]
  rcases nat_snoc suf with rfl | ⟨s', x, rfl⟩
  · have := List.append_inj' he (by simp)
    simp at this
    simp [this.2]
  · have he' : op ++ [k + 1] = (pre ++ o :: s') ++ [x] := by rw [he]; simp
    have := List.append_inj' he' (by simp)
    rw [if_neg (by simp)]
    have h2 := h pre o s' this.1
    simpa using h2
theorem OpInv.pop {ls : List (List ByteArray)} {k i : Nat} {pre : List Nat} {x : Nat} (h : OpInv ls k (pre ++ [x])) (hk : k < ls.length) (hf : HF (first ls[k]) i) (hi : i = 7) : OpInv ls (k + 1) pre := by
  intro pre' o suf he
  rw [opener_i hk hf _, if_neg (by omega), if_pos hi]
  have := h pre' o (suf ++ [x]) (by rw [he]; simp)
  simpa using this
theorem OpInv.same {ls : List (List ByteArray)} {k i : Nat} {op : List Nat} (h : OpInv ls k op) (hk : k < ls.length) (hf : HF (first ls[k]) i) (h1 : ¬ (i = 3 ∨ i = 4 ∨ i = 5)) (h2 : ¬ i = 7) : OpInv ls (k + 1) op := by
  intro pre o suf he
  rw [opener_i hk hf _, if_neg h1, if_neg h2]
  exact h pre o suf he
theorem nest_at {ls : List (List ByteArray)} : ∀ (f k : Nat) (op sp : List Nat), ls.length - k = f → nestFrom ls (ls.drop k) k op sp = 0 → OpInv ls k op → (∀ o ∈ op, 1 ≤ o ∧ o ≤ k) →
    ∀ l, l < ls.length → k ≤ l → ∃ op' sp', nestFrom ls (ls.drop l) l op' sp' = 0 ∧ OpInv ls l op' ∧ (∀ o ∈ op', 1 ≤ o ∧ o ≤ l)
  | 0, k, op, sp, hf, _, _, _, l, hl, hkl => by omega
  | f + 1, k, op, sp, hf, h, hi, ho, l, hl, hkl => by
    by_cases hlk : l = k
    · subst hlk; exact ⟨op, sp, h, hi, ho⟩
    have hk : k < ls.length := by omega
    obtain ⟨i, _, hF⟩ := head_cases (first ls[k])
    rw [nest_i hk hF] at h
    have hk1 : k + 1 ≤ l := by omega
    have ho1 : ∀ o ∈ op, 1 ≤ o ∧ o ≤ k + 1 := fun o h => by have := ho o h; omega
    by_cases i0 : i = 0
    · rw [if_pos i0] at h
      exact nest_at f (k + 1) op sp (by omega) h (hi.same hk hF (by omega) (by omega)) ho1 l hl hk1
    rw [if_neg i0] at h
    by_cases hc : decide (i = 1 ∨ i = 2 ∨ i = 3) = !decide (op.length = 0)
    · rw [if_pos hc] at h; omega
    rw [if_neg hc] at h
    by_cases i3 : i = 3 ∨ i = 4 ∨ i = 5
    · rw [if_pos i3] at h
      refine nest_at f (k + 1) _ sp (by omega) h (hi.push hk hF i3) (fun o h => ?_) l hl hk1
      simp at h
      rcases h with h | rfl
      · exact ho1 o h
      · omega
    rw [if_neg i3] at h
    by_cases i6 : i = 6
    · rw [if_pos i6] at h
      split at h
      · omega
      · exact nest_at f (k + 1) op _ (by omega) h (hi.same hk hF i3 (by omega)) ho1 l hl hk1
    rw [if_neg i6] at h
    by_cases i7 : i = 7
    · rw [if_pos i7] at h
      rcases nat_snoc op with rfl | ⟨pre, x, rfl⟩
      · exfalso; apply hc; simp; omega
      · rw [List.dropLast_concat] at h
        exact nest_at f (k + 1) _ _ (by omega) h (hi.pop hk hF i7) (fun o h => ho1 o (by simp [h])) l hl hk1
    rw [if_neg i7] at h
    exact nest_at f (k + 1) op sp (by omega) h (hi.same hk hF i3 i7) ho1 l hl hk1
theorem nested_open {ls : List (List ByteArray)} (h : nested ls = 0) {l : Nat} (hl : l < ls.length) (he : ((first ls[l]).toList == [101, 110, 100]) = true) : 0 < openerFrom ls l 1 := by
  obtain ⟨op, sp, h1, h2, h3⟩ := nest_at ls.length 0 [] [] (by omega) h (by intro pre o suf he; simp at he) (by simp) l hl (by omega)
  obtain ⟨i, _, hF⟩ := head_cases (first ls[l])
  have h7 : i = 7 := by
    have := hF.2.2.2.2.2.2.2
    rw [he] at this
    simpa using this.symm
  subst h7
  rw [nest_i hl hF] at h1
  rcases nat_snoc op with rfl | ⟨pre, x, rfl⟩
  · simp at h1
  · have := h2 pre x [] rfl
    have hx := h3 x (by simp)
    simp at this
    omega
def stopB (ls : List (List ByteArray)) (l : Nat) (t : List ByteArray) : Bool :=
  if ((first t).toList == [115, 101, 116]) = true then true else if ((first t).toList == [112, 114, 105, 110, 116]) = true then true else if ((first t).toList == [114, 101, 97, 100]) = true then true
  else if ((first t).toList == [105, 102]) = true then true else if ((first t).toList == [119, 104, 105, 108, 101]) = true then true else if ((first t).toList == [99, 97, 108, 108]) = true then true else if ((first t).toList == [114, 101, 116, 117, 114, 110]) = true then true
  else if ((first t).toList == [101, 110, 100]) = true then ((first (lineAt ls (openerFrom ls l 1 - 1))).toList == [112, 114, 111, 99]) else false
end Rf
set_option maxHeartbeats 4000000 in
set_option maxRecDepth 100000 in
theorem opener_ref (w : World) (S g cap : Nat) (ls : List (List ByteArray)) (l : Nat) (h : SrcG w S g cap ls) (hl : l < ls.length) (hlen : ls.length ≤ 100) :
    Calls Tryz.prog 86 #[.pointer (some ⟨S, 0, none⟩), .int .i64 ((l : Int) + 1)] w fun e w' => e = .returned (.int .i64 (Rf.openerFrom ls l 1)) ∧ Below w.heap.size w w' := by
  have HN := hide h
  clear h
  go_enter Tryz.func86, Tryz.ntmps86
  go_wp2
  go_loopw [5, 6] (fun nv i wr => ∃ k n : Nat, k ≤ ls.length ∧ 0 < n ∧ n + k ≤ 200 ∧ nv = .int .i64 n ∧ i = .int .i64 k ∧ Rf.openerFrom ls k n = Rf.openerFrom ls l 1 ∧ SrcG wr S g cap ls ∧ Below w.heap.size w wr) (fun _ i _ => (intOf i).toNat)
  case atStart => exact ⟨l, 1, by omega, by omega, by omega, rfl, by go_num, rfl, unhide HN, Below.refl _ _⟩
  case round =>
    obtain ⟨k, n, hk, hn, hnk, rfl, rfl, hT, hs, hbe⟩ := hrel
    have HS := hide (And.intro hs hbe)
    have HT := hide hT
    clear hs hbe hT
    cases k with
    | zero =>
      go_wp2_with fail
      go_ret
      exact ⟨by rw [← unhide HT]; rfl, (unhide HS).2⟩
    | succ k =>
      have hlt : k < ls.length := by omega
      rw [Rf.openerFrom, Rf.lineAt_lt hlt] at HT
      have hpos : (0 : Int) < (k : Int) + 1 := by omega
      rw [show ((k + 1 : Nat) : Int) = (k : Int) + 1 by omega]
      go_wp2_with fail
      refine (opens_ref _ S g cap ls k (unhide HS).1 hlt hlen).mono ?_
      rintro e w1 ⟨rfl, hb1⟩
      have HS1 := hide (And.intro ((unhide HS).1.later hb1) ((unhide HS).2.trans (hb1.mono (unhide HS).2.size)))
      clear hb1
      go_wp2_with fail
      refine (head_ref _ S g cap ls k (unhide HS1).1 hlt hlen).mono ?_
      rintro e w2 ⟨rfl, hb2⟩
      have HS2 := hide (And.intro ((unhide HS1).1.later hb2) ((unhide HS1).2.trans (hb2.mono (unhide HS1).2.size)))
      clear hb2
      generalize Rf.first ls[k] = z at *
      generalize Rf.opensB ls[k] = ob at *
      cases hz : (z.toList == [101, 110, 100]) with
      | true =>
        rw [hz] at HT
        simp only [if_true] at HT
        cases ob with
        | true =>
          rw [if_pos rfl, if_neg (by omega), Nat.add_sub_cancel] at HT
          have h1 : ((n : Int) == 0) = false := by rw [beq_eq_false_iff_ne]; omega
          go_wp2_with fail
          go_roundw
          case rel => exact ⟨k, n, by omega, by omega, by omega, by go_num, by go_num, unhide HT, (unhide HS2).1, (unhide HS2).2⟩
          case measure => simp [intOf]
        | false =>
          rw [if_neg (by decide)] at HT
          go_wp2_with fail
          go_roundw
          case rel => exact ⟨k, n + 1, by omega, by omega, by omega, by go_num, by go_num, unhide HT, (unhide HS2).1, (unhide HS2).2⟩
          case measure => simp [intOf]
      | false =>
        rw [hz] at HT
        simp only [Bool.false_eq_true, if_false] at HT
        cases ob with
        | true =>
          rw [if_pos rfl] at HT
          by_cases hn1 : n = 1
          · rw [if_pos hn1] at HT
            subst hn1
            go_wp2_with fail
            go_ret
            exact ⟨by rw [← unhide HT]; rfl, (unhide HS2).2⟩
          · rw [if_neg hn1] at HT
            obtain ⟨n, rfl⟩ : ∃ m, n = m + 1 := ⟨n - 1, by omega⟩
            rw [show ((n + 1 : Nat) : Int) = (n : Int) + 1 by omega]
            rw [Nat.add_sub_cancel] at HT
            have h1 : ((n : Int) == 0) = false := by rw [beq_eq_false_iff_ne]; omega
            go_wp2_with fail
            go_roundw
            case rel => exact ⟨k, n, by omega, by omega, by omega, by go_num, by go_num, unhide HT, (unhide HS2).1, (unhide HS2).2⟩
            case measure => simp [intOf]
        | false =>
          rw [if_neg (by decide)] at HT
          go_wp2_with fail
          go_roundw
          case rel => exact ⟨k, n, by omega, by omega, by omega, by go_num, by go_num, unhide HT, (unhide HS2).1, (unhide HS2).2⟩
          case measure => simp [intOf]
set_option maxHeartbeats 2000000 in
set_option maxRecDepth 100000 in
theorem stop_0 (w : World) (S g cap : Nat) (ls : List (List ByteArray)) (l : Nat) (h : SrcG w S g cap ls) (hl : l < ls.length) (hlen : ls.length ≤ 100) (e0 : ((Rf.first ls[l]).toList == [115, 101, 116]) = true) :
    Calls Tryz.prog 48 #[.pointer (some ⟨S, 0, none⟩), .int .i64 ((l : Int) + 1)] w fun e w' => e = .returned (.bool (Rf.stopB ls l ls[l])) ∧ Below w.heap.size w w' := by
  have HN := hide h
  have hR : Rf.stopB ls l ls[l] = true := by rw [Rf.stopB, e0, if_pos rfl]
  have HR := hide hR
  clear h hR
  generalize Rf.stopB ls l ls[l] = R at *
  go_enter Tryz.func48, Tryz.ntmps48
  go_wp2_with fail
  refine (head_ref _ S g cap ls l (unhide HN) hl hlen).mono ?_
  rintro e w1 ⟨rfl, hb1⟩
  have HS1 := hide (And.intro ((unhide HN).later hb1) hb1)
  clear hb1
  generalize Rf.first ls[l] = z at *
  go_wp2_with fail
  go_ret
  exact ⟨by rw [unhide HR]; rfl, (unhide HS1).2⟩
set_option maxHeartbeats 2000000 in
set_option maxRecDepth 100000 in
theorem stop_1 (w : World) (S g cap : Nat) (ls : List (List ByteArray)) (l : Nat) (h : SrcG w S g cap ls) (hl : l < ls.length) (hlen : ls.length ≤ 100) (e0 : ((Rf.first ls[l]).toList == [115, 101, 116]) = false) (e1 : ((Rf.first ls[l]).toList == [112, 114, 105, 110, 116]) = true) :
    Calls Tryz.prog 48 #[.pointer (some ⟨S, 0, none⟩), .int .i64 ((l : Int) + 1)] w fun e w' => e = .returned (.bool (Rf.stopB ls l ls[l])) ∧ Below w.heap.size w w' := by
  have HN := hide h
  have hR : Rf.stopB ls l ls[l] = true := by rw [Rf.stopB, e0, if_neg (by decide), e1, if_pos rfl]
  have HR := hide hR
  clear h hR
  generalize Rf.stopB ls l ls[l] = R at *
  go_enter Tryz.func48, Tryz.ntmps48
  go_wp2_with fail
  refine (head_ref _ S g cap ls l (unhide HN) hl hlen).mono ?_
  rintro e w1 ⟨rfl, hb1⟩
  have HS1 := hide (And.intro ((unhide HN).later hb1) hb1)
  clear hb1
  generalize Rf.first ls[l] = z at *
  go_wp2_with fail
  go_ret
  exact ⟨by rw [unhide HR]; rfl, (unhide HS1).2⟩
set_option maxHeartbeats 2000000 in
set_option maxRecDepth 100000 in
theorem stop_2 (w : World) (S g cap : Nat) (ls : List (List ByteArray)) (l : Nat) (h : SrcG w S g cap ls) (hl : l < ls.length) (hlen : ls.length ≤ 100) (e0 : ((Rf.first ls[l]).toList == [115, 101, 116]) = false) (e1 : ((Rf.first ls[l]).toList == [112, 114, 105, 110, 116]) = false) (e2 : ((Rf.first ls[l]).toList == [114, 101, 97, 100]) = true) :
    Calls Tryz.prog 48 #[.pointer (some ⟨S, 0, none⟩), .int .i64 ((l : Int) + 1)] w fun e w' => e = .returned (.bool (Rf.stopB ls l ls[l])) ∧ Below w.heap.size w w' := by
  have HN := hide h
  have hR : Rf.stopB ls l ls[l] = true := by rw [Rf.stopB, e0, if_neg (by decide), e1, if_neg (by decide), e2, if_pos rfl]
  have HR := hide hR
  clear h hR
  generalize Rf.stopB ls l ls[l] = R at *
  go_enter Tryz.func48, Tryz.ntmps48
  go_wp2_with fail
  refine (head_ref _ S g cap ls l (unhide HN) hl hlen).mono ?_
  rintro e w1 ⟨rfl, hb1⟩
  have HS1 := hide (And.intro ((unhide HN).later hb1) hb1)
  clear hb1
  generalize Rf.first ls[l] = z at *
  go_wp2_with fail
  go_ret
  exact ⟨by rw [unhide HR]; rfl, (unhide HS1).2⟩
set_option maxHeartbeats 2000000 in
set_option maxRecDepth 100000 in
theorem stop_3 (w : World) (S g cap : Nat) (ls : List (List ByteArray)) (l : Nat) (h : SrcG w S g cap ls) (hl : l < ls.length) (hlen : ls.length ≤ 100) (e0 : ((Rf.first ls[l]).toList == [115, 101, 116]) = false) (e1 : ((Rf.first ls[l]).toList == [112, 114, 105, 110, 116]) = false) (e2 : ((Rf.first ls[l]).toList == [114, 101, 97, 100]) = false) (e3 : ((Rf.first ls[l]).toList == [105, 102]) = true) :
    Calls Tryz.prog 48 #[.pointer (some ⟨S, 0, none⟩), .int .i64 ((l : Int) + 1)] w fun e w' => e = .returned (.bool (Rf.stopB ls l ls[l])) ∧ Below w.heap.size w w' := by
  have HN := hide h
  have hR : Rf.stopB ls l ls[l] = true := by rw [Rf.stopB, e0, if_neg (by decide), e1, if_neg (by decide), e2, if_neg (by decide), e3, if_pos rfl]
  have HR := hide hR
  clear h hR
  generalize Rf.stopB ls l ls[l] = R at *
  go_enter Tryz.func48, Tryz.ntmps48
  go_wp2_with fail
  refine (head_ref _ S g cap ls l (unhide HN) hl hlen).mono ?_
  rintro e w1 ⟨rfl, hb1⟩
  have HS1 := hide (And.intro ((unhide HN).later hb1) hb1)
  clear hb1
  generalize Rf.first ls[l] = z at *
  go_wp2_with fail
  go_ret
  exact ⟨by rw [unhide HR]; rfl, (unhide HS1).2⟩
set_option maxHeartbeats 2000000 in
set_option maxRecDepth 100000 in
theorem stop_4 (w : World) (S g cap : Nat) (ls : List (List ByteArray)) (l : Nat) (h : SrcG w S g cap ls) (hl : l < ls.length) (hlen : ls.length ≤ 100) (e0 : ((Rf.first ls[l]).toList == [115, 101, 116]) = false) (e1 : ((Rf.first ls[l]).toList == [112, 114, 105, 110, 116]) = false) (e2 : ((Rf.first ls[l]).toList == [114, 101, 97, 100]) = false) (e3 : ((Rf.first ls[l]).toList == [105, 102]) = false) (e4 : ((Rf.first ls[l]).toList == [119, 104, 105, 108, 101]) = true) :
    Calls Tryz.prog 48 #[.pointer (some ⟨S, 0, none⟩), .int .i64 ((l : Int) + 1)] w fun e w' => e = .returned (.bool (Rf.stopB ls l ls[l])) ∧ Below w.heap.size w w' := by
  have HN := hide h
  have hR : Rf.stopB ls l ls[l] = true := by rw [Rf.stopB, e0, if_neg (by decide), e1, if_neg (by decide), e2, if_neg (by decide), e3, if_neg (by decide), e4, if_pos rfl]
  have HR := hide hR
  clear h hR
  generalize Rf.stopB ls l ls[l] = R at *
  go_enter Tryz.func48, Tryz.ntmps48
  go_wp2_with fail
  refine (head_ref _ S g cap ls l (unhide HN) hl hlen).mono ?_
  rintro e w1 ⟨rfl, hb1⟩
  have HS1 := hide (And.intro ((unhide HN).later hb1) hb1)
  clear hb1
  generalize Rf.first ls[l] = z at *
  go_wp2_with fail
  go_ret
  exact ⟨by rw [unhide HR]; rfl, (unhide HS1).2⟩
set_option maxHeartbeats 2000000 in
set_option maxRecDepth 100000 in
theorem stop_5 (w : World) (S g cap : Nat) (ls : List (List ByteArray)) (l : Nat) (h : SrcG w S g cap ls) (hl : l < ls.length) (hlen : ls.length ≤ 100) (e0 : ((Rf.first ls[l]).toList == [115, 101, 116]) = false) (e1 : ((Rf.first ls[l]).toList == [112, 114, 105, 110, 116]) = false) (e2 : ((Rf.first ls[l]).toList == [114, 101, 97, 100]) = false) (e3 : ((Rf.first ls[l]).toList == [105, 102]) = false) (e4 : ((Rf.first ls[l]).toList == [119, 104, 105, 108, 101]) = false) (e5 : ((Rf.first ls[l]).toList == [99, 97, 108, 108]) = true) :
    Calls Tryz.prog 48 #[.pointer (some ⟨S, 0, none⟩), .int .i64 ((l : Int) + 1)] w fun e w' => e = .returned (.bool (Rf.stopB ls l ls[l])) ∧ Below w.heap.size w w' := by
  have HN := hide h
  have hR : Rf.stopB ls l ls[l] = true := by rw [Rf.stopB, e0, if_neg (by decide), e1, if_neg (by decide), e2, if_neg (by decide), e3, if_neg (by decide), e4, if_neg (by decide), e5, if_pos rfl]
  have HR := hide hR
  clear h hR
  generalize Rf.stopB ls l ls[l] = R at *
  go_enter Tryz.func48, Tryz.ntmps48
  go_wp2_with fail
  refine (head_ref _ S g cap ls l (unhide HN) hl hlen).mono ?_
  rintro e w1 ⟨rfl, hb1⟩
  have HS1 := hide (And.intro ((unhide HN).later hb1) hb1)
  clear hb1
  generalize Rf.first ls[l] = z at *
  go_wp2_with fail
  go_ret
  exact ⟨by rw [unhide HR]; rfl, (unhide HS1).2⟩
set_option maxHeartbeats 2000000 in
set_option maxRecDepth 100000 in
theorem stop_6 (w : World) (S g cap : Nat) (ls : List (List ByteArray)) (l : Nat) (h : SrcG w S g cap ls) (hl : l < ls.length) (hlen : ls.length ≤ 100) (e0 : ((Rf.first ls[l]).toList == [115, 101, 116]) = false) (e1 : ((Rf.first ls[l]).toList == [112, 114, 105, 110, 116]) = false) (e2 : ((Rf.first ls[l]).toList == [114, 101, 97, 100]) = false) (e3 : ((Rf.first ls[l]).toList == [105, 102]) = false) (e4 : ((Rf.first ls[l]).toList == [119, 104, 105, 108, 101]) = false) (e5 : ((Rf.first ls[l]).toList == [99, 97, 108, 108]) = false) (e6 : ((Rf.first ls[l]).toList == [114, 101, 116, 117, 114, 110]) = true) :
    Calls Tryz.prog 48 #[.pointer (some ⟨S, 0, none⟩), .int .i64 ((l : Int) + 1)] w fun e w' => e = .returned (.bool (Rf.stopB ls l ls[l])) ∧ Below w.heap.size w w' := by
  have HN := hide h
  have hR : Rf.stopB ls l ls[l] = true := by rw [Rf.stopB, e0, if_neg (by decide), e1, if_neg (by decide), e2, if_neg (by decide), e3, if_neg (by decide), e4, if_neg (by decide), e5, if_neg (by decide), e6, if_pos rfl]
  have HR := hide hR
  clear h hR
  generalize Rf.stopB ls l ls[l] = R at *
  go_enter Tryz.func48, Tryz.ntmps48
  go_wp2_with fail
  refine (head_ref _ S g cap ls l (unhide HN) hl hlen).mono ?_
  rintro e w1 ⟨rfl, hb1⟩
  have HS1 := hide (And.intro ((unhide HN).later hb1) hb1)
  clear hb1
  generalize Rf.first ls[l] = z at *
  go_wp2_with fail
  go_ret
  exact ⟨by rw [unhide HR]; rfl, (unhide HS1).2⟩
set_option maxHeartbeats 2000000 in
set_option maxRecDepth 100000 in
theorem stop_7 (w : World) (S g cap : Nat) (ls : List (List ByteArray)) (l : Nat) (h : SrcG w S g cap ls) (hl : l < ls.length) (hlen : ls.length ≤ 100) (e0 : ((Rf.first ls[l]).toList == [115, 101, 116]) = false) (e1 : ((Rf.first ls[l]).toList == [112, 114, 105, 110, 116]) = false) (e2 : ((Rf.first ls[l]).toList == [114, 101, 97, 100]) = false) (e3 : ((Rf.first ls[l]).toList == [105, 102]) = false) (e4 : ((Rf.first ls[l]).toList == [119, 104, 105, 108, 101]) = false) (e5 : ((Rf.first ls[l]).toList == [99, 97, 108, 108]) = false) (e6 : ((Rf.first ls[l]).toList == [114, 101, 116, 117, 114, 110]) = false) (e7 : ((Rf.first ls[l]).toList == [101, 110, 100]) = true) (ho : 0 < Rf.openerFrom ls l 1) :
    Calls Tryz.prog 48 #[.pointer (some ⟨S, 0, none⟩), .int .i64 ((l : Int) + 1)] w fun e w' => e = .returned (.bool (Rf.stopB ls l ls[l])) ∧ Below w.heap.size w w' := by
  have HN := hide h
  have hR : Rf.stopB ls l ls[l] = ((Rf.first (Rf.lineAt ls (Rf.openerFrom ls l 1 - 1))).toList == [112, 114, 111, 99]) := by rw [Rf.stopB, e0, if_neg (by decide), e1, if_neg (by decide), e2, if_neg (by decide), e3, if_neg (by decide), e4, if_neg (by decide), e5, if_neg (by decide), e6, if_neg (by decide), e7, if_pos rfl]
  have HR := hide hR
  clear h hR
  generalize Rf.stopB ls l ls[l] = R at *
  go_enter Tryz.func48, Tryz.ntmps48
  go_wp2_with fail
  refine (head_ref _ S g cap ls l (unhide HN) hl hlen).mono ?_
  rintro e w1 ⟨rfl, hb1⟩
  have HS1 := hide (And.intro ((unhide HN).later hb1) hb1)
  clear hb1
  generalize Rf.first ls[l] = z at *
  go_wp2_with fail
  refine (opener_ref _ S g cap ls l (unhide HS1).1 hl hlen).mono ?_
  rintro e w2 ⟨rfl, hb2⟩
  have HS2 := hide (And.intro ((unhide HS1).1.later hb2) ((unhide HS1).2.trans (hb2.mono (unhide HS1).2.size)))
  clear hb2
  have hob := Rf.openerFrom_b ls l 1
  obtain ⟨d, hd⟩ : ∃ d, Rf.openerFrom ls l 1 = d + 1 := ⟨Rf.openerFrom ls l 1 - 1, by omega⟩
  have hdl : d < ls.length := by omega
  rw [hd, Nat.add_sub_cancel, Rf.lineAt_lt hdl] at HR
  rw [hd, show ((d + 1 : Nat) : Int) = (d : Int) + 1 by omega]
  go_wp2_with fail
  refine (head_ref _ S g cap ls d (unhide HS2).1 hdl hlen).mono ?_
  rintro e w3 ⟨rfl, hb3⟩
  have HS3 := hide ((unhide HS2).2.trans (hb3.mono (unhide HS2).2.size))
  clear hb3
  generalize Rf.first ls[d] = y at *
  go_wp2_with fail
  go_ret
  exact ⟨by rw [unhide HR]; rfl, unhide HS3⟩
set_option maxHeartbeats 2000000 in
set_option maxRecDepth 100000 in
theorem stop_8 (w : World) (S g cap : Nat) (ls : List (List ByteArray)) (l : Nat) (h : SrcG w S g cap ls) (hl : l < ls.length) (hlen : ls.length ≤ 100) (e0 : ((Rf.first ls[l]).toList == [115, 101, 116]) = false) (e1 : ((Rf.first ls[l]).toList == [112, 114, 105, 110, 116]) = false) (e2 : ((Rf.first ls[l]).toList == [114, 101, 97, 100]) = false) (e3 : ((Rf.first ls[l]).toList == [105, 102]) = false) (e4 : ((Rf.first ls[l]).toList == [119, 104, 105, 108, 101]) = false) (e5 : ((Rf.first ls[l]).toList == [99, 97, 108, 108]) = false) (e6 : ((Rf.first ls[l]).toList == [114, 101, 116, 117, 114, 110]) = false) (e7 : ((Rf.first ls[l]).toList == [101, 110, 100]) = false) :
    Calls Tryz.prog 48 #[.pointer (some ⟨S, 0, none⟩), .int .i64 ((l : Int) + 1)] w fun e w' => e = .returned (.bool (Rf.stopB ls l ls[l])) ∧ Below w.heap.size w w' := by
  have HN := hide h
  have hR : Rf.stopB ls l ls[l] = false := by rw [Rf.stopB, e0, if_neg (by decide), e1, if_neg (by decide), e2, if_neg (by decide), e3, if_neg (by decide), e4, if_neg (by decide), e5, if_neg (by decide), e6, if_neg (by decide), e7, if_neg (by decide)]
  have HR := hide hR
  clear h hR
  generalize Rf.stopB ls l ls[l] = R at *
  go_enter Tryz.func48, Tryz.ntmps48
  go_wp2_with fail
  refine (head_ref _ S g cap ls l (unhide HN) hl hlen).mono ?_
  rintro e w1 ⟨rfl, hb1⟩
  have HS1 := hide (And.intro ((unhide HN).later hb1) hb1)
  clear hb1
  generalize Rf.first ls[l] = z at *
  go_wp2_with fail
  go_ret
  exact ⟨by rw [unhide HR]; rfl, (unhide HS1).2⟩
theorem stop_ref (w : World) (S g cap : Nat) (ls : List (List ByteArray)) (l : Nat) (h : SrcG w S g cap ls) (hl : l < ls.length) (hlen : ls.length ≤ 100) (hn : Rf.nested ls = 0) :
    Calls Tryz.prog 48 #[.pointer (some ⟨S, 0, none⟩), .int .i64 ((l : Int) + 1)] w fun e w' => e = .returned (.bool (Rf.stopB ls l ls[l])) ∧ Below w.heap.size w w' := by
  by_cases e0 : ((Rf.first ls[l]).toList == [115, 101, 116]) = true
  · exact stop_0 w S g cap ls l h hl hlen  e0
  replace e0 := Bool.eq_false_iff.mpr e0
  by_cases e1 : ((Rf.first ls[l]).toList == [112, 114, 105, 110, 116]) = true
  · exact stop_1 w S g cap ls l h hl hlen e0 e1
  replace e1 := Bool.eq_false_iff.mpr e1
  by_cases e2 : ((Rf.first ls[l]).toList == [114, 101, 97, 100]) = true
  · exact stop_2 w S g cap ls l h hl hlen e0 e1 e2
  replace e2 := Bool.eq_false_iff.mpr e2
  by_cases e3 : ((Rf.first ls[l]).toList == [105, 102]) = true
  · exact stop_3 w S g cap ls l h hl hlen e0 e1 e2 e3
  replace e3 := Bool.eq_false_iff.mpr e3
  by_cases e4 : ((Rf.first ls[l]).toList == [119, 104, 105, 108, 101]) = true
  · exact stop_4 w S g cap ls l h hl hlen e0 e1 e2 e3 e4
  replace e4 := Bool.eq_false_iff.mpr e4
  by_cases e5 : ((Rf.first ls[l]).toList == [99, 97, 108, 108]) = true
  · exact stop_5 w S g cap ls l h hl hlen e0 e1 e2 e3 e4 e5
  replace e5 := Bool.eq_false_iff.mpr e5
  by_cases e6 : ((Rf.first ls[l]).toList == [114, 101, 116, 117, 114, 110]) = true
  · exact stop_6 w S g cap ls l h hl hlen e0 e1 e2 e3 e4 e5 e6
  replace e6 := Bool.eq_false_iff.mpr e6
  by_cases e7 : ((Rf.first ls[l]).toList == [101, 110, 100]) = true
  · exact stop_7 w S g cap ls l h hl hlen e0 e1 e2 e3 e4 e5 e6 e7 (Rf.nested_open hn hl e7)
  replace e7 := Bool.eq_false_iff.mpr e7
  exact stop_8 w S g cap ls l h hl hlen e0 e1 e2 e3 e4 e5 e6 e7
def ints (l : List Int) : List Value := l.map (Value.int .i64)
set_option maxHeartbeats 1000000 in
theorem num_ref (e : Int) (w : World) : Calls Tryz.prog 20 #[.int .i64 e] w fun r w' => r = .returned (.int .i64 e) ∧ w' = w := by
  go_enter Tryz.func20, Tryz.ntmps20
  go_wp2
  go_ret
  exact ⟨rfl, rfl⟩
theorem own_all {w : World} {B n : Nat} {v : Value} {xs : List Value} (h : w.ownsRow B 3 1 v n xs) : (v = .slice none 0 0 ∧ n = 0) ∨ ∃ g cap ys, v = .slice (some ⟨g, 0, none⟩) n cap ∧ n ≤ cap ∧ cap ≤ maxLen ∧ ys.length = cap ∧ w.ownsRow B 3 1 (.slice (some ⟨g, 0, none⟩) cap cap) cap ys := by
  obtain ⟨h1, h2⟩ := h
  rcases h2 with ⟨rfl, rfl⟩ | ⟨g, cap, cur, rfl, hg, hh, hn, hc, hs, ht⟩
  · exact Or.inl ⟨rfl, rfl⟩
  · refine Or.inr ⟨g, cap, cur.toList, rfl, hn, hc, by simpa using hs, ?_⟩
    exact ⟨by simpa using hs, Or.inr ⟨g, cap, cur, rfl, hg, hh, Nat.le_refl _, hc, hs, by rw [List.take_of_length_le]; simp [hs]⟩⟩
theorem grown_refl (w : World) (row : Option Nat) : w.grownBy w row := ⟨rfl, rfl, rfl, Nat.le_refl _, fun _ _ _ => rfl⟩
theorem grown_then {w w1 w2 : World} {row : Option Nat} (h : w.grownBy w1 row) (k : w1.grownBy w2 row) : w.grownBy w2 row :=
  ⟨k.os.trans h.os, k.tape.trans h.tape, k.output.trans h.output, Nat.le_trans h.size k.size, fun i hi hr => (k.block i (Nat.lt_of_lt_of_le hi h.size) hr).trans (h.block i hi hr)⟩
def Over (w : World) (B : Nat) (m : Int) (v : Value) : Prop := v = .slice none 0 0 ∨ ∃ g c, v = .slice (some ⟨g, 0, none⟩) c c ∧ c ≤ maxLen ∧ w.ownsRow B 3 1 v c (List.replicate c (.int .i64 m))
set_option maxHeartbeats 2000000 in
set_option maxRecDepth 100000 in
theorem over_ref (w : World) (B n : Nat) (v : Value) (xs : List Value) (m : Int) (h : w.ownsRow B 3 1 v n xs) :
    Calls Tryz.prog 56 #[v, .int .i64 m] w fun e w' => ∃ v', e = .returned v' ∧ Over w' B m v' ∧ w.grownBy w' v.ownBlock ∧ v'.ownBlock = v.ownBlock := by
  rcases own_all h with ⟨rfl, rfl⟩ | ⟨g, cap, ys, rfl, hn, hc, hys, hall⟩
  · clear h
    go_enter Tryz.func56, Tryz.ntmps56
    go_wp2
    go_loop [6] (fun i => i = .int .i64 (0 : Nat)) (fun _ => 0)
    case atStart => rfl
    case round =>
      subst hrel
      go_wp2
      go_ret
      exact ⟨_, rfl, Or.inl rfl, grown_refl _ _, rfl⟩
  · clear h
    have hc0 : (0 : Int) ≤ (cap : Int) := by omega
    unfold maxLen at hc
    go_enter Tryz.func56, Tryz.ntmps56
    go_wp2
    go_loopw [6] (fun i wr => ∃ (k : Nat) (zs : List Value), k ≤ cap ∧ i = .int .i64 k ∧ zs.length = cap ∧ (∀ j, j < k → zs[j]? = some (.int .i64 m)) ∧ wr.ownsRow B 3 1 (.slice (some ⟨g, 0, none⟩) cap cap) cap zs ∧ w.grownBy wr (some g)) (fun i _ => cap - (intOf i).toNat)
    case atStart => exact ⟨0, ys, Nat.zero_le _, rfl, hys, fun j h => by omega, hall, grown_refl _ _⟩
    case round =>
      obtain ⟨k, zs, hk, rfl, hzl, hz, hown, hgr⟩ := hrel
      have HX := hide (And.intro hzl (And.intro hz (And.intro hown hgr)))
      by_cases hlt : k < cap
      · have hlt' : (k : Int) < (cap : Int) := by omega
        have hk0 : (0 : Int) ≤ (k : Int) := by omega
        obtain ⟨g', cap', he, _, _, cx⟩ := own_cell hown (j := k) (u := zs[k]'(by omega)) (by simp)
        simp at he
        obtain ⟨rfl, rfl⟩ := he
        have fz := hown.frozenAt k
        generalize zs[k]'(by omega) = zk at cx
        clear hzl hz hown hgr
        go_wp2_with fail
        go_roundw
        case rel =>
          obtain ⟨q1, q2, q3, q4⟩ := unhide HX
          obtain ⟨s1, s2⟩ := q3.stored k (.int .i64 m)
          refine ⟨k + 1, zs.set k (.int .i64 m), by omega, by go_num, by simp [q1], fun j hj => ?_, s1, grown_then q4 s2⟩
          by_cases e : j = k
          · subst e; rw [List.getElem?_set_self (by omega)]
          · rw [List.getElem?_set_ne (by omega)]; exact q2 j (by omega)
        case measure => simp [intOf]; omega
      · have hlt' : ¬ (k : Int) < (cap : Int) := by omega
        clear hzl hz hown hgr
        go_wp2_with fail
        go_ret
        obtain ⟨q1, q2, q3, q4⟩ := unhide HX
        refine ⟨_, rfl, Or.inr ⟨g, cap, rfl, by unfold maxLen; omega, ?_⟩, q4, rfl⟩
        have hrep : zs = List.replicate cap (.int .i64 m) := by
          apply List.ext_getElem?
          intro j
          by_cases hj : j < cap
          · rw [q2 j (by omega), List.getElem?_replicate, if_pos hj]
          · rw [List.getElem?_eq_none (by omega), List.getElem?_eq_none (by simp; omega)]
        rw [← hrep]
        exact q3
theorem Tryz.infoInts : (Tryz.prog.info? 24).map (fun i => (i.zero, i.size, i.bytes)) = some (some (.slice none 0 0), 1, 24) := by kernel_rfl
theorem Over.map {w w' : World} {B : Nat} {m : Int} {v : Value} (h : Over w B m v) (hx : ∀ (n : Nat) (xs : List Value), w.ownsRow B 3 1 v n xs → w'.ownsRow B 3 1 v n xs) : Over w' B m v := by
  rcases h with h | ⟨g, c, h1, h2, h3⟩
  · exact Or.inl h
  · exact Or.inr ⟨g, c, h1, h2, hx _ _ h3⟩
theorem Over.form {w : World} {B : Nat} {m : Int} {v : Value} (h : Over w B m v) : ∃ a n c, v = .slice a n c ∧ n ≤ maxLen := by
  rcases h with e | ⟨g, c, e, h, _⟩
  · exact ⟨_, _, _, e, Nat.zero_le _⟩
  · exact ⟨_, _, _, e, h⟩
theorem Over.cell {w : World} {B : Nat} {m : Int} {a : Option Addr} {n c j : Nat} (h : Over w B m (.slice a n c)) (hj : j < n) : ∃ g, a = some ⟨g, 0, none⟩ ∧ w.cell? ⟨g, j, none⟩ = some (.int .i64 m) := by
  rcases h with e | ⟨g, c', e, h, ho⟩
  · simp at e; omega
  · simp at e
    obtain ⟨rfl, rfl, rfl⟩ := e
    obtain ⟨g', cap, he, _, _, hc⟩ := own_cell ho (j := j) (u := .int .i64 m) (by simp [hj])
    simp at he
    exact ⟨g, rfl, by rw [he.1]; exact hc⟩
end Go.Proofs.YthleadfkfnnadaaGreat
