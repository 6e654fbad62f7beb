/- The document's answer: what opened a block; stops. -/
import Derived.Test.YtopeochnoefgcaaGreatRefJ
namespace Go.Proofs.YtopeochnoefgcaaGreat
open Go.RowKit

namespace Rf
/-- The line that opened the n-th block from within, of those open behind the first m lines. -/
def openerFrom (ls : List (List ByteArray)) : Nat → Nat → Nat
  | 0, _ => 0
  | m + 1, n =>
    if opensB (lineAt ls m) = true then
      (if (if ((first (lineAt ls m)).toList == [101, 110, 100]) = true then n + 1 else n) = 1 then m + 1 else openerFrom ls m ((if ((first (lineAt ls m)).toList == [101, 110, 100]) = true then n + 1 else n) - 1))
    else openerFrom ls m (if ((first (lineAt ls m)).toList == [101, 110, 100]) = true then n + 1 else n)
theorem openerFrom_b (ls : List (List ByteArray)) : ∀ m n, openerFrom ls m n ≤ m
  | 0, _ => Nat.le_refl _
  | m + 1, n => by
    rw [openerFrom]
    generalize (if ((first (lineAt ls m)).toList == [101, 110, 100]) = true then n + 1 else n) = q
    have h1 := openerFrom_b ls m (q - 1)
    have h2 := openerFrom_b ls m q
    split
    · split <;> omega
    · omega
/-- The open blocks are those that are found by going back. -/
def OpInv (ls : List (List ByteArray)) (k : Nat) (op : List Nat) : Prop := ∀ pre o suf, op = pre ++ o :: suf → openerFrom ls k (suf.length + 1) = o
theorem opener_i {ls : List (List ByteArray)} {k i : Nat} (h : k < ls.length) (hf : HF (first ls[k]) i) (n : Nat) : openerFrom ls (k + 1) n = if i = 3 ∨ i = 4 ∨ i = 5 then (if n = 1 then k + 1 else openerFrom ls k (n - 1)) else if i = 7 then openerFrom ls k (n + 1) else openerFrom ls k n := by
  obtain ⟨f0, f1, f2, f3, f4, f5, f6, f7⟩ := hf
  have ho : (opensB ls[k] = true) ↔ (i = 3 ∨ i = 4 ∨ i = 5) := by
    unfold opensB; rw [f3, f4, f5]; simp [or_assoc]
  rw [openerFrom, lineAt_lt h, f7]
  simp only [ho, decide_eq_true_eq]
  by_cases h3 : i = 3 ∨ i = 4 ∨ i = 5
  · have h7 : ¬ i = 7 := by omega
    simp [h3, h7]
  · by_cases h7 : i = 7
    · simp [h7]
    · simp [h3, h7]
theorem OpInv.push {ls : List (List ByteArray)} {k i : Nat} {op : List Nat} (h : OpInv ls k op) (hk : k < ls.length) (hf : HF (first ls[k]) i) (hi : i = 3 ∨ i = 4 ∨ i = 5) : OpInv ls (k + 1) (op ++ [k + 1]) := by
  intro pre o suf he
  rw [opener_i hk hf _, if_pos hi]
  rcases nat_snoc suf with rfl | ⟨s', x, rfl⟩
  · have := List.append_inj' he (by simp)
    simp at this
    simp [this.2]
  · have he' : op ++ [k + 1] = (pre ++ o :: s') ++ [x] := by rw [he]; simp
    have := List.append_inj' he' (by simp)
    rw [if_neg (by simp)]
    have h2 := h pre o s' this.1
    simpa using h2
theorem OpInv.pop {ls : List (List ByteArray)} {k i : Nat} {pre : List Nat} {x : Nat} (h : OpInv ls k (pre ++ [x])) (hk : k < ls.length) (hf : HF (first ls[k]) i) (hi : i = 7) : OpInv ls (k + 1) pre := by
  intro pre' o suf he
  rw [opener_i hk hf _, if_neg (by omega), if_pos hi]
  have := h pre' o (suf ++ [x]) (by rw [he]; simp)
  simpa using this
theorem OpInv.same {ls : List (List ByteArray)} {k i : Nat} {op : List Nat} (h : OpInv ls k op) (hk : k < ls.length) (hf : HF (first ls[k]) i) (h1 : ¬ (i = 3 ∨ i = 4 ∨ i = 5)) (h2 : ¬ i = 7) : OpInv ls (k + 1) op := by
  intro pre o suf he
  rw [opener_i hk hf _, if_neg h1, if_neg h2]
  exact h pre o suf he
/-- The lines at which the loop over a source's blocks comes by, each with its open blocks. -/
theorem nest_at {ls : List (List ByteArray)} : ∀ (f k : Nat) (op sp : List Nat), ls.length - k = f → nestFrom ls (ls.drop k) k op sp = 0 → OpInv ls k op → (∀ o ∈ op, 1 ≤ o ∧ o ≤ k) →
    ∀ l, l < ls.length → k ≤ l → ∃ op' sp', nestFrom ls (ls.drop l) l op' sp' = 0 ∧ OpInv ls l op' ∧ (∀ o ∈ op', 1 ≤ o ∧ o ≤ l)
  | 0, k, op, sp, hf, _, _, _, l, hl, hkl => by omega
  | f + 1, k, op, sp, hf, h, hi, ho, l, hl, hkl => by
    by_cases hlk : l = k
    · subst hlk; exact ⟨op, sp, h, hi, ho⟩
    have hk : k < ls.length := by omega
    obtain ⟨i, _, hF⟩ := head_cases (first ls[k])
    rw [nest_i hk hF] at h
    have hk1 : k + 1 ≤ l := by omega
    have ho1 : ∀ o ∈ op, 1 ≤ o ∧ o ≤ k + 1 := fun o h => by have := ho o h; omega
    by_cases i0 : i = 0
    · rw [if_pos i0] at h
      exact nest_at f (k + 1) op sp (by omega) h (hi.same hk hF (by omega) (by omega)) ho1 l hl hk1
    rw [if_neg i0] at h
    by_cases hc : decide (i = 1 ∨ i = 2 ∨ i = 3) = !decide (op.length = 0)
    · rw [if_pos hc] at h; omega
    rw [if_neg hc] at h
    by_cases i3 : i = 3 ∨ i = 4 ∨ i = 5
    · rw [if_pos i3] at h
      refine nest_at f (k + 1) _ sp (by omega) h (hi.push hk hF i3) (fun o h => ?_) l hl hk1
      simp at h
      rcases h with h | rfl
      · exact ho1 o h
      · omega
    rw [if_neg i3] at h
    by_cases i6 : i = 6
    · rw [if_pos i6] at h
      split at h
      · omega
      · exact nest_at f (k + 1) op _ (by omega) h (hi.same hk hF i3 (by omega)) ho1 l hl hk1
    rw [if_neg i6] at h
    by_cases i7 : i = 7
    · rw [if_pos i7] at h
      rcases nat_snoc op with rfl | ⟨pre, x, rfl⟩
      · exfalso; apply hc; simp; omega
      · rw [List.dropLast_concat] at h
        exact nest_at f (k + 1) _ _ (by omega) h (hi.pop hk hF i7) (fun o h => ho1 o (by simp [h])) l hl hk1
    rw [if_neg i7] at h
    exact nest_at f (k + 1) op sp (by omega) h (hi.same hk hF i3 i7) ho1 l hl hk1
theorem nested_open {ls : List (List ByteArray)} (h : nested ls = 0) {l : Nat} (hl : l < ls.length) (he : ((first ls[l]).toList == [101, 110, 100]) = true) : 0 < openerFrom ls l 1 := by
  obtain ⟨op, sp, h1, h2, h3⟩ := nest_at ls.length 0 [] [] (by omega) h (by intro pre o suf he; simp at he) (by simp) l hl (by omega)
  obtain ⟨i, _, hF⟩ := head_cases (first ls[l])
  have h7 : i = 7 := by
    have := hF.2.2.2.2.2.2.2
    rw [he] at this
    simpa using this.symm
  subst h7
  rw [nest_i hl hF] at h1
  rcases nat_snoc op with rfl | ⟨pre, x, rfl⟩
  · simp at h1
  · have := h2 pre x [] rfl
    have hx := h3 x (by simp)
    simp at this
    omega
def stopB (ls : List (List ByteArray)) (l : Nat) (t : List ByteArray) : Bool :=
  if ((first t).toList == [115, 101, 116]) = true then true else if ((first t).toList == [112, 114, 105, 110, 116]) = true then true else if ((first t).toList == [114, 101, 97, 100]) = true then true
  else if ((first t).toList == [105, 102]) = true then true else if ((first t).toList == [119, 104, 105, 108, 101]) = true then true else if ((first t).toList == [99, 97, 108, 108]) = true then true else if ((first t).toList == [114, 101, 116, 117, 114, 110]) = true then true
  else if ((first t).toList == [101, 110, 100]) = true then ((first (lineAt ls (openerFrom ls l 1 - 1))).toList == [112, 114, 111, 99]) else false
end Rf

set_option maxHeartbeats 4000000 in
set_option maxRecDepth 100000 in
theorem opener_ref (w : World) (S g cap : Nat) (ls : List (List ByteArray)) (l : Nat) (h : SrcG w S g cap ls) (hl : l < ls.length) (hlen : ls.length ≤ 100) :
    Calls Tryz.prog 88 #[.pointer (some ⟨S, 0, none⟩), .int .i64 ((l : Int) + 1)] w fun e w' => e = .returned (.int .i64 (Rf.openerFrom ls l 1)) ∧ Below w.heap.size w w' := by
  have HN := hide h
  clear h
  go_enter Tryz.func88, Tryz.ntmps88
  go_wp2
  go_loopw [5, 6] (fun nv i wr => ∃ k n : Nat, k ≤ ls.length ∧ 0 < n ∧ n + k ≤ 200 ∧ nv = .int .i64 n ∧ i = .int .i64 k ∧ Rf.openerFrom ls k n = Rf.openerFrom ls l 1 ∧ SrcG wr S g cap ls ∧ Below w.heap.size w wr) (fun _ i _ => (intOf i).toNat)
  case atStart => exact ⟨l, 1, by omega, by omega, by omega, rfl, by go_num, rfl, unhide HN, Below.refl _ _⟩
  case round =>
    obtain ⟨k, n, hk, hn, hnk, rfl, rfl, hT, hs, hbe⟩ := hrel
    have HS := hide (And.intro hs hbe)
    have HT := hide hT
    clear hs hbe hT
    cases k with
    | zero =>
      go_wp2_with fail
      go_ret
      exact ⟨by rw [← unhide HT]; rfl, (unhide HS).2⟩
    | succ k =>
      have hlt : k < ls.length := by omega
      rw [Rf.openerFrom, Rf.lineAt_lt hlt] at HT
      have hpos : (0 : Int) < (k : Int) + 1 := by omega
      rw [show ((k + 1 : Nat) : Int) = (k : Int) + 1 by omega]
      go_wp2_with fail
      refine (opens_ref _ S g cap ls k (unhide HS).1 hlt hlen).mono ?_
      rintro e w1 ⟨rfl, hb1⟩
      have HS1 := hide (And.intro ((unhide HS).1.later hb1) ((unhide HS).2.trans (hb1.mono (unhide HS).2.size)))
      clear hb1
      go_wp2_with fail
      refine (head_ref _ S g cap ls k (unhide HS1).1 hlt hlen).mono ?_
      rintro e w2 ⟨rfl, hb2⟩
      have HS2 := hide (And.intro ((unhide HS1).1.later hb2) ((unhide HS1).2.trans (hb2.mono (unhide HS1).2.size)))
      clear hb2
      generalize Rf.first ls[k] = z at *
      generalize Rf.opensB ls[k] = ob at *
      cases hz : (z.toList == [101, 110, 100]) with
      | true =>
        rw [hz] at HT
        simp only [if_true] at HT
        cases ob with
        | true =>
          rw [if_pos rfl, if_neg (by omega), Nat.add_sub_cancel] at HT
          have h1 : ((n : Int) == 0) = false := by rw [beq_eq_false_iff_ne]; omega
          go_wp2_with fail
          go_roundw
          case rel => exact ⟨k, n, by omega, by omega, by omega, by go_num, by go_num, unhide HT, (unhide HS2).1, (unhide HS2).2⟩
          case measure => simp [intOf]
        | false =>
          rw [if_neg (by decide)] at HT
          go_wp2_with fail
          go_roundw
          case rel => exact ⟨k, n + 1, by omega, by omega, by omega, by go_num, by go_num, unhide HT, (unhide HS2).1, (unhide HS2).2⟩
          case measure => simp [intOf]
      | false =>
        rw [hz] at HT
        simp only [Bool.false_eq_true, if_false] at HT
        cases ob with
        | true =>
          rw [if_pos rfl] at HT
          by_cases hn1 : n = 1
          · rw [if_pos hn1] at HT
            subst hn1
            go_wp2_with fail
            go_ret
            exact ⟨by rw [← unhide HT]; rfl, (unhide HS2).2⟩
          · rw [if_neg hn1] at HT
            obtain ⟨n, rfl⟩ : ∃ m, n = m + 1 := ⟨n - 1, by omega⟩
            rw [show ((n + 1 : Nat) : Int) = (n : Int) + 1 by omega]
            rw [Nat.add_sub_cancel] at HT
            have h1 : ((n : Int) == 0) = false := by rw [beq_eq_false_iff_ne]; omega
            go_wp2_with fail
            go_roundw
            case rel => exact ⟨k, n, by omega, by omega, by omega, by go_num, by go_num, unhide HT, (unhide HS2).1, (unhide HS2).2⟩
            case measure => simp [intOf]
        | false =>
          rw [if_neg (by decide)] at HT
          go_wp2_with fail
          go_roundw
          case rel => exact ⟨k, n, by omega, by omega, by omega, by go_num, by go_num, unhide HT, (unhide HS2).1, (unhide HS2).2⟩
          case measure => simp [intOf]

set_option maxHeartbeats 2000000 in
set_option maxRecDepth 100000 in
theorem stop_0 (w : World) (S g cap : Nat) (ls : List (List ByteArray)) (l : Nat) (h : SrcG w S g cap ls) (hl : l < ls.length) (hlen : ls.length ≤ 100) (e0 : ((Rf.first ls[l]).toList == [115, 101, 116]) = true) :
    Calls Tryz.prog 50 #[.pointer (some ⟨S, 0, none⟩), .int .i64 ((l : Int) + 1)] w fun e w' => e = .returned (.bool (Rf.stopB ls l ls[l])) ∧ Below w.heap.size w w' := by
  have HN := hide h
  have hR : Rf.stopB ls l ls[l] = true := by rw [Rf.stopB, e0, if_pos rfl]
  have HR := hide hR
  clear h hR
  generalize Rf.stopB ls l ls[l] = R at *
  go_enter Tryz.func50, Tryz.ntmps50
  go_wp2_with fail
  refine (head_ref _ S g cap ls l (unhide HN) hl hlen).mono ?_
  rintro e w1 ⟨rfl, hb1⟩
  have HS1 := hide (And.intro ((unhide HN).later hb1) hb1)
  clear hb1
  generalize Rf.first ls[l] = z at *
  go_wp2_with fail
  go_ret
  exact ⟨by rw [unhide HR]; rfl, (unhide HS1).2⟩

set_option maxHeartbeats 2000000 in
set_option maxRecDepth 100000 in
theorem stop_1 (w : World) (S g cap : Nat) (ls : List (List ByteArray)) (l : Nat) (h : SrcG w S g cap ls) (hl : l < ls.length) (hlen : ls.length ≤ 100) (e0 : ((Rf.first ls[l]).toList == [115, 101, 116]) = false) (e1 : ((Rf.first ls[l]).toList == [112, 114, 105, 110, 116]) = true) :
    Calls Tryz.prog 50 #[.pointer (some ⟨S, 0, none⟩), .int .i64 ((l : Int) + 1)] w fun e w' => e = .returned (.bool (Rf.stopB ls l ls[l])) ∧ Below w.heap.size w w' := by
  have HN := hide h
  have hR : Rf.stopB ls l ls[l] = true := by rw [Rf.stopB, e0, if_neg (by decide), e1, if_pos rfl]
  have HR := hide hR
  clear h hR
  generalize Rf.stopB ls l ls[l] = R at *
  go_enter Tryz.func50, Tryz.ntmps50
  go_wp2_with fail
  refine (head_ref _ S g cap ls l (unhide HN) hl hlen).mono ?_
  rintro e w1 ⟨rfl, hb1⟩
  have HS1 := hide (And.intro ((unhide HN).later hb1) hb1)
  clear hb1
  generalize Rf.first ls[l] = z at *
  go_wp2_with fail
  go_ret
  exact ⟨by rw [unhide HR]; rfl, (unhide HS1).2⟩

set_option maxHeartbeats 2000000 in
set_option maxRecDepth 100000 in
theorem stop_2 (w : World) (S g cap : Nat) (ls : List (List ByteArray)) (l : Nat) (h : SrcG w S g cap ls) (hl : l < ls.length) (hlen : ls.length ≤ 100) (e0 : ((Rf.first ls[l]).toList == [115, 101, 116]) = false) (e1 : ((Rf.first ls[l]).toList == [112, 114, 105, 110, 116]) = false) (e2 : ((Rf.first ls[l]).toList == [114, 101, 97, 100]) = true) :
    Calls Tryz.prog 50 #[.pointer (some ⟨S, 0, none⟩), .int .i64 ((l : Int) + 1)] w fun e w' => e = .returned (.bool (Rf.stopB ls l ls[l])) ∧ Below w.heap.size w w' := by
  have HN := hide h
  have hR : Rf.stopB ls l ls[l] = true := by rw [Rf.stopB, e0, if_neg (by decide), e1, if_neg (by decide), e2, if_pos rfl]
  have HR := hide hR
  clear h hR
  generalize Rf.stopB ls l ls[l] = R at *
  go_enter Tryz.func50, Tryz.ntmps50
  go_wp2_with fail
  refine (head_ref _ S g cap ls l (unhide HN) hl hlen).mono ?_
  rintro e w1 ⟨rfl, hb1⟩
  have HS1 := hide (And.intro ((unhide HN).later hb1) hb1)
  clear hb1
  generalize Rf.first ls[l] = z at *
  go_wp2_with fail
  go_ret
  exact ⟨by rw [unhide HR]; rfl, (unhide HS1).2⟩

set_option maxHeartbeats 2000000 in
set_option maxRecDepth 100000 in
theorem stop_3 (w : World) (S g cap : Nat) (ls : List (List ByteArray)) (l : Nat) (h : SrcG w S g cap ls) (hl : l < ls.length) (hlen : ls.length ≤ 100) (e0 : ((Rf.first ls[l]).toList == [115, 101, 116]) = false) (e1 : ((Rf.first ls[l]).toList == [112, 114, 105, 110, 116]) = false) (e2 : ((Rf.first ls[l]).toList == [114, 101, 97, 100]) = false) (e3 : ((Rf.first ls[l]).toList == [105, 102]) = true) :
    Calls Tryz.prog 50 #[.pointer (some ⟨S, 0, none⟩), .int .i64 ((l : Int) + 1)] w fun e w' => e = .returned (.bool (Rf.stopB ls l ls[l])) ∧ Below w.heap.size w w' := by
  have HN := hide h
  have hR : Rf.stopB ls l ls[l] = true := by rw [Rf.stopB, e0, if_neg (by decide), e1, if_neg (by decide), e2, if_neg (by decide), e3, if_pos rfl]
  have HR := hide hR
  clear h hR
  generalize Rf.stopB ls l ls[l] = R at *
  go_enter Tryz.func50, Tryz.ntmps50
  go_wp2_with fail
  refine (head_ref _ S g cap ls l (unhide HN) hl hlen).mono ?_
  rintro e w1 ⟨rfl, hb1⟩
  have HS1 := hide (And.intro ((unhide HN).later hb1) hb1)
  clear hb1
  generalize Rf.first ls[l] = z at *
  go_wp2_with fail
  go_ret
  exact ⟨by rw [unhide HR]; rfl, (unhide HS1).2⟩

set_option maxHeartbeats 2000000 in
set_option maxRecDepth 100000 in
theorem stop_4 (w : World) (S g cap : Nat) (ls : List (List ByteArray)) (l : Nat) (h : SrcG w S g cap ls) (hl : l < ls.length) (hlen : ls.length ≤ 100) (e0 : ((Rf.first ls[l]).toList == [115, 101, 116]) = false) (e1 : ((Rf.first ls[l]).toList == [112, 114, 105, 110, 116]) = false) (e2 : ((Rf.first ls[l]).toList == [114, 101, 97, 100]) = false) (e3 : ((Rf.first ls[l]).toList == [105, 102]) = false) (e4 : ((Rf.first ls[l]).toList == [119, 104, 105, 108, 101]) = true) :
    Calls Tryz.prog 50 #[.pointer (some ⟨S, 0, none⟩), .int .i64 ((l : Int) + 1)] w fun e w' => e = .returned (.bool (Rf.stopB ls l ls[l])) ∧ Below w.heap.size w w' := by
  have HN := hide h
  have hR : Rf.stopB ls l ls[l] = true := by rw [Rf.stopB, e0, if_neg (by decide), e1, if_neg (by decide), e2, if_neg (by decide), e3, if_neg (by decide), e4, if_pos rfl]
  have HR := hide hR
  clear h hR
  generalize Rf.stopB ls l ls[l] = R at *
  go_enter Tryz.func50, Tryz.ntmps50
  go_wp2_with fail
  refine (head_ref _ S g cap ls l (unhide HN) hl hlen).mono ?_
  rintro e w1 ⟨rfl, hb1⟩
  have HS1 := hide (And.intro ((unhide HN).later hb1) hb1)
  clear hb1
  generalize Rf.first ls[l] = z at *
  go_wp2_with fail
  go_ret
  exact ⟨by rw [unhide HR]; rfl, (unhide HS1).2⟩

set_option maxHeartbeats 2000000 in
set_option maxRecDepth 100000 in
theorem stop_5 (w : World) (S g cap : Nat) (ls : List (List ByteArray)) (l : Nat) (h : SrcG w S g cap ls) (hl : l < ls.length) (hlen : ls.length ≤ 100) (e0 : ((Rf.first ls[l]).toList == [115, 101, 116]) = false) (e1 : ((Rf.first ls[l]).toList == [112, 114, 105, 110, 116]) = false) (e2 : ((Rf.first ls[l]).toList == [114, 101, 97, 100]) = false) (e3 : ((Rf.first ls[l]).toList == [105, 102]) = false) (e4 : ((Rf.first ls[l]).toList == [119, 104, 105, 108, 101]) = false) (e5 : ((Rf.first ls[l]).toList == [99, 97, 108, 108]) = true) :
    Calls Tryz.prog 50 #[.pointer (some ⟨S, 0, none⟩), .int .i64 ((l : Int) + 1)] w fun e w' => e = .returned (.bool (Rf.stopB ls l ls[l])) ∧ Below w.heap.size w w' := by
  have HN := hide h
  have hR : Rf.stopB ls l ls[l] = true := by rw [Rf.stopB, e0, if_neg (by decide), e1, if_neg (by decide), e2, if_neg (by decide), e3, if_neg (by decide), e4, if_neg (by decide), e5, if_pos rfl]
  have HR := hide hR
  clear h hR
  generalize Rf.stopB ls l ls[l] = R at *
  go_enter Tryz.func50, Tryz.ntmps50
  go_wp2_with fail
  refine (head_ref _ S g cap ls l (unhide HN) hl hlen).mono ?_
  rintro e w1 ⟨rfl, hb1⟩
  have HS1 := hide (And.intro ((unhide HN).later hb1) hb1)
  clear hb1
  generalize Rf.first ls[l] = z at *
  go_wp2_with fail
  go_ret
  exact ⟨by rw [unhide HR]; rfl, (unhide HS1).2⟩

set_option maxHeartbeats 2000000 in
set_option maxRecDepth 100000 in
theorem stop_6 (w : World) (S g cap : Nat) (ls : List (List ByteArray)) (l : Nat) (h : SrcG w S g cap ls) (hl : l < ls.length) (hlen : ls.length ≤ 100) (e0 : ((Rf.first ls[l]).toList == [115, 101, 116]) = false) (e1 : ((Rf.first ls[l]).toList == [112, 114, 105, 110, 116]) = false) (e2 : ((Rf.first ls[l]).toList == [114, 101, 97, 100]) = false) (e3 : ((Rf.first ls[l]).toList == [105, 102]) = false) (e4 : ((Rf.first ls[l]).toList == [119, 104, 105, 108, 101]) = false) (e5 : ((Rf.first ls[l]).toList == [99, 97, 108, 108]) = false) (e6 : ((Rf.first ls[l]).toList == [114, 101, 116, 117, 114, 110]) = true) :
    Calls Tryz.prog 50 #[.pointer (some ⟨S, 0, none⟩), .int .i64 ((l : Int) + 1)] w fun e w' => e = .returned (.bool (Rf.stopB ls l ls[l])) ∧ Below w.heap.size w w' := by
  have HN := hide h
  have hR : Rf.stopB ls l ls[l] = true := by rw [Rf.stopB, e0, if_neg (by decide), e1, if_neg (by decide), e2, if_neg (by decide), e3, if_neg (by decide), e4, if_neg (by decide), e5, if_neg (by decide), e6, if_pos rfl]
  have HR := hide hR
  clear h hR
  generalize Rf.stopB ls l ls[l] = R at *
  go_enter Tryz.func50, Tryz.ntmps50
  go_wp2_with fail
  refine (head_ref _ S g cap ls l (unhide HN) hl hlen).mono ?_
  rintro e w1 ⟨rfl, hb1⟩
  have HS1 := hide (And.intro ((unhide HN).later hb1) hb1)
  clear hb1
  generalize Rf.first ls[l] = z at *
  go_wp2_with fail
  go_ret
  exact ⟨by rw [unhide HR]; rfl, (unhide HS1).2⟩

set_option maxHeartbeats 2000000 in
set_option maxRecDepth 100000 in
theorem stop_7 (w : World) (S g cap : Nat) (ls : List (List ByteArray)) (l : Nat) (h : SrcG w S g cap ls) (hl : l < ls.length) (hlen : ls.length ≤ 100) (e0 : ((Rf.first ls[l]).toList == [115, 101, 116]) = false) (e1 : ((Rf.first ls[l]).toList == [112, 114, 105, 110, 116]) = false) (e2 : ((Rf.first ls[l]).toList == [114, 101, 97, 100]) = false) (e3 : ((Rf.first ls[l]).toList == [105, 102]) = false) (e4 : ((Rf.first ls[l]).toList == [119, 104, 105, 108, 101]) = false) (e5 : ((Rf.first ls[l]).toList == [99, 97, 108, 108]) = false) (e6 : ((Rf.first ls[l]).toList == [114, 101, 116, 117, 114, 110]) = false) (e7 : ((Rf.first ls[l]).toList == [101, 110, 100]) = true) (ho : 0 < Rf.openerFrom ls l 1) :
    Calls Tryz.prog 50 #[.pointer (some ⟨S, 0, none⟩), .int .i64 ((l : Int) + 1)] w fun e w' => e = .returned (.bool (Rf.stopB ls l ls[l])) ∧ Below w.heap.size w w' := by
  have HN := hide h
  have hR : Rf.stopB ls l ls[l] = ((Rf.first (Rf.lineAt ls (Rf.openerFrom ls l 1 - 1))).toList == [112, 114, 111, 99]) := by rw [Rf.stopB, e0, if_neg (by decide), e1, if_neg (by decide), e2, if_neg (by decide), e3, if_neg (by decide), e4, if_neg (by decide), e5, if_neg (by decide), e6, if_neg (by decide), e7, if_pos rfl]
  have HR := hide hR
  clear h hR
  generalize Rf.stopB ls l ls[l] = R at *
  go_enter Tryz.func50, Tryz.ntmps50
  go_wp2_with fail
  refine (head_ref _ S g cap ls l (unhide HN) hl hlen).mono ?_
  rintro e w1 ⟨rfl, hb1⟩
  have HS1 := hide (And.intro ((unhide HN).later hb1) hb1)
  clear hb1
  generalize Rf.first ls[l] = z at *
  go_wp2_with fail
  refine (opener_ref _ S g cap ls l (unhide HS1).1 hl hlen).mono ?_
  rintro e w2 ⟨rfl, hb2⟩
  have HS2 := hide (And.intro ((unhide HS1).1.later hb2) ((unhide HS1).2.trans (hb2.mono (unhide HS1).2.size)))
  clear hb2
  have hob := Rf.openerFrom_b ls l 1
  obtain ⟨d, hd⟩ : ∃ d, Rf.openerFrom ls l 1 = d + 1 := ⟨Rf.openerFrom ls l 1 - 1, by omega⟩
  have hdl : d < ls.length := by omega
  rw [hd, Nat.add_sub_cancel, Rf.lineAt_lt hdl] at HR
  rw [hd, show ((d + 1 : Nat) : Int) = (d : Int) + 1 by omega]
  go_wp2_with fail
  refine (head_ref _ S g cap ls d (unhide HS2).1 hdl hlen).mono ?_
  rintro e w3 ⟨rfl, hb3⟩
  have HS3 := hide ((unhide HS2).2.trans (hb3.mono (unhide HS2).2.size))
  clear hb3
  generalize Rf.first ls[d] = y at *
  go_wp2_with fail
  go_ret
  exact ⟨by rw [unhide HR]; rfl, unhide HS3⟩

set_option maxHeartbeats 2000000 in
set_option maxRecDepth 100000 in
theorem stop_8 (w : World) (S g cap : Nat) (ls : List (List ByteArray)) (l : Nat) (h : SrcG w S g cap ls) (hl : l < ls.length) (hlen : ls.length ≤ 100) (e0 : ((Rf.first ls[l]).toList == [115, 101, 116]) = false) (e1 : ((Rf.first ls[l]).toList == [112, 114, 105, 110, 116]) = false) (e2 : ((Rf.first ls[l]).toList == [114, 101, 97, 100]) = false) (e3 : ((Rf.first ls[l]).toList == [105, 102]) = false) (e4 : ((Rf.first ls[l]).toList == [119, 104, 105, 108, 101]) = false) (e5 : ((Rf.first ls[l]).toList == [99, 97, 108, 108]) = false) (e6 : ((Rf.first ls[l]).toList == [114, 101, 116, 117, 114, 110]) = false) (e7 : ((Rf.first ls[l]).toList == [101, 110, 100]) = false) :
    Calls Tryz.prog 50 #[.pointer (some ⟨S, 0, none⟩), .int .i64 ((l : Int) + 1)] w fun e w' => e = .returned (.bool (Rf.stopB ls l ls[l])) ∧ Below w.heap.size w w' := by
  have HN := hide h
  have hR : Rf.stopB ls l ls[l] = false := by rw [Rf.stopB, e0, if_neg (by decide), e1, if_neg (by decide), e2, if_neg (by decide), e3, if_neg (by decide), e4, if_neg (by decide), e5, if_neg (by decide), e6, if_neg (by decide), e7, if_neg (by decide)]
  have HR := hide hR
  clear h hR
  generalize Rf.stopB ls l ls[l] = R at *
  go_enter Tryz.func50, Tryz.ntmps50
  go_wp2_with fail
  refine (head_ref _ S g cap ls l (unhide HN) hl hlen).mono ?_
  rintro e w1 ⟨rfl, hb1⟩
  have HS1 := hide (And.intro ((unhide HN).later hb1) hb1)
  clear hb1
  generalize Rf.first ls[l] = z at *
  go_wp2_with fail
  go_ret
  exact ⟨by rw [unhide HR]; rfl, (unhide HS1).2⟩

theorem stop_ref (w : World) (S g cap : Nat) (ls : List (List ByteArray)) (l : Nat) (h : SrcG w S g cap ls) (hl : l < ls.length) (hlen : ls.length ≤ 100) (hn : Rf.nested ls = 0) :
    Calls Tryz.prog 50 #[.pointer (some ⟨S, 0, none⟩), .int .i64 ((l : Int) + 1)] w fun e w' => e = .returned (.bool (Rf.stopB ls l ls[l])) ∧ Below w.heap.size w w' := by
  by_cases e0 : ((Rf.first ls[l]).toList == [115, 101, 116]) = true
  · exact stop_0 w S g cap ls l h hl hlen  e0
  replace e0 := Bool.eq_false_iff.mpr e0
  by_cases e1 : ((Rf.first ls[l]).toList == [112, 114, 105, 110, 116]) = true
  · exact stop_1 w S g cap ls l h hl hlen e0 e1
  replace e1 := Bool.eq_false_iff.mpr e1
  by_cases e2 : ((Rf.first ls[l]).toList == [114, 101, 97, 100]) = true
  · exact stop_2 w S g cap ls l h hl hlen e0 e1 e2
  replace e2 := Bool.eq_false_iff.mpr e2
  by_cases e3 : ((Rf.first ls[l]).toList == [105, 102]) = true
  · exact stop_3 w S g cap ls l h hl hlen e0 e1 e2 e3
  replace e3 := Bool.eq_false_iff.mpr e3
  by_cases e4 : ((Rf.first ls[l]).toList == [119, 104, 105, 108, 101]) = true
  · exact stop_4 w S g cap ls l h hl hlen e0 e1 e2 e3 e4
  replace e4 := Bool.eq_false_iff.mpr e4
  by_cases e5 : ((Rf.first ls[l]).toList == [99, 97, 108, 108]) = true
  · exact stop_5 w S g cap ls l h hl hlen e0 e1 e2 e3 e4 e5
  replace e5 := Bool.eq_false_iff.mpr e5
  by_cases e6 : ((Rf.first ls[l]).toList == [114, 101, 116, 117, 114, 110]) = true
  · exact stop_6 w S g cap ls l h hl hlen e0 e1 e2 e3 e4 e5 e6
  replace e6 := Bool.eq_false_iff.mpr e6
  by_cases e7 : ((Rf.first ls[l]).toList == [101, 110, 100]) = true
  · exact stop_7 w S g cap ls l h hl hlen e0 e1 e2 e3 e4 e5 e6 e7 (Rf.nested_open hn hl e7)
  replace e7 := Bool.eq_false_iff.mpr e7
  exact stop_8 w S g cap ls l h hl hlen e0 e1 e2 e3 e4 e5 e6 e7

end Go.Proofs.YtopeochnoefgcaaGreat

namespace Go.Proofs.YtopeochnoefgcaaGreat
open Go.RowKit

namespace Rf
theorem readR_nested {s : ByteArray} (h : (readR s).1 = 0) : nested (readR s).2.2 = 0 := by
  unfold readR at h ⊢
  split at h
  · simp at h
  · rename_i h1
    rw [if_neg h1]
    split at h
    · simp at h
    · rename_i h2
      rw [if_neg h2]
      split at h
      · simp at h
      · rename_i h3
        rw [if_neg h3]
        unfold readLines at h ⊢
        split at h
        · simp at h
        · rename_i h4
          rw [if_neg h4]
          split at h
          · simp at h
          · rename_i h5
            rw [if_neg h5]
            unfold readNames at h ⊢
            split at h
            · simp at h
            · rename_i h6
              rw [if_neg h6]
              split at h
              · simp at h
              · rename_i h7
                rw [if_neg h7]
                simpa using h4
/-- The numbers of the stops from line k (counted from 0) on. -/
def stopsFrom (ls : List (List ByteArray)) : Nat → Nat → List Nat → List Nat
  | 0, _, acc => acc
  | f + 1, k, acc => stopsFrom ls f (k + 1) (if stopB ls k (lineAt ls k) = true then acc ++ [k + 1] else acc)
def stops (ls : List (List ByteArray)) : List Nat := stopsFrom ls ls.length 0 []
end Rf

/-- What Stops answers. -/
def StopsRP (s : ByteArray) (w : World) (e : Ending) (w' : World) : Prop := Below w.heap.size w w' ∧
  ((¬ (Rf.readR s).1 = 0 ∧ e = .returned (.tuple #[.slice none 0 0, .int .i64 (Rf.readR s).1, .int .i64 (Rf.readR s).2.1])) ∨
   ((Rf.readR s).1 = 0 ∧ ∃ v, e = .returned (.tuple #[v, .int .i64 0, .int .i64 0]) ∧ w'.ownsRow w.heap.size 3 1 v (Rf.stops (Rf.readR s).2.2).length ((Rf.stops (Rf.readR s).2.2).map iv)))

set_option maxHeartbeats 4000000 in
set_option maxRecDepth 100000 in
theorem Stops_ref (s : ByteArray) (w : World) (hs : s.size ≤ maxLen) :
    Calls Tryz.prog 24 #[.string s] w (StopsRP s w) := by
  obtain ⟨i0, hi0, hz0, hz1, hz2⟩ := info_parts Tryz.infoInt
  go_enter Tryz.func24, Tryz.ntmps24
  go_wp2_with fail
  refine (Read_ref s _ hs).mono ?_
  rintro e w1 ⟨hb1, (⟨hne, rfl⟩ | ⟨h0, hat0, hli, hp, hl, S, g, cap, rfl, hG⟩)⟩
  · have HB := hide hb1
    have hne' : ((Rf.readR s).1 == 0) = false := by rw [beq_eq_false_iff_ne]; exact hne
    have HN := hide hne
    clear hb1 hne
    go_wp2_with fail
    go_ret3
    exact ⟨unhide HB, Or.inl ⟨unhide HN, rfl⟩⟩
  · have HNe := hide (Rf.readR_nested h0)
    have H0 := hide h0
    have HB := hide hb1
    have HGG := hide hG
    have hsz1 := hb1.size
    clear hat0 hli hb1 h0 hG
    generalize hls : (Rf.readR s).2.2 = ls at *
    have HLS := hide hls
    clear hls
    go_wp2_with fail
    go_loopw [8, 9] (fun v i wr => ∃ (k f : Nat) (acc : List Nat), k + f = ls.length ∧ acc.length ≤ k ∧ i = .int .i64 ((k : Int) + 1) ∧ Rf.stopsFrom ls f k acc = Rf.stops ls ∧ wr.ownsRow w1.heap.size 3 1 v acc.length (acc.map iv) ∧ Below w1.heap.size w1 wr)
      (fun _ i _ => ls.length + 1 - (intOf i).toNat)
    case atStart => exact ⟨0, ls.length, [], by omega, by simp, rfl, rfl, World.ownsRow_nil _ _ _ _, Below.refl _ _⟩
    case round =>
      obtain ⟨k, f, acc, hkf, hacc, rfl, hT, hown, hbe⟩ := hrel
      have HT := hide hT
      have hG := (unhide HGG).later hbe
      have cT := hG.top
      have HG := hide hG
      have hsz := hbe.size
      clear hT hG
      obtain ⟨ad, cp, rfl⟩ := ownsRow_form hown
      cases f with
      | zero =>
        have hj' : ¬ (k : Int) + 1 ≤ (ls.length : Int) := by omega
        have HX := hide (And.intro hown hbe)
        clear hown hbe
        go_wp2_with fail
        go_ret3
        have hT := unhide HT
        rw [Rf.stopsFrom] at hT
        subst hT
        have hl2 := unhide HLS
        refine ⟨(unhide HB).trans ((unhide HX).2.mono (unhide HB).size), Or.inr ⟨unhide H0, _, rfl, ?_⟩⟩
        rw [hl2]
        exact ownsRow_mono (unhide HX).1 hsz1
      | succ f =>
        have hkl : k < ls.length := by omega
        have hj' : (k : Int) + 1 ≤ (ls.length : Int) := by omega
        rw [Rf.stopsFrom, Rf.lineAt_lt hkl] at HT
        have HX := hide (And.intro hown hbe)
        clear hown hbe
        go_wp2_with fail
        refine (stop_ref _ S g cap ls k (unhide HG) hkl hl (unhide HNe)).mono ?_
        rintro e w2 ⟨rfl, hb2⟩
        have hown2 := own_later (unhide HX).1 hb2
        have hbe2 := (unhide HX).2.trans (hb2.mono (unhide HX).2.size)
        have hsz2 := hbe2.size
        clear hb2 cT
        cases hz : Rf.stopB ls k ls[k] with
        | false =>
          rw [hz, if_neg (by decide)] at HT
          have HX2 := hide (And.intro hown2 hbe2)
          clear hown2 hbe2
          go_wp2_with fail
          go_roundw
          case rel => exact ⟨k + 1, f, acc, by omega, by omega, by go_num, unhide HT, (unhide HX2).1, (unhide HX2).2⟩
          case measure => simp [intOf]; omega
        | true =>
          rw [hz, if_pos rfl] at HT
          go_wp2_with (at_builtin; refine wpList_append_own _ rfl _ _ 24 rfl w1.heap.size 3 i0 _ 1 8 Tryz.underlying24 hi0 hz0 hz1 hz2 rfl (by decide) _ _ _ rfl (hown2.alloc _) ⟨_, 0, none⟩ 1 1 [.int .i64 ((k : Int) + 1)] rfl rfl (cell_one_new _ _ _) ?c2 ?c3 ?c4 ?c5 ?_)
          case c2 => first | rfl | (intro u hu; simp at hu; rcases hu with rfl; rfl)
          case c3 => unfold maxLen; omega
          case c4 => omega
          case c5 => first | omega | (simp; omega)
          intro v' w3 hown' hgrow _
          have hb3 := below_append hbe2 hsz2 hown2 hgrow
          clear hgrow hown2 hbe2
          go_wp2
          go_roundw
          case rel => exact ⟨k + 1, f, _, by omega, by simp; omega, by go_num, unhide HT, by rw [List.map_append, List.length_append]; exact hown', hb3⟩
          case measure => simp [intOf]; omega

end Go.Proofs.YtopeochnoefgcaaGreat

