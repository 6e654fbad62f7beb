/- 'retracekeep.Sorts', walked: more than 13 numbers. -/
import Derived.Test.YtnjhgcanglkfiaaMkS
import Derived.Test.YtnjhgcanglkfiaaNwA
import Derived.Test.YtnjhgcanglkfiaaCnB
namespace Go.Proofs.Ytnjhgcanglkfiaa
open Go.RowKit
attribute [local go_sem ↓] Go.wp_at_zero Go.wp_at_succ

theorem count_take (xs : List Int) (v : Int) (k : Nat) (hk : k < xs.length) : (xs.take (k + 1)).count v = (xs.take k).count v + (if xs[k] == v then 1 else 0) := by
  rw [List.take_add_one, List.getElem?_eq_getElem hk, List.count_append]
  simp [List.count_cons]
set_option maxHeartbeats 1000000 in
set_option maxRecDepth 100000 in
theorem count_any (w : World) (lv : Value) (xs : List Int) (v : Int) (hi : Ints w lv xs) (hl : xs.length ≤ 1000) :
    Calls Try.prog 8 #[lv, .int .i64 v] w fun e w' => e = .returned (.int .i64 ((xs.count v : Nat) : Int)) ∧ Below w.heap.size w w' := by
  have HI := hide hi
  obtain ⟨ad, cap, rfl, _⟩ := hi
  go_enter Try.func8, Try.ntmps8
  go_wp2_with fail
  go_loopw [5, 6] (fun n i wr => ∃ k : Nat, k ≤ xs.length ∧ i = .int .i64 k ∧ n = .int .i64 (((xs.take k).count v : Nat) : Int) ∧ Below w.heap.size w wr) (fun _ i _ => xs.length - (intOf i).toNat)
  case atStart => exact ⟨0, Nat.zero_le _, rfl, by simp, Below.refl _ _⟩
  case round =>
    obtain ⟨k, hk, rfl, rfl, hbe⟩ := hrel
    have hcl : (xs.take k).count v ≤ 1000 := by
      have := List.count_le_length (a := v) (l := xs.take k)
      simp at this
      omega
    by_cases hlt : k < xs.length
    · have hlt' : (k : Int) < (xs.length : Int) := by omega
      have hk0 : (0 : Int) ≤ (k : Int) := by omega
      obtain ⟨b, o, cp, he, cx⟩ := ((unhide HI).later hbe).get hlt
      simp at he
      obtain ⟨rfl, rfl⟩ := he
      have HC := hide (count_take xs v k hlt)
      have HB := hide hbe
      clear hbe
      generalize hcn : (xs.take k).count v = c at *
      generalize xs[k] = x at *
      cases hxv : (x == v) with
      | true =>
        have HC2 := hide (show (xs.take (k + 1)).count v = c + 1 by rw [unhide HC, hxv]; rfl)
        clear HC hcn
        go_wp2_with fail
        go_roundw
        case rel => exact ⟨k + 1, by omega, by go_num, by rw [unhide HC2]; go_num, unhide HB⟩
        case measure => simp [intOf]; omega
      | false =>
        have HC2 := hide (show (xs.take (k + 1)).count v = c by rw [unhide HC, hxv]; rfl)
        clear HC hcn
        go_wp2_with fail
        go_roundw
        case rel => exact ⟨k + 1, by omega, by go_num, by rw [unhide HC2], unhide HB⟩
        case measure => simp [intOf]; omega
    · have hlt' : ¬ (k : Int) < (xs.length : Int) := by omega
      have HB := hide hbe
      have HK := hide (show k = xs.length by omega)
      clear hbe hlt hk
      generalize hcn : (xs.take k).count v = c at *
      have HC := hide hcn
      clear hcn
      go_wp2_with fail
      go_ret
      refine ⟨?_, unhide HB⟩
      rw [← unhide HC, unhide HK, List.take_length]
      rfl
end Go.Proofs.Ytnjhgcanglkfiaa

namespace Go.Proofs.Ytnjhgcanglkfiaa
open Go.RowKit

theorem Ints.part {w : World} {ad : Option Addr} {cap : Nat} {l : List Int} (h : Ints w (.slice ad l.length cap) l) (n : Nat) (hn : n ≤ l.length) : Ints w (.slice ad n cap) (l.take n) := by
  obtain ⟨ad', cap', he, h⟩ := h
  simp at he
  obtain ⟨rfl, rfl⟩ := he
  refine ⟨ad, cap, by simp; omega, ?_⟩
  rcases h with h | ⟨b, o, h1, h2⟩
  · left; rw [h]; simp
  · exact Or.inr ⟨b, o, h1, fun j hj => by
      simp at hj
      rw [h2 j (by omega)]
      simp⟩
theorem row_ints {w : World} {B : Nat} {v : Value} {n : Nat} {l : List Int} (h : w.ownsRow B 3 1 v n (ints l)) (hn : n = l.length) : Ints w v l := by
  subst hn
  obtain ⟨ad, cap, rfl⟩ := ownsRow_form h
  refine ⟨ad, cap, rfl, ?_⟩
  by_cases hl : l = []
  · exact Or.inl hl
  · right
    obtain ⟨g, cap', he, _⟩ := int_cell h (j := 0) (List.length_pos_iff.mpr hl)
    simp at he
    obtain ⟨rfl, rfl⟩ := he
    refine ⟨g, 0, rfl, fun j hj => ?_⟩
    obtain ⟨g', cap', he', hc⟩ := int_cell h hj
    simp at he'
    obtain ⟨rfl, rfl⟩ := he'
    rw [Nat.zero_add]
    exact hc
theorem soSrc_run (l : List Int) (hl : l.length ≤ 13) (iv : Value) (w : World) (hi : Ints w iv ((l.length : Int) :: l)) :
    Calls Try.prog 5 #[.string Rt.soS, iv, .int .i64 (1000 : Nat)] w fun e w' => Below w.heap.size w w' ∧ ∃ (v : Value) (k : Nat) (s : List Int), s.Pairwise (· ≤ ·) ∧ s.Perm l ∧ e = .returned (.tuple #[.agg #[.int .i64 1, .int .i64 k, v], .int .i64 0, .int .i64 0]) ∧ w'.ownsRow w.heap.size 3 1 v l.length (ints s) := by
  refine (run_known Rt.soS Rt.soP Rt.soL Rt.so_err Rt.so_ln Rt.so_pls Rt.so_lk (by kernel_rfl) (of_decide_eq_true (by kernel_rfl)) (by kernel_rfl) iv _ 1000 w (of_decide_eq_true (by kernel_rfl)) hi (by simp; omega) (by omega)).mono ?_
  rintro e w' ⟨hb, v, he, ho⟩
  obtain ⟨s, h1, h2, h3, h4⟩ := Rt.so_run l hl
  unfold Rt.soSrc at h3 h4
  rw [h3] at he
  rw [h4, h2.length_eq] at ho
  exact ⟨hb, v, _, s, h1, h2, he, ho⟩
/-- What Run gives, when the row of input has been made. -/
theorem so_call (w w1 : World) (l : List Int) (iv : Value) (hl : l.length ≤ 13) (hown : w1.ownsRow w.heap.size 3 1 iv (l.length + 1) (ints ((l.length : Int) :: l))) (hb : Below w.heap.size w w1) :
    Calls Try.prog 5 #[.string Rt.soS, iv, .int .i64 1000] w1 fun e w' => Below w.heap.size w w' ∧ ∃ (v : Value) (k : Nat) (s : List Int), s.Pairwise (· ≤ ·) ∧ s.Perm l ∧ e = .returned (.tuple #[.agg #[.int .i64 1, .int .i64 k, v], .int .i64 0, .int .i64 0]) ∧ w'.ownsRow w.heap.size 3 1 v l.length (ints s) := by
  refine (soSrc_run l hl iv w1 (row_ints hown (by simp))).mono ?_
  rintro e w' ⟨hb1, v, k, s, h1, h2, h3, h4⟩
  exact ⟨hb.trans (hb1.mono hb.size), v, k, s, h1, h2, h3, ownsRow_mono h4 hb.size⟩
theorem rising {s : List Int} (h : s.Pairwise (· ≤ ·)) {k : Nat} (hk : k + 1 < s.length) : ¬ s[k + 1] < s[k] := by
  have := List.pairwise_iff_getElem.mp h k (k + 1) (by omega) hk (by omega)
  omega
theorem in_fresh (w : World) (x : Int) : (w.alloc (.cells #[.int .i64 x] 3)).ownsRow w.heap.size 3 1 (.slice (some ⟨w.heap.size, 0, none⟩) 1 1) 1 [.int .i64 x] :=
  ⟨by simp, Or.inr ⟨w.heap.size, 1, #[.int .i64 x], rfl, Nat.le_refl _, heap_alloc_new w _, Nat.le_refl _, by unfold maxLen; omega, by simp, List.take_of_length_le (by simp)⟩⟩
theorem count_perm {w : World} {lv : Value} {s l : List Int} (v : Int) (hi : Ints w lv s) (hl : s.length ≤ 1000) (hp : s.Perm l) :
    Calls Try.prog 8 #[lv, .int .i64 v] w fun e w' => e = .returned (.int .i64 ((l.count v : Nat) : Int)) ∧ Below w.heap.size w w' := by
  refine (count_any w lv s v hi hl).mono ?_
  rintro e w' ⟨rfl, hb⟩
  exact ⟨by rw [hp.count_eq v], hb⟩
end Go.Proofs.Ytnjhgcanglkfiaa

namespace Go.Proofs.Ytnjhgcanglkfiaa
open Go.RowKit
attribute [local go_sem ↓] Go.wp_at_zero Go.wp_at_succ

set_option maxHeartbeats 2000000 in
set_option maxRecDepth 100000 in
theorem Sorts_more (w : World) (a : Addr) (cap : Nat) (l : List Int) (h13 : 13 < l.length) (hcap : l.length ≤ cap) (hi : Ints w (.slice (some a) l.length cap) l) :
    Calls Try.prog 4 #[.slice (some a) l.length cap] w fun e w' => e = .returned (.bool true) ∧ Below w.heap.size w w' := by
  obtain ⟨i0, hi0, hz0, hz1, hz2⟩ := info_parts Try.infoIntK
  have HI := hide hi
  clear hi
  have h13' : (13 : Int) < (l.length : Int) := by omega
  have h13c : (13 : Int) ≤ (cap : Int) := by omega
  have hlen : (l.take 13).length = 13 := by simp; omega
  go_enter Try.func4, Try.ntmps4
  go_wp2_with (at_builtin; refine wpList_append_any _ rfl _ _ 22 22 rfl w.heap.size 3 i0 _ Try.underlying22 hi0 hz0 hz1 (by omega) rfl _ 1 [.int .i64 13] rfl (in_fresh w 13) _ 13 ((l.take 13).map (Value.int .i64)) rfl ?c0 ?c1 ?c2 ?_)
  case c0 =>
    have := (((unhide HI).part 13 (by omega)).later ((Below.refl _ w).alloc (Nat.le_refl _) (.cells #[.int .i64 13] 3))).src
    rw [hlen] at this
    exact this
  case c1 => omega
  case c2 => simp
  intro iv w1 hown hgrow
  have hb1 : Below w.heap.size w w1 := Below.grown ((Below.refl _ w).alloc (Nat.le_refl _) _) hgrow (by simp) (fun k hk => by simp [Value.ownBlock] at hk; omega)
  have HR := hide (so_call w w1 (l.take 13) iv (by omega) (by
    rw [hlen]
    have e : ints (((13 : Nat) : Int) :: l.take 13) = .int .i64 13 :: List.take 13 (List.map (Value.int .i64) l) := by simp [ints]
    rw [e]
    first | exact hown | (rw [Nat.add_comm]; exact hown)) hb1)
  obtain ⟨iad, icap, rfl⟩ := ownsRow_form hown
  clear hown hgrow hb1
  go_wp2_with fail
  refine (unhide HR).mono ?_
  rintro e w2 ⟨hb2, ov, kk, s, hso, hpe, rfl, hos⟩
  rw [hlen] at hos
  obtain ⟨oad, ocap, rfl⟩ := ownsRow_form hos
  have hsl : s.length = 13 := by rw [hpe.length_eq, hlen]
  have HS := hide (And.intro hso (And.intro hpe (And.intro hb2 hos)))
  clear hso hpe hb2 hos HR
  go_wp2_with fail
  go_loopw [8, 9, 10] (fun i _ _ wr => ∃ k : Nat, k ≤ 13 ∧ i = .int .i64 k ∧ wr.heap[w2.heap.size]? = some (.cells #[.int .i64 1, .int .i64 kk, .slice oad 13 ocap] 24 (0, 0)) ∧ wr.ownsRow w.heap.size 3 1 (.slice oad 13 ocap) 13 (ints s) ∧ Below w.heap.size w wr) (fun i _ _ _ => 13 - (intOf i).toNat)
  case atStart =>
    obtain ⟨_, _, q1, q2⟩ := unhide HS
    have hbA := (Below.refl w2.heap.size w2).alloc (Nat.le_refl _) (.cells #[.int .i64 1, .int .i64 kk, .slice oad 13 ocap] 24)
    exact ⟨0, by omega, rfl, heap_alloc_new w2 _, own_later q2 hbA, q1.trans (hbA.mono q1.size)⟩
  case round =>
    obtain ⟨k, hk, rfl, hR, ho, hbe⟩ := hrel
    by_cases hlt : k < 13
    · have hlt' : (k : Int) < 13 := by omega
      have hlt2 : (k : Int) < (l.length : Int) := by omega
      have hk0 : (0 : Int) ≤ (k : Int) := by omega
      obtain ⟨r0, r1, r2⟩ := three_cells hR
      obtain ⟨g, cp, he, cx⟩ := int_cell ho (j := k) (by omega)
      simp at he
      obtain ⟨rfl, rfl⟩ := he
      obtain ⟨b, o, cp, he, cl⟩ := ((unhide HI).later hbe).get (j := k) (by omega)
      simp at he
      obtain ⟨rfl, rfl⟩ := he
      have HX := hide (And.intro hR (And.intro ho hbe))
      clear hR hbe r0 r1
      cases k with
      | zero =>
        clear ho cx
        generalize l[0] = x at *
        rw [Nat.add_zero] at cl
        have h00 : (0 : Int) < (l.length : Int) := by omega
        have h0l : 0 < l.length := by omega
        have hk1 : ¬ (0 : Int) < ((0 : Nat) : Int) := by omega
        go_wp2_with fail
        go_quiet (fail)
        go_wp2_with fail
        have HCL := hide (And.intro r2 cl)
        have HC1 := hide (fun (W : World) (hW : Below wr.heap.size wr W) => count_perm (w := W) x ((row_ints (unhide HX).2.1 hsl.symm).later hW) (by omega) (unhide HS).2.1)
        have HC2 := hide (fun (W : World) (hW : Below wr.heap.size wr W) => count_any W _ _ x (((Ints.part (unhide HI) 13 (by omega)).later (unhide HX).2.2).later hW) (by omega))
        go_region_held3 (fun w' => w'.cell? ⟨w2.heap.size, 2, none⟩ = some (.slice (some ⟨g, 0, none⟩) 13 ocap) ∧ w'.cell? ⟨b, o, none⟩ = some (.int .i64 x)) (first | go_keep | exact ⟨cell_later (show Below wr.heap.size wr w3 from ⟨hb3.os, hb3.tape, hb3.output, hb3.size, hb3.block⟩) (unhide HCL).1, cell_later (show Below wr.heap.size wr w3 from ⟨hb3.os, hb3.tape, hb3.output, hb3.size, hb3.block⟩) (unhide HCL).2⟩) ((go_at_call 8; refine (unhide HC1 _ (by exact ⟨rfl, rfl, rfl, Nat.le_refl _, fun _ _ => rfl⟩)).mono ?_; rintro e w3 ⟨rfl, hb3⟩))
        have hw3 : Below wr.heap.size wr w3 := ⟨hb3.os, hb3.tape, hb3.output, hb3.size, hb3.block⟩
        have HW3 := hide hw3
        have c3 := cell_later hw3 (unhide HCL).2
        clear hb3 hw3 HC1 r2 cl
        go_wp2_with fail
        go_region_held3 (fun w' => w'.cell? ⟨b, o, none⟩ = some (.int .i64 x)) (first | go_keep | exact cell_later (show Below w3.heap.size w3 w4 from ⟨hb4.os, hb4.tape, hb4.output, hb4.size, hb4.block⟩) c3) ((go_at_call 8; refine (unhide HC2 _ (by exact ⟨(unhide HW3).os, (unhide HW3).tape, (unhide HW3).output, (unhide HW3).size, (unhide HW3).block⟩)).mono ?_; rintro e w4 ⟨rfl, hb4⟩))
        have hw4 : Below wr.heap.size wr w4 := (unhide HW3).trans (Below.mono (show Below w3.heap.size w3 w4 from ⟨hb4.os, hb4.tape, hb4.output, hb4.size, hb4.block⟩) (unhide HW3).size)
        have HW4 := hide hw4
        clear hb4 hw4 HC2 c3
        go_wp2_with fail
        go_roundw
        case rel =>
          obtain ⟨q1, q2, q3⟩ := unhide HX
          exact ⟨0 + 1, by omega, by go_num, block_later q1 (unhide HW4), own_later q2 (unhide HW4), q3.trans ((unhide HW4).mono q3.size)⟩
        case measure => first | (simp [intOf]; done) | (simp [intOf]; omega)
      | succ k =>
        have hk1 : (0 : Int) < ((k + 1 : Nat) : Int) := by omega
        obtain ⟨g', cp', he, cy⟩ := int_cell ho (j := k) (by omega)
        simp at he
        obtain ⟨rfl, rfl⟩ := he
        clear ho
        have hwm := wrapm1 k (by omega)
        have hwn := wrapm0 k (by omega)
        have hkp : (0 : Int) ≤ (k : Int) := by omega
        have hkq : (k : Int) < 13 := by omega
        have hkr : (k : Int) + 1 < 13 := by omega
        have hks : (k : Int) + 1 < (l.length : Int) := by omega
        have hkt : (0 : Int) ≤ (k : Int) + 1 := by omega
        have hri : ¬ s[k + 1] < s[k] := rising (unhide HS).1 (by omega)
        generalize l[k + 1] = x at *
        generalize s[k + 1] = y at *
        generalize s[k] = z at *
        go_wp2_with fail
        go_region_held3 (fun w' => w'.cell? ⟨w2.heap.size, 2, none⟩ = some (.slice (some ⟨g, 0, none⟩) 13 ocap) ∧ w'.cell? ⟨b, o + (k + 1), none⟩ = some (.int .i64 x) ∧ w'.cell? ⟨g, k, none⟩ = some (.int .i64 z) ∧ w'.cell? ⟨g, k + 1, none⟩ = some (.int .i64 y)) (go_keep) (fail)
        go_wp2_with fail
        have HCL := hide (And.intro r2 cl)
        have HC1 := hide (fun (W : World) (hW : Below wr.heap.size wr W) => count_perm (w := W) x ((row_ints (unhide HX).2.1 hsl.symm).later hW) (by omega) (unhide HS).2.1)
        have HC2 := hide (fun (W : World) (hW : Below wr.heap.size wr W) => count_any W _ _ x (((Ints.part (unhide HI) 13 (by omega)).later (unhide HX).2.2).later hW) (by omega))
        go_region_held3 (fun w' => w'.cell? ⟨w2.heap.size, 2, none⟩ = some (.slice (some ⟨g, 0, none⟩) 13 ocap) ∧ w'.cell? ⟨b, o + (k + 1), none⟩ = some (.int .i64 x)) (first | go_keep | exact ⟨cell_later (show Below wr.heap.size wr w3 from ⟨hb3.os, hb3.tape, hb3.output, hb3.size, hb3.block⟩) (unhide HCL).1, cell_later (show Below wr.heap.size wr w3 from ⟨hb3.os, hb3.tape, hb3.output, hb3.size, hb3.block⟩) (unhide HCL).2⟩) ((go_at_call 8; refine (unhide HC1 _ (by exact ⟨rfl, rfl, rfl, Nat.le_refl _, fun _ _ => rfl⟩)).mono ?_; rintro e w3 ⟨rfl, hb3⟩))
        have hw3 : Below wr.heap.size wr w3 := ⟨hb3.os, hb3.tape, hb3.output, hb3.size, hb3.block⟩
        have HW3 := hide hw3
        have c3 := cell_later hw3 (unhide HCL).2
        clear hb3 hw3 HC1 r2 cl
        go_wp2_with fail
        go_region_held3 (fun w' => w'.cell? ⟨b, o + (k + 1), none⟩ = some (.int .i64 x)) (first | go_keep | exact cell_later (show Below w3.heap.size w3 w4 from ⟨hb4.os, hb4.tape, hb4.output, hb4.size, hb4.block⟩) c3) ((go_at_call 8; refine (unhide HC2 _ (by exact ⟨(unhide HW3).os, (unhide HW3).tape, (unhide HW3).output, (unhide HW3).size, (unhide HW3).block⟩)).mono ?_; rintro e w4 ⟨rfl, hb4⟩))
        have hw4 : Below wr.heap.size wr w4 := (unhide HW3).trans (Below.mono (show Below w3.heap.size w3 w4 from ⟨hb4.os, hb4.tape, hb4.output, hb4.size, hb4.block⟩) (unhide HW3).size)
        have HW4 := hide hw4
        clear hb4 hw4 HC2 c3
        go_wp2_with fail
        go_roundw
        case rel =>
          obtain ⟨q1, q2, q3⟩ := unhide HX
          exact ⟨(k + 1) + 1, by omega, by go_num, block_later q1 (unhide HW4), own_later q2 (unhide HW4), q3.trans ((unhide HW4).mono q3.size)⟩
        case measure => first | (simp [intOf]; done) | (simp [intOf]; omega)
    · have hlt' : ¬ (k : Int) < 13 := by omega
      have HF := hide hbe
      clear hR ho hbe
      go_wp2_with fail
      go_ret
      exact ⟨rfl, unhide HF⟩
end Go.Proofs.Ytnjhgcanglkfiaa

