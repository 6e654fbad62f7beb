/- 'retracekeep.Sorts', walked: no number. -/
import Derived.Test.YtnjhgcanglkfiaaSoE
namespace Go.Proofs.Ytnjhgcanglkfiaa
open Go.RowKit
attribute [local go_sem ↓] Go.wp_at_zero Go.wp_at_succ

set_option maxHeartbeats 2000000 in
set_option maxRecDepth 100000 in
theorem Sorts_few (w : World) (a : Addr) (cap : Nat) (l : List Int) (h13 : l.length ≤ 13) (hcap : l.length ≤ cap) (hi : Ints w (.slice (some a) l.length cap) l) :
    Calls Try.prog 4 #[.slice (some a) l.length cap] w fun e w' => e = .returned (.bool true) ∧ Below w.heap.size w w' := by
  obtain ⟨i0, hi0, hz0, hz1, hz2⟩ := info_parts Try.infoIntK
  have HI := hide hi
  clear hi
  have h13' : ¬ (13 : Int) < (l.length : Int) := by omega
  have h13c : (l.length : Int) ≤ (cap : Int) := by omega
  go_enter Try.func4, Try.ntmps4
  go_wp2_with (at_builtin; refine wpList_append_any _ rfl _ _ 22 22 rfl w.heap.size 3 i0 _ Try.underlying22 hi0 hz0 hz1 (by omega) rfl _ 1 [.int .i64 (l.length : Int)] rfl (in_fresh w (l.length : Int)) _ l.length ((l).map (Value.int .i64)) rfl ?c0 ?c1 ?c2 ?_)
  case c0 =>
    have := ((unhide HI).later ((Below.refl _ w).alloc (Nat.le_refl _) (.cells #[.int .i64 (l.length : Int)] 3))).src
    exact this
  case c1 => omega
  intro iv w1 hown hgrow
  rw [Nat.add_comm 1 l.length] at hown
  have hb1 : Below w.heap.size w w1 := Below.grown ((Below.refl _ w).alloc (Nat.le_refl _) _) hgrow (by simp) (fun k hk => by simp [Value.ownBlock] at hk; omega)
  have HR := hide (so_call w w1 (l) iv (by omega) (by
    have e : ints (((l.length : Nat) : Int) :: l) = .int .i64 (l.length : Int) :: List.map (Value.int .i64) l := rfl
    rw [e]
    first | exact hown | (rw [Nat.add_comm]; exact hown)) hb1)
  obtain ⟨iad, icap, rfl⟩ := ownsRow_form hown
  clear hown hgrow hb1
  go_wp2_with fail
  refine (unhide HR).mono ?_
  rintro e w2 ⟨hb2, ov, kk, s, hso, hpe, rfl, hos⟩
  obtain ⟨oad, ocap, rfl⟩ := ownsRow_form hos
  have hsl : s.length = l.length := by rw [hpe.length_eq]
  have HS := hide (And.intro hso (And.intro hpe (And.intro hb2 hos)))
  clear hso hpe hb2 hos HR
  go_wp2_with fail
  go_loopw [8, 9, 10] (fun i _ _ wr => ∃ k : Nat, k ≤ l.length ∧ i = .int .i64 k ∧ wr.heap[w2.heap.size]? = some (.cells #[.int .i64 1, .int .i64 kk, .slice oad l.length ocap] 24 (0, 0)) ∧ wr.ownsRow w.heap.size 3 1 (.slice oad l.length ocap) l.length (ints s) ∧ Below w.heap.size w wr) (fun i _ _ _ => l.length - (intOf i).toNat)
  case atStart =>
    obtain ⟨_, _, q1, q2⟩ := unhide HS
    have hbA := (Below.refl w2.heap.size w2).alloc (Nat.le_refl _) (.cells #[.int .i64 1, .int .i64 kk, .slice oad l.length ocap] 24)
    exact ⟨0, by omega, rfl, heap_alloc_new w2 _, own_later q2 hbA, q1.trans (hbA.mono q1.size)⟩
  case round =>
    obtain ⟨k, hk, rfl, hR, ho, hbe⟩ := hrel
    by_cases hlt : k < l.length
    · have hlt' : (k : Int) < (l.length : Int) := by omega
      have hlt2 : (k : Int) < (l.length : Int) := by omega
      have hk0 : (0 : Int) ≤ (k : Int) := by omega
      obtain ⟨r0, r1, r2⟩ := three_cells hR
      obtain ⟨g, cp, he, cx⟩ := int_cell ho (j := k) (by omega)
      simp at he
      obtain ⟨rfl, rfl⟩ := he
      obtain ⟨b, o, cp, he, cl⟩ := ((unhide HI).later hbe).get (j := k) (by omega)
      simp at he
      obtain ⟨rfl, rfl⟩ := he
      have HX := hide (And.intro hR (And.intro ho hbe))
      clear hR hbe r0 r1
      cases k with
      | zero =>
        clear ho cx
        generalize l[0] = x at *
        rw [Nat.add_zero] at cl
        have h00 : (0 : Int) < (l.length : Int) := by omega
        have h0l : 0 < l.length := by omega
        have hk1 : ¬ (0 : Int) < ((0 : Nat) : Int) := by omega
        go_wp2_with fail
        go_quiet (fail)
        go_wp2_with fail
        have HCL := hide (And.intro r2 cl)
        have HC1 := hide (fun (W : World) (hW : Below wr.heap.size wr W) => count_perm (w := W) x ((row_ints (unhide HX).2.1 hsl.symm).later hW) (by omega) (unhide HS).2.1)
        have HC2 := hide (fun (W : World) (hW : Below wr.heap.size wr W) => count_any W _ _ x (((unhide HI).later (unhide HX).2.2).later hW) (by omega))
        go_region_held3 (fun w' => w'.cell? ⟨w2.heap.size, 2, none⟩ = some (.slice (some ⟨g, 0, none⟩) l.length ocap) ∧ w'.cell? ⟨b, o, none⟩ = some (.int .i64 x)) (first | go_keep | exact ⟨cell_later (show Below wr.heap.size wr w3 from ⟨hb3.os, hb3.tape, hb3.output, hb3.size, hb3.block⟩) (unhide HCL).1, cell_later (show Below wr.heap.size wr w3 from ⟨hb3.os, hb3.tape, hb3.output, hb3.size, hb3.block⟩) (unhide HCL).2⟩) ((go_at_call 8; refine (unhide HC1 _ (by exact ⟨rfl, rfl, rfl, Nat.le_refl _, fun _ _ => rfl⟩)).mono ?_; rintro e w3 ⟨rfl, hb3⟩))
        have hw3 : Below wr.heap.size wr w3 := ⟨hb3.os, hb3.tape, hb3.output, hb3.size, hb3.block⟩
        have HW3 := hide hw3
        have c3 := cell_later hw3 (unhide HCL).2
        clear hb3 hw3 HC1 r2 cl
        go_wp2_with fail
        go_region_held3 (fun w' => w'.cell? ⟨b, o, none⟩ = some (.int .i64 x)) (first | go_keep | exact cell_later (show Below w3.heap.size w3 w4 from ⟨hb4.os, hb4.tape, hb4.output, hb4.size, hb4.block⟩) c3) ((go_at_call 8; refine (unhide HC2 _ (by exact ⟨(unhide HW3).os, (unhide HW3).tape, (unhide HW3).output, (unhide HW3).size, (unhide HW3).block⟩)).mono ?_; rintro e w4 ⟨rfl, hb4⟩))
        have hw4 : Below wr.heap.size wr w4 := (unhide HW3).trans (Below.mono (show Below w3.heap.size w3 w4 from ⟨hb4.os, hb4.tape, hb4.output, hb4.size, hb4.block⟩) (unhide HW3).size)
        have HW4 := hide hw4
        clear hb4 hw4 HC2 c3
        go_wp2_with fail
        go_roundw
        case rel =>
          obtain ⟨q1, q2, q3⟩ := unhide HX
          exact ⟨0 + 1, by omega, by go_num, block_later q1 (unhide HW4), own_later q2 (unhide HW4), q3.trans ((unhide HW4).mono q3.size)⟩
        case measure => first | (simp [intOf]; done) | (simp [intOf]; omega)
      | succ k =>
        have hk1 : (0 : Int) < ((k + 1 : Nat) : Int) := by omega
        obtain ⟨g', cp', he, cy⟩ := int_cell ho (j := k) (by omega)
        simp at he
        obtain ⟨rfl, rfl⟩ := he
        clear ho
        have hwm := wrapm1 k (by omega)
        have hwn := wrapm0 k (by omega)
        have hkp : (0 : Int) ≤ (k : Int) := by omega
        have hkq : (k : Int) < (l.length : Int) := by omega
        have hkr : (k : Int) + 1 < (l.length : Int) := by omega
        have hks : (k : Int) + 1 < (l.length : Int) := by omega
        have hkt : (0 : Int) ≤ (k : Int) + 1 := by omega
        have hri : ¬ s[k + 1] < s[k] := rising (unhide HS).1 (by omega)
        generalize l[k + 1] = x at *
        generalize s[k + 1] = y at *
        generalize s[k] = z at *
        go_wp2_with fail
        go_region_held3 (fun w' => w'.cell? ⟨w2.heap.size, 2, none⟩ = some (.slice (some ⟨g, 0, none⟩) l.length ocap) ∧ w'.cell? ⟨b, o + (k + 1), none⟩ = some (.int .i64 x) ∧ w'.cell? ⟨g, k, none⟩ = some (.int .i64 z) ∧ w'.cell? ⟨g, k + 1, none⟩ = some (.int .i64 y)) (go_keep) (fail)
        go_wp2_with fail
        have HCL := hide (And.intro r2 cl)
        have HC1 := hide (fun (W : World) (hW : Below wr.heap.size wr W) => count_perm (w := W) x ((row_ints (unhide HX).2.1 hsl.symm).later hW) (by omega) (unhide HS).2.1)
        have HC2 := hide (fun (W : World) (hW : Below wr.heap.size wr W) => count_any W _ _ x (((unhide HI).later (unhide HX).2.2).later hW) (by omega))
        go_region_held3 (fun w' => w'.cell? ⟨w2.heap.size, 2, none⟩ = some (.slice (some ⟨g, 0, none⟩) l.length ocap) ∧ w'.cell? ⟨b, o + (k + 1), none⟩ = some (.int .i64 x)) (first | go_keep | exact ⟨cell_later (show Below wr.heap.size wr w3 from ⟨hb3.os, hb3.tape, hb3.output, hb3.size, hb3.block⟩) (unhide HCL).1, cell_later (show Below wr.heap.size wr w3 from ⟨hb3.os, hb3.tape, hb3.output, hb3.size, hb3.block⟩) (unhide HCL).2⟩) ((go_at_call 8; refine (unhide HC1 _ (by exact ⟨rfl, rfl, rfl, Nat.le_refl _, fun _ _ => rfl⟩)).mono ?_; rintro e w3 ⟨rfl, hb3⟩))
        have hw3 : Below wr.heap.size wr w3 := ⟨hb3.os, hb3.tape, hb3.output, hb3.size, hb3.block⟩
        have HW3 := hide hw3
        have c3 := cell_later hw3 (unhide HCL).2
        clear hb3 hw3 HC1 r2 cl
        go_wp2_with fail
        go_region_held3 (fun w' => w'.cell? ⟨b, o + (k + 1), none⟩ = some (.int .i64 x)) (first | go_keep | exact cell_later (show Below w3.heap.size w3 w4 from ⟨hb4.os, hb4.tape, hb4.output, hb4.size, hb4.block⟩) c3) ((go_at_call 8; refine (unhide HC2 _ (by exact ⟨(unhide HW3).os, (unhide HW3).tape, (unhide HW3).output, (unhide HW3).size, (unhide HW3).block⟩)).mono ?_; rintro e w4 ⟨rfl, hb4⟩))
        have hw4 : Below wr.heap.size wr w4 := (unhide HW3).trans (Below.mono (show Below w3.heap.size w3 w4 from ⟨hb4.os, hb4.tape, hb4.output, hb4.size, hb4.block⟩) (unhide HW3).size)
        have HW4 := hide hw4
        clear hb4 hw4 HC2 c3
        go_wp2_with fail
        go_roundw
        case rel =>
          obtain ⟨q1, q2, q3⟩ := unhide HX
          exact ⟨(k + 1) + 1, by omega, by go_num, block_later q1 (unhide HW4), own_later q2 (unhide HW4), q3.trans ((unhide HW4).mono q3.size)⟩
        case measure => first | (simp [intOf]; done) | (simp [intOf]; omega)
    · have hlt' : ¬ (k : Int) < (l.length : Int) := by omega
      have HF := hide hbe
      clear hR ho hbe
      go_wp2_with fail
      go_ret
      exact ⟨rfl, unhide HF⟩
end Go.Proofs.Ytnjhgcanglkfiaa

namespace Go.Proofs.Ytnjhgcanglkfiaa
open Go.RowKit
attribute [local go_sem ↓] Go.wp_at_zero Go.wp_at_succ

set_option maxHeartbeats 2000000 in
set_option maxRecDepth 100000 in
theorem Sorts_nil (w : World) :
    Calls Try.prog 4 #[.slice none 0 0] w fun e w' => e = .returned (.bool true) ∧ Below w.heap.size w w' := by
  obtain ⟨i0, hi0, hz0, hz1, hz2⟩ := info_parts Try.infoIntK
  have hI : Ints (w.alloc (.cells #[.int .i64 0] 3)) (.slice none 0 0) [] := ⟨none, 0, rfl, Or.inl rfl⟩
  go_enter Try.func4, Try.ntmps4
  go_wp2_with (at_builtin; refine wpList_append_any _ rfl _ _ 22 22 rfl w.heap.size 3 i0 _ Try.underlying22 hi0 hz0 hz1 (by omega) rfl _ 1 [.int .i64 0] rfl (in_fresh w 0) _ 0 [] rfl hI.src (by omega) (by simp) ?_)
  intro iv w1 hown hgrow
  have hb1 : Below w.heap.size w w1 := Below.grown ((Below.refl _ w).alloc (Nat.le_refl _) _) hgrow (by simp) (fun k hk => by simp [Value.ownBlock] at hk; omega)
  have HR := hide (so_call w w1 [] iv (by simp) hown hb1)
  obtain ⟨iad, icap, rfl⟩ := ownsRow_form hown
  clear hown hgrow hb1 hI
  go_wp2_with fail
  refine (unhide HR).mono ?_
  rintro e w2 ⟨hb2, ov, kk, s, hso, hpe, rfl, hos⟩
  obtain ⟨oad, ocap, rfl⟩ := ownsRow_form hos
  have HB := hide hb2
  clear hso hpe hb2 hos HR
  go_wp2_with fail
  go_loopw [8, 9, 10] (fun i _ _ wr => i = .int .i64 0 ∧ Below w.heap.size w wr) (fun _ _ _ _ => 0)
  case atStart =>
    have hbA := (Below.refl w2.heap.size w2).alloc (Nat.le_refl _) (.cells #[.int .i64 1, .int .i64 kk, .slice oad 0 ocap] 24)
    exact ⟨rfl, (unhide HB).trans (hbA.mono (unhide HB).size)⟩
  case round =>
    obtain ⟨rfl, hbe⟩ := hrel
    have HF := hide hbe
    clear hbe
    go_wp2_with fail
    go_ret
    exact ⟨rfl, unhide HF⟩
end Go.Proofs.Ytnjhgcanglkfiaa

