/- Run and a session's Continue are one: plain; and Straight, walked. -/
import Derived.Test.YtbpajiljfppjcaaGreatDoorMkT
import Derived.Test.YtbpajiljfppjcaaGreatDoorSsD
namespace Go.Proofs.YtbpajiljfppjcaaGreatDoor
open Go.RowKit
attribute [local go_sem ↓] Go.wp_at_zero Go.wp_at_succ

theorem IntsR.ints {w : World} {B : Nat} {v : Value} {xs : List Int} (h : IntsR w B v xs) : Ints w v xs := by
  obtain ⟨ad, cap, e, _, _, _, h5⟩ := h
  refine ⟨ad, cap, e, ?_⟩
  rcases h5 with h5 | ⟨b, off, h6, _, _, h9⟩
  · exact Or.inl h5
  · exact Or.inr ⟨b, off, h6, h9⟩
theorem Ints.part {w : World} {ad : Option Addr} {cap : Nat} {l : List Int} (h : Ints w (.slice ad l.length cap) l) (n : Nat) (hn : n ≤ l.length) : Ints w (.slice ad n cap) (l.take n) := by
  obtain ⟨ad', cap', he, h⟩ := h
  simp at he
  obtain ⟨rfl, rfl⟩ := he
  refine ⟨ad, cap, by simp; omega, ?_⟩
  rcases h with h | ⟨b, o, h1, h2⟩
  · left; rw [h]; simp
  · exact Or.inr ⟨b, o, h1, fun j hj => by
      simp at hj
      rw [h2 j (by omega)]
      simp⟩
theorem row_ints {w : World} {B : Nat} {v : Value} {n : Nat} {l : List Int} (h : w.ownsRow B 3 1 v n (intsV l)) (hn : n = l.length) : Ints w v l := by
  subst hn
  obtain ⟨ad, cap, rfl⟩ := ownsRow_form h
  refine ⟨ad, cap, rfl, ?_⟩
  by_cases hl : l = []
  · exact Or.inl hl
  · right
    obtain ⟨g, cap', he, _⟩ := int_cell h (j := 0) (List.length_pos_iff.mpr hl)
    simp at he
    obtain ⟨rfl, rfl⟩ := he
    refine ⟨g, 0, rfl, fun j hj => ?_⟩
    obtain ⟨g', cap', he', hc⟩ := int_cell h hj
    simp at he'
    obtain ⟨rfl, rfl⟩ := he'
    rw [Nat.zero_add]
    exact hc
theorem none_fresh (w : World) : (w.alloc (.cells #[] 3)).ownsRow w.heap.size 3 1 (.slice (some ⟨w.heap.size, 0, none⟩) 0 0) 0 [] :=
  ⟨by simp, Or.inr ⟨w.heap.size, 0, #[], rfl, Nat.le_refl _, heap_alloc_new w _, Nat.le_refl _, by unfold maxLen; omega, by simp, by simp⟩⟩
set_option maxHeartbeats 1000000 in
theorem fed_more (w : World) (a : Addr) (cap : Nat) (l : List Int) (h : 100 < l.length) (hcap : l.length ≤ cap) (hi : Ints w (.slice (some a) l.length cap) l) :
    Calls Tryz.prog 14 #[.slice (some a) l.length cap] w fun e w' => Below w.heap.size w w' ∧ ∃ v, e = .returned v ∧ w'.ownsRow w.heap.size 3 1 v (l.take 100).length (intsV (l.take 100)) := by
  obtain ⟨i0, hi0, hz0, hz1, hz2⟩ := info_parts Tryz.infoIntK
  have HI := hide hi
  clear hi
  have h1 : (100 : Int) < (l.length : Int) := by omega
  have h2 : (100 : Int) ≤ (cap : Int) := by omega
  have hlen : (l.take 100).length = 100 := by simp; omega
  go_enter Tryz.func14, Tryz.ntmps14
  go_wp2_with (at_builtin; refine wpList_append_any _ rfl _ _ 22 22 rfl w.heap.size 3 i0 _ Tryz.underlying22 hi0 hz0 hz1 (by omega) rfl _ 0 [] rfl ?c3 _ 100 ((l.take 100).map (Value.int .i64)) rfl ?c0 ?c1 ?c2 ?_)
  case c3 => exact none_fresh w
  case c0 =>
    have := (((unhide HI).part 100 (by omega)).later ((Below.refl _ w).alloc (Nat.le_refl _) (.cells #[] 3))).src
    rw [hlen] at this
    exact this
  case c1 => omega
  case c2 => simp
  intro v w1 hown hgrow
  have hb1 : Below w.heap.size w w1 := Below.grown ((Below.refl _ w).alloc (Nat.le_refl _) _) hgrow (by simp) (fun k hk => by simp [Value.ownBlock] at hk; omega)
  have HF := hide (And.intro hb1 (show w1.ownsRow w.heap.size 3 1 v (l.take 100).length (intsV (l.take 100)) by rw [hlen, intsV, List.map_take]; exact hown))
  clear hown hgrow hb1
  go_wp2_with fail
  go_ret
  exact ⟨(unhide HF).1, _, rfl, (unhide HF).2⟩
set_option maxHeartbeats 1000000 in
theorem fed_few (w : World) (a : Addr) (cap : Nat) (l : List Int) (h : l.length ≤ 100) (hcap : l.length ≤ cap) (hi : Ints w (.slice (some a) l.length cap) l) :
    Calls Tryz.prog 14 #[.slice (some a) l.length cap] w fun e w' => Below w.heap.size w w' ∧ ∃ v, e = .returned v ∧ w'.ownsRow w.heap.size 3 1 v (l).length (intsV (l)) := by
  obtain ⟨i0, hi0, hz0, hz1, hz2⟩ := info_parts Tryz.infoIntK
  have HI := hide hi
  clear hi
  have h1 : ¬ (100 : Int) < (l.length : Int) := by omega
  have h2 : (l.length : Int) ≤ (cap : Int) := by omega
  go_enter Tryz.func14, Tryz.ntmps14
  go_wp2_with (at_builtin; refine wpList_append_any _ rfl _ _ 22 22 rfl w.heap.size 3 i0 _ Tryz.underlying22 hi0 hz0 hz1 (by omega) rfl _ 0 [] rfl ?c3 _ l.length ((l).map (Value.int .i64)) rfl ?c0 ?c1 ?c2 ?_)
  case c3 => exact none_fresh w
  case c0 =>
    have := ((unhide HI).later ((Below.refl _ w).alloc (Nat.le_refl _) (.cells #[] 3))).src
    exact this
  case c1 => omega
  intro v w1 hown hgrow
  have hb1 : Below w.heap.size w w1 := Below.grown ((Below.refl _ w).alloc (Nat.le_refl _) _) hgrow (by simp) (fun k hk => by simp [Value.ownBlock] at hk; omega)
  have HF := hide (And.intro hb1 (show w1.ownsRow w.heap.size 3 1 v (l).length (intsV (l)) by simpa [intsV] using hown))
  clear hown hgrow hb1
  go_wp2_with fail
  go_ret
  exact ⟨(unhide HF).1, _, rfl, (unhide HF).2⟩
set_option maxHeartbeats 1000000 in
theorem fed_nil (w : World) (cap : Nat) :
    Calls Tryz.prog 14 #[.slice none 0 cap] w fun e w' => Below w.heap.size w w' ∧ ∃ v, e = .returned v ∧ w'.ownsRow w.heap.size 3 1 v ([] : List Int).length (intsV []) := by
  obtain ⟨i0, hi0, hz0, hz1, hz2⟩ := info_parts Tryz.infoIntK
  have hI : ∀ c, Ints (w.alloc (.cells #[] 3)) (.slice none 0 c) [] := fun c => ⟨none, c, rfl, Or.inl rfl⟩
  have HI := hide hI
  clear hI
  go_enter Tryz.func14, Tryz.ntmps14
  go_wp2_with (at_builtin; refine wpList_append_any _ rfl _ _ 22 22 rfl w.heap.size 3 i0 _ Tryz.underlying22 hi0 hz0 hz1 (by omega) rfl _ 0 [] rfl ?c3 _ 0 [] rfl ?c0 (by omega) (by simp) ?_)
  case c3 => exact none_fresh w
  case c0 => exact (unhide HI _).src
  intro v w1 hown hgrow
  have hb1 : Below w.heap.size w w1 := Below.grown ((Below.refl _ w).alloc (Nat.le_refl _) _) hgrow (by simp) (fun k hk => by simp [Value.ownBlock] at hk; omega)
  have HF := hide (And.intro hb1 (show w1.ownsRow w.heap.size 3 1 v ([] : List Int).length (intsV []) from hown))
  clear hown hgrow hb1
  go_wp2_with fail
  go_ret
  exact ⟨(unhide HF).1, _, rfl, (unhide HF).2⟩
theorem fed_any (w : World) (B : Nat) (v : Value) (l : List Int) (h : IntsR w B v l) :
    Calls Tryz.prog 14 #[v] w fun e w' => Below w.heap.size w w' ∧ ∃ u, e = .returned u ∧ w'.ownsRow w.heap.size 3 1 u (l.take 100).length (intsV (l.take 100)) := by
  have hi := h.ints
  obtain ⟨ad, cap, rfl, hcap, _, _, h5⟩ := h
  cases ad with
  | none =>
    have : l = [] := by
      rcases h5 with h5 | ⟨b, off, h6, _⟩
      · exact h5
      · cases h6
    subst this
    exact fed_nil w cap
  | some a =>
    by_cases h100 : 100 < l.length
    · exact fed_more w a cap l h100 hcap hi
    · rw [List.take_of_length_le (by omega)]
      exact fed_few w a cap l (by omega) hcap hi
theorem begun_any (s : ByteArray) (iv : Value) (inp : List Int) (cap : Int) (w : World) (pls : List Rt.PL) (hs : s.size ≤ maxLen) (hi : Ints w iv inp) (hR : Rt.readS s = (0, 0, pls)) (hl : inp.length ≤ 100) (hc : 5 ≤ cap ∧ cap ≤ 500) :
    Calls Tryz.prog 15 #[.string s, iv, .int .i64 cap] w fun e w' => Below w.heap.size w w' ∧ ∃ P B X, e = .returned (.pointer (some ⟨P, 0, none⟩)) ∧ w.heap.size ≤ P ∧ (∀ k ∈ blkX X, w.heap.size ≤ k) ∧ SesS w' P B (srcOf s pls inp) cap (Rt.seFirst (srcOf s pls inp)) X (.slice none 0 0) := by
  go_enter Tryz.func15, Tryz.ntmps15
  go_wp2_with fail
  refine (snew_any s iv inp cap w pls hs hi hR hl hc).mono ?_
  rintro e w1 ⟨hb1, P, B, X, rfl, h1, h2, h3⟩
  have HF := hide (And.intro hb1 (And.intro h1 (And.intro h2 h3)))
  clear hb1 h1 h2 h3 hi
  go_wp2_with fail
  go_ret
  obtain ⟨q1, q2, q3, q4⟩ := unhide HF
  exact ⟨q1, P, B, X, rfl, q2, q3, q4⟩
theorem sOutput_any (w : World) (P B : Nat) (S : Rt.Src) (cap : Int) (s : Rt.Se) (X : McX) (jv : Value) (h : SesS w P B S cap s X jv) (ho : s.m.output.length ≤ 1000) :
    Calls Tryz.prog 17 #[.pointer (some ⟨P, 0, none⟩)] w fun e w' => Below w.heap.size w w' ∧ ∃ v, e = .returned v ∧ w'.ownsRow w.heap.size 3 1 v s.m.output.length (intsV s.m.output) := by
  go_enter Tryz.func17, Tryz.ntmps17
  go_wp2_with fail
  refine (output_any _ P B _ _ S s.m X h.mc ho).mono ?_
  rintro e w1 ⟨hb1, v, rfl, hv⟩
  have HF := hide (And.intro hb1 hv)
  clear hb1 hv h
  go_wp2_with fail
  go_ret
  exact ⟨(unhide HF).1, v, rfl, (unhide HF).2⟩
set_option maxHeartbeats 1000000 in
theorem sameResult_any (w : World) (B B' : Nat) (va vb : Value) (a b : List Int) (ea sa eb sb : Int) (ha : w.ownsRow B 3 1 va a.length (intsV a)) (hb : w.ownsRow B' 3 1 vb b.length (intsV b)) (hl : a.length ≤ 1000) (hl2 : b.length ≤ 1000) :
    Calls Tryz.prog 18 #[.agg #[.int .i64 ea, .int .i64 sa, va], .agg #[.int .i64 eb, .int .i64 sb, vb]] w fun e w' => e = .returned (.bool (decide (a = b) && (ea == eb) && (sa == sb))) ∧ Below w.heap.size w w' := by
  obtain ⟨aad, acap, rfl⟩ := ownsRow_form ha
  obtain ⟨bad, bcap, rfl⟩ := ownsRow_form hb
  go_enter Tryz.func18, Tryz.ntmps18
  go_wp2_with fail
  have hbA := ((Below.refl w.heap.size w).alloc (Nat.le_refl _) (.cells #[.int .i64 ea, .int .i64 sa, .slice aad a.length acap] 29)).alloc (by simp) (.cells #[.int .i64 eb, .int .i64 sb, .slice bad b.length bcap] 29)
  have b1 := block_alloc (heap_alloc_new w (.cells #[.int .i64 ea, .int .i64 sa, .slice aad a.length acap] 29)) (.cells #[.int .i64 eb, .int .i64 sb, .slice bad b.length bcap] 29)
  have b2 := alloc2_plain w (.cells #[.int .i64 ea, .int .i64 sa, .slice aad a.length acap] 29) (.cells #[.int .i64 eb, .int .i64 sb, .slice bad b.length bcap] 29)
  refine (sameInts_keep _ B B' _ _ a b (own_later ha hbA) (own_later hb hbA) hl hl2).mono ?_
  rintro e w1 ⟨rfl, hb1⟩
  obtain ⟨x0, x1, x2⟩ := three_cells (block_later b1 hb1)
  obtain ⟨y0, y1, y2⟩ := three_cells (block_later b2 hb1)
  have HB := hide (hbA.trans (hb1.mono (B' := w.heap.size) (by simp; omega)))
  clear hbA b1 b2 hb1 ha hb
  generalize hab : decide (a = b) = q at *
  have HQ := hide hab
  clear hab
  cases q with
  | false =>
    go_wp2_with fail
    go_ret
    exact ⟨by rw [unhide HQ]; rfl, unhide HB⟩
  | true =>
    cases he : (ea == eb) with
    | false =>
      have HE := hide he
      go_wp2_with fail
      go_ret
      exact ⟨by rw [unhide HQ, unhide HE]; rfl, unhide HB⟩
    | true =>
      have HE := hide he
      go_wp2_with fail
      go_ret
      exact ⟨by rw [unhide HQ, unhide HE]; rfl, unhide HB⟩
end Go.Proofs.YtbpajiljfppjcaaGreatDoor

namespace Go.Proofs.YtbpajiljfppjcaaGreatDoor
open Go.RowKit
attribute [local go_sem ↓] Go.wp_at_zero Go.wp_at_succ

namespace Rt
theorem unmarked {s : Se} (h : s.marks = List.replicate 101 false) : markedB s = false := by
  unfold markedB
  rw [h]
  cases e : (List.replicate 101 false)[s.m.line.toNat]? with
  | none => simp
  | some b =>
    have := List.mem_of_getElem? e
    rw [List.mem_replicate] at this
    rw [this.2]
    simp
theorem ends_cont {s : Se} (h : s.marks = List.replicate 101 false) (fuel d0 mv : Int) : fwdEnds s 3 fuel d0 mv = if ¬ s.m.fin = 0 then 3 else if fuel ≤ mv then 4 else 0 := by
  have ha : arrivedI s 3 d0 mv = 0 := by
    unfold arrivedI
    rw [unmarked h]
    unfold reachedB
    split
    · rfl
    · rw [if_neg (by simp)]; rfl
  unfold fwdEnds
  rw [ha]
  simp
/-- A move that goes on is a run. -/
theorem cont_run (S : Src) (cap d0 : Int) (n : Nat) (hn : n ≤ 1000) : ∀ (f : Nat) (s : Se) (k : Nat), s.marks = List.replicate 101 false → k + f = n → s.idx = k →
    (fwdRun S cap 3 n d0 (f + 1) s k).1.m = (runM S f s.m).1 ∧ (fwdRun S cap 3 n d0 (f + 1) s k).2.1 = k + (runM S f s.m).2 ∧ (fwdRun S cap 3 n d0 (f + 1) s k).1.idx = ((k + (runM S f s.m).2 : Nat) : Int) := by
  intro f
  induction f with
  | zero =>
    intro s k hm hk hi
    have hkn : (n : Int) ≤ (k : Int) := by omega
    have he : ¬ fwdEnds s 3 n d0 k = 0 := by
      rw [ends_cont hm]
      by_cases hz : s.m.fin = 0
      · rw [if_neg (by simpa using hz), if_pos hkn]; decide
      · rw [if_pos hz]; decide
    rw [fwdRun, if_neg he]
    exact ⟨rfl, rfl, hi⟩
  | succ f ih =>
    intro s k hm hk hi
    have hkn : ¬ (n : Int) ≤ (k : Int) := by omega
    by_cases hz : s.m.fin = 0
    · have he : fwdEnds s 3 n d0 k = 0 := by rw [ends_cont hm, if_neg (by simpa using hz), if_neg hkn]
      rw [fwdRun, if_pos he]
      have e : runM S (f + 1) s.m = ((runM S f (stepM S s.m).1).1, (runM S f (stepM S s.m).1).2 + 1) := by rw [runM, if_pos hz]
      rw [e]
      obtain ⟨h1, h2, h3⟩ := ih (seStep S cap s) (k + 1) hm (by omega) (by
        show wrap64 (s.idx + 1) = ((k + 1 : Nat) : Int)
        rw [hi, IntWalk.wrap64_in _ (by omega)]
        omega)
      refine ⟨h1, ?_, ?_⟩
      · rw [h2]
        show k + 1 + (runM S f (stepM S s.m).1).2 = k + ((runM S f (stepM S s.m).1).2 + 1)
        omega
      · rw [h3]
        show ((k + 1 + (runM S f (stepM S s.m).1).2 : Nat) : Int) = ((k + ((runM S f (stepM S s.m).1).2 + 1) : Nat) : Int)
        congr 1
        omega
    · have he : ¬ fwdEnds s 3 n d0 k = 0 := by
        rw [ends_cont hm, if_pos hz]; decide
      rw [fwdRun, if_neg he]
      have e : runM S (f + 1) s.m = (s.m, 0) := by rw [runM, if_neg hz]
      rw [e]
      exact ⟨rfl, rfl, hi⟩
theorem run_stops (S : Src) : ∀ (f : Nat) (m : Mc), (runM S f m).2 = f ∨ ¬ (runM S f m).1.fin = 0
  | 0, m => Or.inl rfl
  | f + 1, m => by
    rw [runM]
    split
    · rcases run_stops S f (stepM S m).1 with h | h
      · left; rw [h]
      · right; exact h
    · next hz => right; exact hz
end Rt
theorem run_keepG {S : Rt.Src} (hS : Good S) : ∀ (f : Nat) (m : Rt.Mc), KeepG S m → KeepG S (Rt.runM S f m).1
  | 0, m, h => h
  | f + 1, m, h => by
    rw [Rt.runM]
    split
    · exact run_keepG hS f _ (step_keepG hS h)
    · exact h
theorem IntsR.below {w w' : World} {v : Value} {xs : List Int} (h : IntsR w w.heap.size v xs) (hb : Below w.heap.size w w') : IntsR w' w'.heap.size v xs := by
  obtain ⟨ad, cap, h1, h2, h3, h4, h5⟩ := h
  refine ⟨ad, cap, h1, h2, h3, h4, ?_⟩
  rcases h5 with h5 | ⟨b, off, h6, h7, h8, h9⟩
  · exact Or.inl h5
  · exact Or.inr ⟨b, off, h6, Nat.lt_of_lt_of_le h7 hb.size, Nat.lt_of_lt_of_le h7 hb.size, fun j hj => cell_later hb (h9 j hj)⟩
theorem pick_range (c n : Int) (hn : 0 < n) : 0 ≤ Rt.pickP c n ∧ Rt.pickP c n < n := by
  unfold Rt.pickP
  split
  · exact ⟨Int.emod_nonneg _ (by omega), Int.emod_lt_of_pos _ hn⟩
  · exact ⟨Int.emod_nonneg _ (by omega), Int.emod_lt_of_pos _ hn⟩
theorem SAft.far {w w' : World} {P B : Nat} {S : Rt.Src} {cap : Int} {s' : Rt.Se} {X X' : McX} {jv jv' : Value} (h : SAft P B S cap X X' jv jv' s' w w') {N : Nat} (hN : N ≤ w.heap.size) (hP : N ≤ P) (hX : ∀ k ∈ blkX X, N ≤ k) (hj : ∀ k, jv.ownBlock = some k → N ≤ k) : Below N w w' :=
  ⟨h.frm.os, h.frm.tape, h.frm.output, h.frm.size, fun k hk => h.frm.block k (by omega) (fun hm => by
    rcases List.mem_cons.mp hm with e | e
    · omega
    · have := hX k e; omega) (fun e => by have := hj k e; omega)⟩
set_option maxHeartbeats 4000000 in
set_option maxRecDepth 100000 in
theorem Straight_any (w : World) (cv iv : Value) (code input : List Int) (fuel : Int) (hc : IntsR w w.heap.size cv code) (hi : IntsR w w.heap.size iv input) (hf : -9223372036854775808 ≤ fuel ∧ fuel ≤ 9223372036854775807) :
    Calls Tryz.prog 3 #[cv, iv, .int .i64 fuel] w fun e w' => e = .returned (.bool true) ∧ Below w.heap.size w w' := by
  obtain ⟨pls, r1, r2, r3, r4, r5, r6⟩ := Rt.made_all code
  obtain ⟨n, hn⟩ := Int.eq_ofNat_of_zero_le (pick_range fuel 1001 (by omega)).1
  have hn1000 : n ≤ 1000 := by have := (pick_range fuel 1001 (by omega)).2; omega
  have hl100 : (input.take 100).length ≤ 100 := by simp; omega
  have hS : srcOf (Rt.tidyP pls) pls (input.take 100) = srcOf (Rt.srcB code) pls (input.take 100) := by unfold srcOf; rw [r3]
  have hgood := good_of (inp := input.take 100) r1 hl100
  have hc4 := call4_of (inp := input.take 100) r1
  have cform : ∃ ad cap, cv = .slice ad code.length cap := by obtain ⟨ad, cap, h, _⟩ := hc; exact ⟨ad, cap, h⟩
  have iform : ∃ ad cap, iv = .slice ad input.length cap := by obtain ⟨ad, cap, h, _⟩ := hi; exact ⟨ad, cap, h⟩
  obtain ⟨cad, ccap, rfl⟩ := cform
  obtain ⟨iad, icap, rfl⟩ := iform
  have HH := hide (And.intro hc (And.intro hi (And.intro r1 (And.intro r2 (And.intro hS (And.intro hgood (And.intro hc4 r4)))))))
  clear hc hi r1 r2 r3 r4 hS hgood hc4
  go_enter Tryz.func3, Tryz.ntmps3
  go_wp2_with fail
  refine (source_any w _ code (unhide HH).1).mono ?_
  rintro e w1 ⟨rfl, hb1⟩
  generalize Rt.srcB code = text at *
  go_wp2_with fail
  refine (pick_any w1 fuel 1001 hf.1 hf.2 (by omega) (by omega)).mono ?_
  rintro e w1' ⟨rfl, rfl⟩
  rw [hn]
  go_wp2_with fail
  refine (tidy_ok w1' (unhide HH).2.2.1 (unhide HH).2.2.2.2.2.2.2 (by omega)).mono ?_
  rintro e w2 ⟨rfl, hb2⟩
  have HB2 := hide (hb1.trans (hb2.mono hb1.size))
  clear hb1 hb2
  generalize Rt.tidyP pls = t at *
  go_wp2_with fail
  refine (fed_any w2 w2.heap.size _ input (IntsR.below (unhide HH).2.1 (unhide HB2))).mono ?_
  rintro e w3 ⟨hb3, u3, rfl, hu3⟩
  have HI := hide (unhide HH).2.1
  obtain ⟨_, _, r1, r2, hS, hgood, hc4, _⟩ := unhide HH
  clear HH
  have HL := hide hl100
  generalize hinp : input.take 100 = inp at *
  have HINP := hide hinp
  clear hinp
  have hui3 := row_ints hu3 rfl
  obtain ⟨uad3, ucap3, rfl⟩ := ownsRow_form hu3
  have HB3 := hide ((unhide HB2).trans (hb3.mono (unhide HB2).size))
  have HR3 := hide (run_right text _ inp n w3 pls (by unfold maxLen; omega) hui3 r1 hl100 hn1000)
  clear hb3 hu3 hui3
  go_wp2_with fail
  refine (unhide HR3).mono ?_
  rintro e w4 ⟨hb4, v, rfl, hv⟩
  obtain ⟨vad, vcap, rfl⟩ := ownsRow_form hv
  generalize hrr : Rt.runM (srcOf text pls inp) n (Rt.firstM (srcOf text pls inp)) = rr at *
  have HRR := hide hrr
  have HB4 := hide (And.intro ((unhide HB3).trans (hb4.mono (unhide HB3).size)) hv)
  clear hb4 hv hrr HR3 HB3
  go_wp2_with fail
  have hbA := (Below.refl w4.heap.size w4).alloc (Nat.le_refl _) (.cells #[.int .i64 rr.1.fin, .int .i64 (rr.2 : Int), .slice vad rr.1.output.length vcap] 29)
  have HA := hide (And.intro ((unhide HB4).1.trans (hbA.mono (unhide HB4).1.size)) (And.intro (own_later (unhide HB4).2 hbA) (heap_alloc_new w4 (.cells #[.int .i64 rr.1.fin, .int .i64 (rr.2 : Int), .slice vad rr.1.output.length vcap] 29))))
  clear hbA HB4
  generalize hwA : w4.alloc (.cells #[.int .i64 rr.1.fin, .int .i64 (rr.2 : Int), .slice vad rr.1.output.length vcap] 29) = wA at *
  generalize w4.heap.size = A at *
  clear hwA
  refine (fed_any wA wA.heap.size _ input (IntsR.below (unhide HI) (unhide HA).1)).mono ?_
  rintro e w5 ⟨hb5, u5, rfl, hu5⟩
  rw [unhide HINP] at hu5
  have hui5 := row_ints hu5 rfl
  obtain ⟨uad5, ucap5, rfl⟩ := ownsRow_form hu5
  have HA5 := hide (And.intro ((unhide HA).1.trans (hb5.mono (unhide HA).1.size)) (And.intro (own_later (unhide HA).2.1 hb5) (block_later (unhide HA).2.2 hb5)))
  have HR5 := hide (run_right t _ inp n w5 pls (by unfold maxLen; omega) hui5 r2 (unhide HL) hn1000)
  clear hb5 hu5 hui5 HA
  go_wp2_with fail
  refine (unhide HR5).mono ?_
  rw [hS]
  rintro e w6 ⟨hb6, v2, rfl, hv2⟩
  rw [unhide HRR] at hv2 ⊢
  obtain ⟨vad2, vcap2, rfl⟩ := ownsRow_form hv2
  have hbB := (Below.refl w6.heap.size w6).alloc (Nat.le_refl _) (.cells #[.int .i64 rr.1.fin, .int .i64 (rr.2 : Int), .slice vad2 rr.1.output.length vcap2] 29)
  have hbq := hb6.trans (hbB.mono (B' := w5.heap.size) hb6.size)
  have HC := hide (And.intro ((unhide HA5).1.trans (hbq.mono (unhide HA5).1.size)) (And.intro (own_later (unhide HA5).2.1 hbq) (And.intro (block_later (unhide HA5).2.2 hbq) (And.intro (own_later hv2 hbB) (heap_alloc_new w6 (.cells #[.int .i64 rr.1.fin, .int .i64 (rr.2 : Int), .slice vad2 rr.1.output.length vcap2] 29))))))
  clear hb6 hv2 hbB hbq HA5 HR5
  go_wp2_with fail
  revert HC
  generalize hwB : w6.alloc (.cells #[.int .i64 rr.1.fin, .int .i64 (rr.2 : Int), .slice vad2 rr.1.output.length vcap2] 29) = wB
  generalize w6.heap.size = C at *
  clear hwB
  intro HC
  refine (fed_any wB wB.heap.size _ input (IntsR.below (unhide HI) (unhide HC).1)).mono ?_
  rintro e w8 ⟨hb8, u8, rfl, hu8⟩
  rw [unhide HINP] at hu8
  have hui8 := row_ints hu8 rfl
  obtain ⟨uad8, ucap8, rfl⟩ := ownsRow_form hu8
  have HC8 := hide (And.intro ((unhide HC).1.trans (hb8.mono (unhide HC).1.size)) (And.intro (own_later (unhide HC).2.1 hb8) (And.intro (block_later (unhide HC).2.2.1 hb8) (And.intro (own_later (unhide HC).2.2.2.1 hb8) (block_later (unhide HC).2.2.2.2 hb8)))))
  have HN8 := hide (begun_any text _ inp 5 w8 pls (by unfold maxLen; omega) hui8 r1 (unhide HL) (by omega))
  clear hb8 hu8 hui8 HC
  go_wp2_with fail
  refine (unhide HN8).mono ?_
  rintro e w9 ⟨hb9, P, B, X, rfl, hP, hX, hses⟩
  have HS9 := hide (And.intro hb9 (And.intro hP (And.intro hX hses)))
  clear hb9 hP hX hses HN8
  go_wp2_with fail
  have hkf : KeepS (srcOf text pls inp) 5 (Rt.seFirst (srcOf text pls inp)) := ⟨first_keepG hgood, first_par4 _, by simp [Rt.seFirst], by simp [Rt.seFirst]⟩
  obtain ⟨cr1, cr2, cr3⟩ := Rt.cont_run (srcOf text pls inp) 5 ((Rt.seFirst (srcOf text pls inp)).m.frames.length : Int) n hn1000 n (Rt.seFirst (srcOf text pls inp)) 0 rfl (by omega) rfl
  have hout : rr.1.output.length ≤ 50 := by
    rw [← unhide HRR]
    exact (run_keepG hgood n _ (first_keepG hgood)).out
  refine (forward_any w9 P B (srcOf text pls inp) 5 (Rt.seFirst (srcOf text pls inp)) X _ (unhide HS9).2.2.2 hgood hc4 (by omega) hkf 3 n (by omega) hn1000).mono ?_
  rintro e w10 ⟨X', jv', rfl, hA10⟩
  generalize Rt.fwdRun (srcOf text pls inp) 5 3 n ((Rt.seFirst (srcOf text pls inp)).m.frames.length : Int) (n + 1) (Rt.seFirst (srcOf text pls inp)) 0 = fr at *
  have e0 : (Rt.seFirst (srcOf text pls inp)).m = Rt.firstM (srcOf text pls inp) := rfl
  rw [e0, unhide HRR] at cr1 cr2 cr3
  rw [Nat.zero_add] at cr2 cr3
  obtain ⟨fs, fk, rs⟩ := fr
  simp only at cr1 cr2 cr3 hA10
  subst cr2
  have hrep : replyA rs rr.2 fs = #[.int .i64 rs, .int .i64 (rr.2 : Int), .int .i64 rr.1.fin, .int .i64 fs.m.line, .int .i64 (fs.m.frames.length : Int), .int .i64 (rr.2 : Int)] := by
    unfold replyA
    rw [cr1, cr3]
  have hfo : fs.m.output = rr.1.output := by rw [cr1]
  have hfar := hA10.far (N := w8.heap.size) (unhide HS9).1.size (unhide HS9).2.1 (unhide HS9).2.2.1 (fun k h => by cases h)
  have hb10 := (unhide HS9).1.trans hfar
  have HD := hide (And.intro ((unhide HC8).1.trans (hb10.mono (unhide HC8).1.size)) (And.intro (own_later (unhide HC8).2.1 hb10) (And.intro (block_later (unhide HC8).2.2.1 hb10) (And.intro (own_later (unhide HC8).2.2.2.1 hb10) (And.intro (block_later (unhide HC8).2.2.2.2 hb10) hA10.ses)))))
  clear hfar hb10 hA10 HC8 HS9 hkf e0 cr1 cr3
  dsimp only
  rw [hrep]
  clear hrep
  generalize fs.m.line = ln at *
  generalize (fs.m.frames.length : Int) = dp at *
  have hbE := (Below.refl w10.heap.size w10).alloc (Nat.le_refl _) (.cells #[.int .i64 rs, .int .i64 (rr.2 : Int), .int .i64 rr.1.fin, .int .i64 ln, .int .i64 dp, .int .i64 (rr.2 : Int)] 36)
  have HE := hide (And.intro ((unhide HD).1.trans (hbE.mono (unhide HD).1.size)) (And.intro (own_later (unhide HD).2.1 hbE) (And.intro (block_later (unhide HD).2.2.1 hbE) (And.intro (own_later (unhide HD).2.2.2.1 hbE) (And.intro (block_later (unhide HD).2.2.2.2.1 hbE) (And.intro ((unhide HD).2.2.2.2.2.later hbE) (heap_alloc_new w10 (.cells #[.int .i64 rs, .int .i64 (rr.2 : Int), .int .i64 rr.1.fin, .int .i64 ln, .int .i64 dp, .int .i64 (rr.2 : Int)] 36))))))))
  clear hbE HD
  go_wp2_with fail
  revert HE
  generalize hwE : w10.alloc (.cells #[.int .i64 rs, .int .i64 (rr.2 : Int), .int .i64 rr.1.fin, .int .i64 ln, .int .i64 dp, .int .i64 (rr.2 : Int)] 36) = wE
  generalize w10.heap.size = E at *
  clear hwE
  intro HE
  refine (sOutput_any wE P B (srcOf text pls inp) 5 fs X' jv' (unhide HE).2.2.2.2.2.1 (by rw [hfo]; omega)).mono ?_
  rintro e w11 ⟨hb11, v3, rfl, hv3⟩
  rw [hfo] at hv3
  obtain ⟨vad3, vcap3, rfl⟩ := ownsRow_form hv3
  have HF := hide (And.intro ((unhide HE).1.trans (hb11.mono (unhide HE).1.size)) (And.intro (own_later (unhide HE).2.1 hb11) (And.intro (block_later (unhide HE).2.2.1 hb11) (And.intro (own_later (unhide HE).2.2.2.1 hb11) (And.intro (block_later (unhide HE).2.2.2.2.1 hb11) (And.intro hv3 (block_later (unhide HE).2.2.2.2.2.2 hb11)))))))
  clear hb11 hv3 HE hfo
  obtain ⟨x0, x1, x2⟩ := three_cells (unhide HF).2.2.1
  obtain ⟨y0, y1, y2⟩ := three_cells (unhide HF).2.2.2.2.1
  have HST := hide (show rr.2 = n ∨ ¬ rr.1.fin = 0 by rw [← unhide HRR]; exact Rt.run_stops _ n _)
  have HS1 := hide (fun (W : World) (hW : Below w11.heap.size w11 W) => sameResult_any W _ _ _ _ rr.1.output rr.1.output rr.1.fin rr.2 rr.1.fin rr.2 (own_later (unhide HF).2.1 hW) (own_later (unhide HF).2.2.2.1 hW) (by omega) (by omega))
  have HS2 := hide (fun (W : World) (hW : Below w11.heap.size w11 W) => sameResult_any W _ _ _ _ rr.1.output rr.1.output rr.1.fin rr.2 rr.1.fin rr.2 (own_later (unhide HF).2.1 hW) (own_later (unhide HF).2.2.2.2.2.1 hW) (by omega) (by omega))
  have HTT := hide (show (decide (rr.1.output = rr.1.output) && (rr.1.fin == rr.1.fin) && ((rr.2 : Int) == (rr.2 : Int))) = true by simp)
  generalize rr.1.output = ot at *
  generalize rr.1.fin = fn at *
  generalize rr.2 = rk at *
  go_wp2_with fail
  refine (unhide HS1 w11 (Below.refl _ _)).mono ?_
  rintro e w12 ⟨rfl, hb12⟩
  rw [unhide HTT]
  have HF12 := hide (And.intro ((unhide HF).1.trans (hb12.mono (unhide HF).1.size)) hb12)
  obtain ⟨a0, a1, a2⟩ := three_cells (block_later (unhide HF).2.2.1 hb12)
  obtain ⟨p0, p1, p2, p3, p4, p5, pz⟩ := six_any (block_later (unhide HF).2.2.2.2.2.2 hb12)
  clear hb12 x0 x1 x2 y0 y1 y2 HS1
  go_wp2_with fail
  refine (unhide HS2 w12 (unhide HF12).2).mono ?_
  rintro e w13 ⟨rfl, hb13⟩
  rw [unhide HTT]
  have HG := hide ((unhide HF12).1.trans (hb13.mono (unhide HF12).1.size))
  have hb3 := (unhide HF12).2.trans (hb13.mono (B' := w11.heap.size) (unhide HF12).2.size)
  obtain ⟨c0, c1, c2⟩ := three_cells (block_later (unhide HF).2.2.1 hb3)
  obtain ⟨d0, d1, d2, d3, d4, d5, dz⟩ := six_any (block_later (unhide HF).2.2.2.2.2.2 hb3)
  clear hb13 hb3 a0 a1 a2 p0 p1 p2 p3 p4 p5 pz HS2
  have hkk : ((rk : Int) == (rk : Int)) = true := by simp
  by_cases hkn : rk = n
  · have hkn' : ((rk : Int) == (n : Int)) = true := by rw [beq_iff_eq]; omega
    clear hkn
    go_wp2_with fail
    go_ret
    exact ⟨rfl, unhide HG⟩
  · have hkn' : ((rk : Int) == (n : Int)) = false := by rw [beq_eq_false_iff_ne]; omega
    have hfn : (fn != 0) = true := by
      rcases unhide HST with h | h
      · exact absurd h hkn
      · simpa using h
    clear hkn
    go_wp2_with fail
    go_ret
    exact ⟨rfl, unhide HG⟩
end Go.Proofs.YtbpajiljfppjcaaGreatDoor

