/- Single steps as places of the run; the calls of a session at a place. -/
import Derived.Test.YtbpajiljfppjcaaGreatDoorStA
namespace Go.Proofs.YtbpajiljfppjcaaGreatDoor
open Go.RowKit
attribute [local go_sem ↓] Go.wp_at_zero Go.wp_at_succ

theorem pick_range2 (c n : Int) (hn : 0 < n) : 0 ≤ Rt.pickP c n ∧ Rt.pickP c n < n := by
  unfold Rt.pickP
  split
  · exact ⟨Int.emod_nonneg _ (by omega), Int.emod_lt_of_pos _ hn⟩
  · exact ⟨Int.emod_nonneg _ (by omega), Int.emod_lt_of_pos _ hn⟩
theorem IntsR.keeps {w w' : World} {v : Value} {xs : List Int} (h : IntsR w w.heap.size v xs) (hb : Below w.heap.size w w') : IntsR w' w'.heap.size v xs := by
  obtain ⟨ad, cap, h1, h2, h3, h4, h5⟩ := h
  refine ⟨ad, cap, h1, h2, h3, h4, ?_⟩
  rcases h5 with h5 | ⟨b, off, h6, h7, h8, h9⟩
  · exact Or.inl h5
  · exact Or.inr ⟨b, off, h6, Nat.lt_of_lt_of_le h7 hb.size, Nat.lt_of_lt_of_le h7 hb.size, fun j hj => cell_later hb (h9 j hj)⟩
/-- The blocks that a session may write. -/
def ownL (P : Nat) (X : McX) (jv : Value) : List Nat := P :: blkX X ++ jv.ownBlock.toList
theorem not_ownL {P : Nat} {X : McX} {jv : Value} {k : Nat} (h : k ∉ ownL P X jv) : k ∉ P :: blkX X ∧ jv.ownBlock ≠ some k := by
  unfold ownL at h
  simp only [List.cons_append, List.mem_cons, List.mem_append, Option.mem_toList, not_or] at h
  exact ⟨by simp only [List.mem_cons, not_or]; exact ⟨h.1, h.2.1⟩, h.2.2⟩
theorem in_ownL {P : Nat} {X : McX} {jv : Value} {k : Nat} (h : k ∈ ownL P X jv) : k = P ∨ k ∈ blkX X ∨ jv.ownBlock = some k := by
  unfold ownL at h
  simpa only [List.cons_append, List.mem_cons, List.mem_append, Option.mem_toList] using h
theorem ownL_in {P : Nat} {X : McX} {jv : Value} {k : Nat} (h : k = P ∨ k ∈ blkX X ∨ jv.ownBlock = some k) : k ∈ ownL P X jv := by
  unfold ownL
  simpa only [List.cons_append, List.mem_cons, List.mem_append, Option.mem_toList] using h
section
variable {w w' : World} {P B : Nat} {S : Rt.Src} {cap : Int} {s s' : Rt.Se} {X X' : McX} {jv jv' : Value}
theorem SAft.kept (h : SAft P B S cap X X' jv jv' s' w w') {k : Nat} (hk : k < w.heap.size) (hn : k ∉ ownL P X jv) : w'.heap[k]? = w.heap[k]? := h.frm.block k hk (not_ownL hn).1 (not_ownL hn).2
theorem SAft.owns (h : SAft P B S cap X X' jv jv' s' w w') {k : Nat} (hk : k ∈ ownL P X' jv') : k ∈ ownL P X jv ∨ w.heap.size ≤ k := by
  rcases in_ownL hk with e | e | e
  · exact Or.inl (ownL_in (Or.inl e))
  · rcases h.grow k e with e | e
    · exact Or.inl (ownL_in (Or.inr (Or.inl e)))
    · exact Or.inr e
  · rcases h.jg k e with e | e
    · exact Or.inl (ownL_in (Or.inr (Or.inr e)))
    · exact Or.inr e
theorem SesS.own_lt (h : SesS w P B S cap s X jv) {k : Nat} (hk : k ∈ ownL P X jv) : k < w.heap.size := by
  rcases in_ownL hk with e | e | e
  · rw [e]; exact block_lt h.mc.block
  · rw [← h.mc.blks] at e
    exact h.mc.own.lt k e
  · obtain ⟨c, hc⟩ := own_blk h.jr e
    exact block_lt hc
/-- Below a number that all of the session's blocks lie above, all stays. -/
theorem SAft.low (h : SAft P B S cap X X' jv jv' s' w w') {N : Nat} (hN : N ≤ w.heap.size) (hX : ∀ k ∈ ownL P X jv, N ≤ k) : Below N w w' :=
  ⟨h.frm.os, h.frm.tape, h.frm.output, h.frm.size, fun k hk => h.kept (by omega) (fun hm => by have := hX k hm; omega)⟩
theorem SAft.high (h : SAft P B S cap X X' jv jv' s' w w') {N : Nat} (hN : N ≤ w.heap.size) (hX : ∀ k ∈ ownL P X jv, N ≤ k) : ∀ k ∈ ownL P X' jv', N ≤ k := fun k hk => by
  rcases h.owns hk with e | e
  · exact hX k e
  · omega
/-- A row that is none of the session's stays. -/
theorem SAft.rowKept (h : SAft P B S cap X X' jv jv' s' w w') {N : Nat} {t : TypeId} {z n : Nat} {v : Value} {xs : List Value} (hr : w.ownsRow N t z v n xs) (ha : ∀ g, v.ownBlock = some g → g ∉ ownL P X jv) : w'.ownsRow N t z v n xs ∧ ∀ g, v.ownBlock = some g → g ∉ ownL P X' jv' := by
  have hlt : ∀ g, v.ownBlock = some g → g < w.heap.size := fun g hg => by
    obtain ⟨c, hc⟩ := own_blk hr hg
    exact block_lt hc
  refine ⟨own_same hr (fun g hg => h.kept (hlt g hg) (ha g hg)), fun g hg hm => ?_⟩
  rcases h.owns hm with e | e
  · exact ha g hg e
  · have := hlt g hg; omega
end
theorem room_any (w : World) (c : Int) (h1 : -9223372036854775808 ≤ c) (h2 : c ≤ 9223372036854775807) :
    Calls Tryz.prog 22 #[.int .i64 c] w fun e w' => e = .returned (.int .i64 (5 + Rt.pickP c 496)) ∧ w' = w := by
  have hp := pick_range2 c 496 (by omega)
  have HC := hide (fun W => pick_any W c 496 h1 h2 (by omega) (by omega))
  generalize Rt.pickP c 496 = q at *
  have e1 : IntKind.i64.wrap (5 + q) = 5 + q := by rw [IntWalk.i64_left, IntWalk.wrap64_in _ (by omega)]
  clear h1 h2
  go_enter Tryz.func22, Tryz.ntmps22
  go_wp2_with fail
  refine (unhide HC _).mono ?_
  rintro e w1 ⟨rfl, rfl⟩
  go_wp2_with fail
  go_ret
  exact ⟨rfl, rfl⟩
theorem steps_any (w : World) (c : Int) (h1 : -9223372036854775808 ≤ c) (h2 : c ≤ 9223372036854775807) :
    Calls Tryz.prog 30 #[.int .i64 c] w fun e w' => e = .returned (.int .i64 (Rt.mvF c : Int)) ∧ w' = w := by
  have hp := pick_range2 c 1099511627776 (by omega)
  have HC := hide (fun W => pick_any W c 1099511627776 h1 h2 (by omega) (by omega))
  obtain ⟨q, hq⟩ := Int.eq_ofNat_of_zero_le hp.1
  obtain ⟨b, hb⟩ : ∃ b, b = q / 12 := ⟨_, rfl⟩
  obtain ⟨ff, hff⟩ : ∃ b', b' = b % 60 := ⟨_, rfl⟩
  have HF := hide (show Rt.mvF c = ff by unfold Rt.mvF Rt.mvV; rw [hff, hb, hq]; rfl)
  rw [hq] at HC hp
  have d3 : wrap64 ((q : Int) / 12) = (b : Int) := by rw [IntWalk.wrap64_in _ (by omega)]; omega
  have d4 : (b : Int) % 60 = (ff : Int) := by omega
  clear h1 h2 hp hq hb hff
  go_enter Tryz.func30, Tryz.ntmps30
  go_wp2_with fail
  refine (unhide HC _).mono ?_
  rintro e w1 ⟨rfl, rfl⟩
  go_wp2_with fail
  go_ret
  exact ⟨by rw [unhide HF, ← d4]; rfl, rfl⟩
theorem Rt.moveR_f {S : Rt.Src} {cap c : Int} {q kk ff : Nat} (s : Rt.Se) (hV : Rt.mvV c = q) (hF : Rt.mvF c = ff) (hK : Rt.mvK c = kk) (hv : q % 3 < 2) : Rt.moveR S cap c s = Rt.fwdRun S cap (kk : Int) (ff : Int) (s.m.frames.length : Int) (ff + 1) s 0 := by
  unfold Rt.moveR
  rw [hV, hF, hK, if_pos hv]
theorem Rt.moveR_b {S : Rt.Src} {cap c : Int} {q kk ff : Nat} (s : Rt.Se) (hV : Rt.mvV c = q) (hF : Rt.mvF c = ff) (hK : Rt.mvK c = kk) (hv : ¬ q % 3 < 2) : Rt.moveR S cap c s = Rt.backRun (kk : Int) (ff : Int) (s.m.frames.length : Int) (ff + 1) s 0 := by
  unfold Rt.moveR
  rw [hV, hF, hK, if_neg hv]
set_option maxHeartbeats 1000000 in
theorem move_gen (w : World) (P B : Nat) (S : Rt.Src) (cap : Int) (s : Rt.Se) (X : McX) (jv : Value) (h : SesS w P B S cap s X jv) (c : Int) (h1 : -9223372036854775808 ≤ c) (h2 : c ≤ 9223372036854775807)
    (hf : ∀ (W : World) (kind : Int) (fuel : Nat), SesS W P B S cap s X jv → 0 ≤ kind ∧ kind ≤ 3 → fuel ≤ 1000 → Calls Tryz.prog 16 #[.pointer (some ⟨P, 0, none⟩), .int .i64 kind, .int .i64 fuel] W (FwdP P B S cap X jv (Rt.fwdRun S cap kind fuel s.m.frames.length (fuel + 1) s 0) W))
    (hb : ∀ (W : World) (kind : Int) (fuel : Nat), SesS W P B S cap s X jv → 0 ≤ kind ∧ kind ≤ 3 → fuel ≤ 1000 → Calls Tryz.prog 24 #[.pointer (some ⟨P, 0, none⟩), .int .i64 kind, .int .i64 fuel] W (FwdP P B S cap X jv (Rt.backRun kind fuel s.m.frames.length (fuel + 1) s 0) W)) :
    Calls Tryz.prog 28 #[.pointer (some ⟨P, 0, none⟩), .int .i64 c] w (FwdP P B S cap X jv (Rt.moveR S cap c s) w) := by
  have hp := pick_range2 c 1099511627776 (by omega)
  have HC := hide (fun W => pick_any W c 1099511627776 h1 h2 (by omega) (by omega))
  obtain ⟨q, hq⟩ := Int.eq_ofNat_of_zero_le hp.1
  obtain ⟨a, ha⟩ : ∃ a, a = q / 3 := ⟨_, rfl⟩
  obtain ⟨kk, hkk⟩ : ∃ b', b' = a % 4 := ⟨_, rfl⟩
  obtain ⟨b, hbE⟩ : ∃ b, b = q / 12 := ⟨_, rfl⟩
  obtain ⟨ff, hff⟩ : ∃ b', b' = b % 60 := ⟨_, rfl⟩
  have hV : Rt.mvV c = q := by unfold Rt.mvV; rw [hq]; rfl
  have hF : Rt.mvF c = ff := by unfold Rt.mvF; rw [hV, hff, hbE]
  have hK : Rt.mvK c = kk := by unfold Rt.mvK; rw [hV, hkk, ha]
  have HV := hide (And.intro hV (And.intro hF hK))
  clear hV hF hK
  rw [hq] at HC hp
  have hvI : (q : Int) % 3 < 2 ↔ q % 3 < 2 := by omega
  have hkb : 0 ≤ (kk : Int) ∧ (kk : Int) ≤ 3 := by omega
  have hfb : ff ≤ 1000 := by omega
  have d2 := hide (show (a : Int) % 4 = (kk : Int) by omega)
  have d4 := hide (show (b : Int) % 60 = (ff : Int) by omega)
  have d1 : wrap64 ((q : Int) / 3) = (a : Int) := by rw [IntWalk.wrap64_in _ (by omega)]; omega
  have D1 := hide d1
  clear d1
  have d3 : wrap64 ((q : Int) / 12) = (b : Int) := by rw [IntWalk.wrap64_in _ (by omega)]; omega
  have d1 := unhide D1
  have hbZ := (Below.refl w.heap.size w).alloc (Nat.le_refl _) (.cells #[.int .i64 0, .int .i64 0, .int .i64 0, .int .i64 0, .int .i64 0, .int .i64 0] 36)
  have HZ := hide (And.intro (SAft.start h hbZ) (heap_alloc_new w (.cells #[.int .i64 0, .int .i64 0, .int .i64 0, .int .i64 0, .int .i64 0, .int .i64 0] 36)))
  by_cases hv : q % 3 < 2
  · have hv' : (q : Int) % 3 < 2 := hvI.2 hv
    have HR := hide (Rt.moveR_f (S := S) (cap := cap) s (unhide HV).1 (unhide HV).2.1 (unhide HV).2.2 hv)
    have HG := hide (hf _ (kk : Int) ff (h.later hbZ) hkb hfb)
    clear hvI hkb hfb h1 h2 hp hq ha hbE hkk hff HV hv h hf hb hbZ
    go_enter Tryz.func28, Tryz.ntmps28
    go_wp2_with fail
    refine (unhide HC _).mono ?_
    rintro e w1 ⟨rfl, rfl⟩
    go_wp2_with fail
    rw [unhide d2, unhide d4]
    refine (unhide HG).mono ?_
    rw [← unhide HR]
    rintro e w2 ⟨X', jv', rfl, hA⟩
    rcases hres : Rt.moveR S cap c s with ⟨s', k', r'⟩
    rw [hres] at hA
    have bR := SAft.keeps (unhide HZ).1.ses hA (unhide HZ).2 (by have := (unhide HZ).1.lt; omega) (by unfold OutTy PTy; decide)
    have hA2 := (unhide HZ).1.trans hA
    obtain ⟨y0, y1, y2, y3, y4, y5, z⟩ := six_any bR
    have HF := hide (fun a b c x y q => SAft.six hA2 bR (Nat.le_refl _) (by unfold OutTy PTy; decide) a b c x y q)
    have HRES := hide hres
    clear hA hA2 bR HG HR HZ hres
    dsimp only
    unfold replyA
    go_wp2_with fail
    refine bodyPost_ret (v := .tuple #[.agg (replyA r' k' s'), .int .i64 0]) ?_ rfl ⟨X', jv', by rw [unhide HRES], by rw [unhide HRES]; exact unhide HF _ _ _ _ _ _⟩
    simp [results, Tryz.results28, go_sem, y0, y1, y2, y3, y4, y5, replyA]
  · have hv' : ¬ (q : Int) % 3 < 2 := fun h => hv (hvI.1 h)
    have HR := hide (Rt.moveR_b (S := S) (cap := cap) s (unhide HV).1 (unhide HV).2.1 (unhide HV).2.2 hv)
    have HG := hide (hb _ (kk : Int) ff (h.later hbZ) hkb hfb)
    clear hvI hkb hfb h1 h2 hp hq ha hbE hkk hff HV hv h hf hb hbZ
    go_enter Tryz.func28, Tryz.ntmps28
    go_wp2_with fail
    refine (unhide HC _).mono ?_
    rintro e w1 ⟨rfl, rfl⟩
    go_wp2_with fail
    rw [unhide d2, unhide d4]
    refine (unhide HG).mono ?_
    rw [← unhide HR]
    rintro e w2 ⟨X', jv', rfl, hA⟩
    rcases hres : Rt.moveR S cap c s with ⟨s', k', r'⟩
    rw [hres] at hA
    have bR := SAft.keeps (unhide HZ).1.ses hA (unhide HZ).2 (by have := (unhide HZ).1.lt; omega) (by unfold OutTy PTy; decide)
    have hA2 := (unhide HZ).1.trans hA
    obtain ⟨y0, y1, y2, y3, y4, y5, z⟩ := six_any bR
    have HF := hide (fun a b c x y q => SAft.six hA2 bR (Nat.le_refl _) (by unfold OutTy PTy; decide) a b c x y q)
    have HRES := hide hres
    clear hA hA2 bR HG HR HZ hres
    dsimp only
    unfold replyA
    go_wp2_with fail
    refine bodyPost_ret (v := .tuple #[.agg (replyA r' k' s'), .int .i64 0]) ?_ rfl ⟨X', jv', by rw [unhide HRES], by rw [unhide HRES]; exact unhide HF _ _ _ _ _ _⟩
    simp [results, Tryz.results28, go_sem, y0, y1, y2, y3, y4, y5, replyA]
theorem move_any (w : World) (P B : Nat) (S : Rt.Src) (cap : Int) (n low : Nat) (mk : List Bool) (X : McX) (jv : Value) (h : SesS w P B S cap (Rt.seAt S n low mk) X jv) (hS : Plc S) (hc : 0 ≤ cap ∧ cap ≤ 500) (hk : Rt.SeOk S cap n low) (hn : n + 60 ≤ 4611686018427386000) (hmk : mk.length = 101) (c : Int) (h1 : -9223372036854775808 ≤ c) (h2 : c ≤ 9223372036854775807) :
    Calls Tryz.prog 28 #[.pointer (some ⟨P, 0, none⟩), .int .i64 c] w (FwdP P B S cap X jv (Rt.seAt S (Rt.moveN S mk low c n).1 (Rt.moveLow S cap mk low c n) mk, (Rt.moveN S mk low c n).2) w) := by
  rw [← (Rt.moveR_at hc.1 hS.input mk c n low hk (by omega)).1]
  exact move_gen w P B S cap _ X jv h c h1 h2
    (fun W kind fuel hW hkd hfu => forward_any W P B S cap (Rt.seAt S n low mk) X jv hW hS.good hS.call hc (hS.keepS hk mk hmk) kind fuel hkd hfu)
    (fun W kind fuel hW hkd hfu => backward_any W P B S cap n low mk (Rt.seAt S n low mk) X jv hW hS hc.2 ⟨n, rfl, hk, Nat.le_refl _⟩ (by omega) hmk kind fuel hkd hfu)
end Go.Proofs.YtbpajiljfppjcaaGreatDoor

namespace Go.Proofs.YtbpajiljfppjcaaGreatDoor
open Go.RowKit
attribute [local go_sem ↓] Go.wp_at_zero Go.wp_at_succ

namespace Rt
/-- The reason of a single step. -/
def stepWhy (S : Src) (n : Nat) : Int := if (atM S n).fin = 0 then 1 else 3
theorem ends_one (S : Src) (mk : List Bool) (d0 : Int) (n : Nat) : endsN S mk 0 1 d0 n 1 = stepWhy S n := by
  unfold endsN fwdEnds stepWhy arrivedI reachedB
  have e : (seAt S n 0 mk).m = atM S n := rfl
  rw [e]
  by_cases hz : (atM S n).fin = 0
  · rw [if_neg (not_not_intro hz), if_pos hz]; simp
  · rw [if_pos hz, if_neg hz]
theorem ends_none (S : Src) (mk : List Bool) (d0 : Int) (n : Nat) : endsN S mk 0 1 d0 n 0 = if (atM S n).fin = 0 then 0 else 3 := by
  unfold endsN fwdEnds arrivedI
  have e : (seAt S n 0 mk).m = atM S n := rfl
  rw [e]
  by_cases hz : (atM S n).fin = 0
  · rw [if_neg (not_not_intro hz), if_pos hz]; simp
  · rw [if_pos hz, if_neg hz]
theorem stepWhy_ne (S : Src) (n : Nat) : ¬ stepWhy S n = 0 := by
  unfold stepWhy
  split <;> omega
theorem fwd_one {S : Src} {n : Nat} (hz : (atM S n).fin = 0) (mk : List Bool) (d0 : Int) : fwdN S mk 0 1 d0 2 n 0 = (n + 1, 1, stepWhy S (n + 1)) := by
  rw [fwdN, ends_none, if_pos hz, if_pos rfl, fwdN, ends_one, if_neg (stepWhy_ne S _)]
theorem fwd_ended {S : Src} {n : Nat} (hz : ¬ (atM S n).fin = 0) (mk : List Bool) (d0 : Int) : fwdN S mk 0 1 d0 2 n 0 = (n, 0, 3) := by
  rw [fwdN, ends_none, if_neg hz, if_neg (by omega)]
theorem bends_one (S : Src) (mk : List Bool) (low : Nat) (d0 : Int) (n : Nat) : bendsN S mk low 0 1 d0 n 1 = 1 := by
  unfold bendsN backEnds arrivedI reachedB
  simp
theorem bends_none (S : Src) (mk : List Bool) (low : Nat) (d0 : Int) (n : Nat) : bendsN S mk low 0 1 d0 n 0 = if n = 0 then 5 else if n = low then 6 else 0 := by
  unfold bendsN backEnds arrivedI
  have e1 : (seAt S n low mk).idx = (n : Int) := rfl
  have e2 : (seAt S n low mk).low = (low : Int) := rfl
  rw [e1, e2]
  by_cases h0 : n = 0
  · rw [if_pos h0, h0]; simp
  · rw [if_neg h0]
    by_cases h1 : n = low
    · rw [if_pos h1, h1]
      have : ¬ low = 0 := by omega
      simp [this]
    · rw [if_neg h1]
      have g1 : ¬ (n : Int) = (low : Int) := by omega
      simp [h0, g1]
theorem back_one {S : Src} {low n : Nat} (h0 : n ≠ 0) (h1 : n ≠ low) (mk : List Bool) (d0 : Int) : backN S mk low 0 1 d0 2 n 0 = (n - 1, 1, 1) := by
  rw [backN, bends_none, if_neg h0, if_neg h1, if_pos rfl, backN, bends_one, if_neg (by omega)]
theorem back_start {S : Src} {low : Nat} (mk : List Bool) (d0 : Int) : backN S mk low 0 1 d0 2 0 0 = (0, 0, 5) := by
  rw [backN, bends_none, if_pos rfl, if_neg (by omega)]
theorem back_horizon {S : Src} {low n : Nat} (h0 : n ≠ 0) (h1 : n = low) (mk : List Bool) (d0 : Int) : backN S mk low 0 1 d0 2 n 0 = (n, 0, 6) := by
  rw [backN, bends_none, if_neg h0, if_pos h1, if_neg (by omega)]
end Rt
/-- A reply at a place. -/
def replyN (S : Rt.Src) (rs : Int) (k n : Nat) : Array Value := #[.int .i64 rs, .int .i64 (k : Int), .int .i64 (Rt.atM S n).fin, .int .i64 (Rt.atM S n).line, .int .i64 ((Rt.atM S n).frames.length : Int), .int .i64 (n : Int)]
theorem replyN_eq (S : Rt.Src) (rs : Int) (k n low : Nat) (mk : List Bool) : replyA rs k (Rt.seAt S n low mk) = replyN S rs k n := rfl
/-- A session at a place of the run. -/
structure Sess (w : World) (P B : Nat) (S : Rt.Src) (cap : Int) (n low : Nat) (mk : List Bool) (X : McX) (jv : Value) : Prop where
  ses : SesS w P B S cap (Rt.seAt S n low mk) X jv
  ok : Rt.SeOk S cap n low
/-- What does not change. -/
structure Cst (S : Rt.Src) (cap : Int) (mk : List Bool) : Prop where
  plc : Plc S
  lo : 5 ≤ cap
  hi : cap ≤ 500
  mks : mk.length = 101
/-- What a move says that ends at a place. -/
def MvP (P B : Nat) (S : Rt.Src) (cap : Int) (mk : List Bool) (X : McX) (jv : Value) (n' low' k : Nat) (rs : Int) (w : World) (e : Ending) (w' : World) : Prop :=
  e = .returned (.tuple #[.agg (replyN S rs k n'), .int .i64 0]) ∧ ∃ X' jv', SAft P B S cap X X' jv jv' (Rt.seAt S n' low' mk) w w' ∧ Rt.SeOk S cap n' low'
section
variable {w : World} {P B : Nat} {S : Rt.Src} {cap : Int} {n low : Nat} {mk : List Bool} {X : McX} {jv : Value}
theorem Sess.later {w' : World} (h : Sess w P B S cap n low mk X jv) (hb : Below w.heap.size w w') : Sess w' P B S cap n low mk X jv := ⟨h.ses.later hb, h.ok⟩
theorem Sess.held (h : Sess w P B S cap n low mk X jv) : Calls Tryz.prog 29 #[.pointer (some ⟨P, 0, none⟩)] w fun e w' => e = .returned (.tuple #[.int .i64 (low : Int), .int .i64 ((Rt.recsOf S low (n - low)).length : Int)]) ∧ w' = w := held_any w P B S cap _ X jv h.ses
theorem Sess.whereS (h : Sess w P B S cap n low mk X jv) : Calls Tryz.prog 48 #[.pointer (some ⟨P, 0, none⟩)] w fun e w' => e = .returned (.agg (replyN S 0 0 n)) ∧ Below w.heap.size w w' := where_any w P B S cap _ X jv h.ses
theorem Sess.moves (h : Sess w P B S cap n low mk X jv) (hc : Cst S cap mk) (hn : n + 60 ≤ 4611686018427386000) (c : Int) (h1 : -9223372036854775808 ≤ c ∧ c ≤ 9223372036854775807) :
    Calls Tryz.prog 28 #[.pointer (some ⟨P, 0, none⟩), .int .i64 c] w (MvP P B S cap mk X jv (Rt.moveN S mk low c n).1 (Rt.moveLow S cap mk low c n) (Rt.moveN S mk low c n).2.1 (Rt.moveN S mk low c n).2.2 w) := by
  refine (move_any w P B S cap n low mk X jv h.ses hc.plc ⟨by have := hc.lo; omega, hc.hi⟩ h.ok hn hc.mks c h1.1 h1.2).mono ?_
  rintro e w' ⟨X', jv', he, hA⟩
  exact ⟨he, X', jv', hA, (Rt.moveR_at (by have := hc.lo; omega) hc.plc.input mk c n low h.ok (by omega)).2.1⟩
theorem Sess.fwd (h : Sess w P B S cap n low mk X jv) (hc : Cst S cap mk) (kind : Int) (fuel : Nat) (hkd : 0 ≤ kind ∧ kind ≤ 3) (hfu : fuel ≤ 1000) (hn : n + 1001 ≤ 4611686018427386000) :
    Calls Tryz.prog 16 #[.pointer (some ⟨P, 0, none⟩), .int .i64 kind, .int .i64 fuel] w (MvP P B S cap mk X jv (Rt.fwdN S mk kind fuel (Rt.atM S n).frames.length (fuel + 1) n 0).1 (Rt.lowJ S cap ((Rt.fwdN S mk kind fuel (Rt.atM S n).frames.length (fuel + 1) n 0).1 - n) n low) (Rt.fwdN S mk kind fuel (Rt.atM S n).frames.length (fuel + 1) n 0).2.1 (Rt.fwdN S mk kind fuel (Rt.atM S n).frames.length (fuel + 1) n 0).2.2 w) := by
  have hc0 : 0 ≤ cap := by have := hc.lo; omega
  obtain ⟨h1, h2, _⟩ := Rt.fwdRun_at hc0 mk kind fuel (Rt.atM S n).frames.length (fuel + 1) n 0 low h.ok (by omega)
  refine (forward_any w P B S cap (Rt.seAt S n low mk) X jv h.ses hc.plc.good hc.plc.call ⟨hc0, hc.hi⟩ (hc.plc.keepS h.ok mk hc.mks) kind fuel hkd hfu).mono ?_
  rintro e w' ⟨X', jv', he, hA⟩
  rw [show ((Rt.seAt S n low mk).m.frames.length : Int) = ((Rt.atM S n).frames.length : Int) from rfl, h1] at he hA
  exact ⟨he, X', jv', hA, h2⟩
theorem Sess.bwd (h : Sess w P B S cap n low mk X jv) (hc : Cst S cap mk) (kind : Int) (fuel : Nat) (hkd : 0 ≤ kind ∧ kind ≤ 3) (hfu : fuel ≤ 1000) (hn : n + 1001 ≤ 4611686018427386000) :
    Calls Tryz.prog 24 #[.pointer (some ⟨P, 0, none⟩), .int .i64 kind, .int .i64 fuel] w (MvP P B S cap mk X jv (Rt.backN S mk low kind fuel (Rt.atM S n).frames.length (fuel + 1) n 0).1 low (Rt.backN S mk low kind fuel (Rt.atM S n).frames.length (fuel + 1) n 0).2.1 (Rt.backN S mk low kind fuel (Rt.atM S n).frames.length (fuel + 1) n 0).2.2 w) := by
  obtain ⟨h1, h2, _⟩ := Rt.backRun_at (cap := cap) hc.plc.input mk low kind fuel (Rt.atM S n).frames.length (fuel + 1) n 0 h.ok (by omega)
  refine (backward_any w P B S cap n low mk (Rt.seAt S n low mk) X jv h.ses hc.plc hc.hi ⟨n, rfl, h.ok, Nat.le_refl _⟩ (by omega) hc.mks kind fuel hkd hfu).mono ?_
  rintro e w' ⟨X', jv', he, hA⟩
  rw [show ((Rt.seAt S n low mk).m.frames.length : Int) = ((Rt.atM S n).frames.length : Int) from rfl, h1] at he hA
  exact ⟨he, X', jv', hA, h2⟩
/-- A single step. -/
theorem Sess.fwd1 (h : Sess w P B S cap n low mk X jv) (hc : Cst S cap mk) (hz : (Rt.atM S n).fin = 0) (hn : n + 1001 ≤ 4611686018427386000) :
    Calls Tryz.prog 16 #[.pointer (some ⟨P, 0, none⟩), .int .i64 0, .int .i64 1] w (MvP P B S cap mk X jv (n + 1) (Rt.lowF S cap n low) 1 (Rt.stepWhy S (n + 1)) w) := by
  have := h.fwd hc 0 1 (by omega) (by omega) hn
  have e : Rt.fwdN S mk 0 ((1 : Nat) : Int) (Rt.atM S n).frames.length (1 + 1) n 0 = (n + 1, 1, Rt.stepWhy S (n + 1)) := Rt.fwd_one hz mk _
  rw [e] at this
  simp only [show n + 1 - n = 1 by omega] at this
  exact this
theorem Sess.fwd1_ended (h : Sess w P B S cap n low mk X jv) (hc : Cst S cap mk) (hz : ¬ (Rt.atM S n).fin = 0) (hn : n + 1001 ≤ 4611686018427386000) :
    Calls Tryz.prog 16 #[.pointer (some ⟨P, 0, none⟩), .int .i64 0, .int .i64 1] w (MvP P B S cap mk X jv n low 0 3 w) := by
  have := h.fwd hc 0 1 (by omega) (by omega) hn
  have e : Rt.fwdN S mk 0 ((1 : Nat) : Int) (Rt.atM S n).frames.length (1 + 1) n 0 = (n, 0, 3) := Rt.fwd_ended hz mk _
  rw [e] at this
  simp only [Nat.sub_self] at this
  exact this
theorem Sess.bwd1 (h : Sess w P B S cap n low mk X jv) (hc : Cst S cap mk) (h0 : n ≠ 0) (h1 : n ≠ low) (hn : n + 1001 ≤ 4611686018427386000) :
    Calls Tryz.prog 24 #[.pointer (some ⟨P, 0, none⟩), .int .i64 0, .int .i64 1] w (MvP P B S cap mk X jv (n - 1) low 1 1 w) := by
  have := h.bwd hc 0 1 (by omega) (by omega) hn
  have e : Rt.backN S mk low 0 ((1 : Nat) : Int) (Rt.atM S n).frames.length (1 + 1) n 0 = (n - 1, 1, 1) := Rt.back_one h0 h1 mk _
  rw [e] at this
  exact this
theorem Sess.bwd1_start (h : Sess w P B S cap 0 low mk X jv) (hc : Cst S cap mk) :
    Calls Tryz.prog 24 #[.pointer (some ⟨P, 0, none⟩), .int .i64 0, .int .i64 1] w (MvP P B S cap mk X jv 0 low 0 5 w) := by
  have := h.bwd hc 0 1 (by omega) (by omega) (by omega)
  have e : Rt.backN S mk low 0 ((1 : Nat) : Int) (Rt.atM S 0).frames.length (1 + 1) 0 0 = (0, 0, 5) := Rt.back_start mk _
  rw [e] at this
  exact this
theorem Sess.bwd1_horizon (h : Sess w P B S cap n low mk X jv) (hc : Cst S cap mk) (h0 : n ≠ 0) (h1 : n = low) (hn : n + 1001 ≤ 4611686018427386000) :
    Calls Tryz.prog 24 #[.pointer (some ⟨P, 0, none⟩), .int .i64 0, .int .i64 1] w (MvP P B S cap mk X jv n low 0 6 w) := by
  have := h.bwd hc 0 1 (by omega) (by omega) hn
  have e : Rt.backN S mk low 0 ((1 : Nat) : Int) (Rt.atM S n).frames.length (1 + 1) n 0 = (n, 0, 6) := Rt.back_horizon h0 h1 mk _
  rw [e] at this
  exact this
end
end Go.Proofs.YtbpajiljfppjcaaGreatDoor

