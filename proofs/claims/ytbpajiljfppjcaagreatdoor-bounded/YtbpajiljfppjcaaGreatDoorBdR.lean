/- 'retracekeep.Bounded' returns true for all numbers, and they read as they did: the row. -/
import Derived.Test.YtbpajiljfppjcaaGreatDoorSsH
import Derived.Test.YtbpajiljfppjcaaGreatDoorSsD
namespace Go.Proofs.YtbpajiljfppjcaaGreatDoor
open Go.RowKit
attribute [local go_sem ↓] Go.wp_at_zero Go.wp_at_succ

namespace Rt
/-- The reason of a single step. -/
def stepWhy (S : Src) (n : Nat) : Int := if (atM S n).fin = 0 then 1 else 3
theorem ends_one (S : Src) (mk : List Bool) (d0 : Int) (n : Nat) : endsN S mk 0 1 d0 n 1 = stepWhy S n := by
  unfold endsN fwdEnds stepWhy arrivedI reachedB
  have e : (seAt S n 0 mk).m = atM S n := rfl
  rw [e]
  by_cases hz : (atM S n).fin = 0
  · rw [if_neg (not_not_intro hz), if_pos hz]; simp
  · rw [if_pos hz, if_neg hz]
theorem ends_none (S : Src) (mk : List Bool) (d0 : Int) (n : Nat) : endsN S mk 0 1 d0 n 0 = if (atM S n).fin = 0 then 0 else 3 := by
  unfold endsN fwdEnds arrivedI
  have e : (seAt S n 0 mk).m = atM S n := rfl
  rw [e]
  by_cases hz : (atM S n).fin = 0
  · rw [if_neg (not_not_intro hz), if_pos hz]; simp
  · rw [if_pos hz, if_neg hz]
theorem stepWhy_ne (S : Src) (n : Nat) : ¬ stepWhy S n = 0 := by
  unfold stepWhy
  split <;> omega
theorem fwd_one {S : Src} {n : Nat} (hz : (atM S n).fin = 0) (mk : List Bool) (d0 : Int) : fwdN S mk 0 1 d0 2 n 0 = (n + 1, 1, stepWhy S (n + 1)) := by
  rw [fwdN, ends_none, if_pos hz, if_pos rfl, fwdN, ends_one, if_neg (stepWhy_ne S _)]
theorem fwd_ended {S : Src} {n : Nat} (hz : ¬ (atM S n).fin = 0) (mk : List Bool) (d0 : Int) : fwdN S mk 0 1 d0 2 n 0 = (n, 0, 3) := by
  rw [fwdN, ends_none, if_neg hz, if_neg (by omega)]
theorem bends_one (S : Src) (mk : List Bool) (low : Nat) (d0 : Int) (n : Nat) : bendsN S mk low 0 1 d0 n 1 = 1 := by
  unfold bendsN backEnds arrivedI reachedB
  simp
theorem bends_none (S : Src) (mk : List Bool) (low : Nat) (d0 : Int) (n : Nat) : bendsN S mk low 0 1 d0 n 0 = if n = 0 then 5 else if n = low then 6 else 0 := by
  unfold bendsN backEnds arrivedI
  have e1 : (seAt S n low mk).idx = (n : Int) := rfl
  have e2 : (seAt S n low mk).low = (low : Int) := rfl
  rw [e1, e2]
  by_cases h0 : n = 0
  · rw [if_pos h0, h0]; simp
  · rw [if_neg h0]
    by_cases h1 : n = low
    · rw [if_pos h1, h1]
      have : ¬ low = 0 := by omega
      simp [this]
    · rw [if_neg h1]
      have g1 : ¬ (n : Int) = (low : Int) := by omega
      simp [h0, g1]
theorem back_one {S : Src} {low n : Nat} (h0 : n ≠ 0) (h1 : n ≠ low) (mk : List Bool) (d0 : Int) : backN S mk low 0 1 d0 2 n 0 = (n - 1, 1, 1) := by
  rw [backN, bends_none, if_neg h0, if_neg h1, if_pos rfl, backN, bends_one, if_neg (by omega)]
theorem back_start {S : Src} {low : Nat} (mk : List Bool) (d0 : Int) : backN S mk low 0 1 d0 2 0 0 = (0, 0, 5) := by
  rw [backN, bends_none, if_pos rfl, if_neg (by omega)]
theorem back_horizon {S : Src} {low n : Nat} (h0 : n ≠ 0) (h1 : n = low) (mk : List Bool) (d0 : Int) : backN S mk low 0 1 d0 2 n 0 = (n, 0, 6) := by
  rw [backN, bends_none, if_neg h0, if_pos h1, if_neg (by omega)]
end Rt
/-- A reply at a place. -/
def replyN (S : Rt.Src) (rs : Int) (k n : Nat) : Array Value := #[.int .i64 rs, .int .i64 (k : Int), .int .i64 (Rt.atM S n).fin, .int .i64 (Rt.atM S n).line, .int .i64 ((Rt.atM S n).frames.length : Int), .int .i64 (n : Int)]
theorem replyN_eq (S : Rt.Src) (rs : Int) (k n low : Nat) (mk : List Bool) : replyA rs k (Rt.seAt S n low mk) = replyN S rs k n := rfl
/-- A session at a place of the run. -/
structure Sess (w : World) (P B : Nat) (S : Rt.Src) (cap : Int) (n low : Nat) (mk : List Bool) (X : McX) (jv : Value) : Prop where
  ses : SesS w P B S cap (Rt.seAt S n low mk) X jv
  ok : Rt.SeOk S cap n low
/-- What does not change. -/
structure Cst (S : Rt.Src) (cap : Int) (mk : List Bool) : Prop where
  plc : Plc S
  lo : 5 ≤ cap
  hi : cap ≤ 500
  mks : mk.length = 101
/-- What a move says that ends at a place. -/
def MvP (P B : Nat) (S : Rt.Src) (cap : Int) (mk : List Bool) (X : McX) (jv : Value) (n' low' k : Nat) (rs : Int) (w : World) (e : Ending) (w' : World) : Prop :=
  e = .returned (.tuple #[.agg (replyN S rs k n'), .int .i64 0]) ∧ ∃ X' jv', SAft P B S cap X X' jv jv' (Rt.seAt S n' low' mk) w w' ∧ Rt.SeOk S cap n' low'
section
variable {w : World} {P B : Nat} {S : Rt.Src} {cap : Int} {n low : Nat} {mk : List Bool} {X : McX} {jv : Value}
theorem Sess.later {w' : World} (h : Sess w P B S cap n low mk X jv) (hb : Below w.heap.size w w') : Sess w' P B S cap n low mk X jv := ⟨h.ses.later hb, h.ok⟩
theorem Sess.held (h : Sess w P B S cap n low mk X jv) : Calls Tryz.prog 29 #[.pointer (some ⟨P, 0, none⟩)] w fun e w' => e = .returned (.tuple #[.int .i64 (low : Int), .int .i64 ((Rt.recsOf S low (n - low)).length : Int)]) ∧ w' = w := held_any w P B S cap _ X jv h.ses
theorem Sess.whereS (h : Sess w P B S cap n low mk X jv) : Calls Tryz.prog 48 #[.pointer (some ⟨P, 0, none⟩)] w fun e w' => e = .returned (.agg (replyN S 0 0 n)) ∧ Below w.heap.size w w' := where_any w P B S cap _ X jv h.ses
theorem Sess.moves (h : Sess w P B S cap n low mk X jv) (hc : Cst S cap mk) (hn : n + 60 ≤ 4611686018427386000) (c : Int) (h1 : -9223372036854775808 ≤ c ∧ c ≤ 9223372036854775807) :
    Calls Tryz.prog 28 #[.pointer (some ⟨P, 0, none⟩), .int .i64 c] w (MvP P B S cap mk X jv (Rt.moveN S mk low c n).1 (Rt.moveLow S cap mk low c n) (Rt.moveN S mk low c n).2.1 (Rt.moveN S mk low c n).2.2 w) := by
  refine (move_any w P B S cap n low mk X jv h.ses hc.plc ⟨by have := hc.lo; omega, hc.hi⟩ h.ok hn hc.mks c h1.1 h1.2).mono ?_
  rintro e w' ⟨X', jv', he, hA⟩
  exact ⟨he, X', jv', hA, (Rt.moveR_at (by have := hc.lo; omega) hc.plc.input mk c n low h.ok (by omega)).2.1⟩
theorem Sess.fwd (h : Sess w P B S cap n low mk X jv) (hc : Cst S cap mk) (kind : Int) (fuel : Nat) (hkd : 0 ≤ kind ∧ kind ≤ 3) (hfu : fuel ≤ 1000) (hn : n + 1001 ≤ 4611686018427386000) :
    Calls Tryz.prog 16 #[.pointer (some ⟨P, 0, none⟩), .int .i64 kind, .int .i64 fuel] w (MvP P B S cap mk X jv (Rt.fwdN S mk kind fuel (Rt.atM S n).frames.length (fuel + 1) n 0).1 (Rt.lowJ S cap ((Rt.fwdN S mk kind fuel (Rt.atM S n).frames.length (fuel + 1) n 0).1 - n) n low) (Rt.fwdN S mk kind fuel (Rt.atM S n).frames.length (fuel + 1) n 0).2.1 (Rt.fwdN S mk kind fuel (Rt.atM S n).frames.length (fuel + 1) n 0).2.2 w) := by
  have hc0 : 0 ≤ cap := by have := hc.lo; omega
  obtain ⟨h1, h2, _⟩ := Rt.fwdRun_at hc0 mk kind fuel (Rt.atM S n).frames.length (fuel + 1) n 0 low h.ok (by omega)
  refine (forward_any w P B S cap (Rt.seAt S n low mk) X jv h.ses hc.plc.good hc.plc.call ⟨hc0, hc.hi⟩ (hc.plc.keepS h.ok mk hc.mks) kind fuel hkd hfu).mono ?_
  rintro e w' ⟨X', jv', he, hA⟩
  rw [show ((Rt.seAt S n low mk).m.frames.length : Int) = ((Rt.atM S n).frames.length : Int) from rfl, h1] at he hA
  exact ⟨he, X', jv', hA, h2⟩
theorem Sess.bwd (h : Sess w P B S cap n low mk X jv) (hc : Cst S cap mk) (kind : Int) (fuel : Nat) (hkd : 0 ≤ kind ∧ kind ≤ 3) (hfu : fuel ≤ 1000) (hn : n + 1001 ≤ 4611686018427386000) :
    Calls Tryz.prog 24 #[.pointer (some ⟨P, 0, none⟩), .int .i64 kind, .int .i64 fuel] w (MvP P B S cap mk X jv (Rt.backN S mk low kind fuel (Rt.atM S n).frames.length (fuel + 1) n 0).1 low (Rt.backN S mk low kind fuel (Rt.atM S n).frames.length (fuel + 1) n 0).2.1 (Rt.backN S mk low kind fuel (Rt.atM S n).frames.length (fuel + 1) n 0).2.2 w) := by
  obtain ⟨h1, h2, _⟩ := Rt.backRun_at (cap := cap) hc.plc.input mk low kind fuel (Rt.atM S n).frames.length (fuel + 1) n 0 h.ok (by omega)
  refine (backward_any w P B S cap n low mk (Rt.seAt S n low mk) X jv h.ses hc.plc hc.hi ⟨n, rfl, h.ok, Nat.le_refl _⟩ (by omega) hc.mks kind fuel hkd hfu).mono ?_
  rintro e w' ⟨X', jv', he, hA⟩
  rw [show ((Rt.seAt S n low mk).m.frames.length : Int) = ((Rt.atM S n).frames.length : Int) from rfl, h1] at he hA
  exact ⟨he, X', jv', hA, h2⟩
/-- A single step. -/
theorem Sess.fwd1 (h : Sess w P B S cap n low mk X jv) (hc : Cst S cap mk) (hz : (Rt.atM S n).fin = 0) (hn : n + 1001 ≤ 4611686018427386000) :
    Calls Tryz.prog 16 #[.pointer (some ⟨P, 0, none⟩), .int .i64 0, .int .i64 1] w (MvP P B S cap mk X jv (n + 1) (Rt.lowF S cap n low) 1 (Rt.stepWhy S (n + 1)) w) := by
  have := h.fwd hc 0 1 (by omega) (by omega) hn
  have e : Rt.fwdN S mk 0 ((1 : Nat) : Int) (Rt.atM S n).frames.length (1 + 1) n 0 = (n + 1, 1, Rt.stepWhy S (n + 1)) := Rt.fwd_one hz mk _
  rw [e] at this
  simp only [show n + 1 - n = 1 by omega] at this
  exact this
theorem Sess.fwd1_ended (h : Sess w P B S cap n low mk X jv) (hc : Cst S cap mk) (hz : ¬ (Rt.atM S n).fin = 0) (hn : n + 1001 ≤ 4611686018427386000) :
    Calls Tryz.prog 16 #[.pointer (some ⟨P, 0, none⟩), .int .i64 0, .int .i64 1] w (MvP P B S cap mk X jv n low 0 3 w) := by
  have := h.fwd hc 0 1 (by omega) (by omega) hn
  have e : Rt.fwdN S mk 0 ((1 : Nat) : Int) (Rt.atM S n).frames.length (1 + 1) n 0 = (n, 0, 3) := Rt.fwd_ended hz mk _
  rw [e] at this
  simp only [Nat.sub_self] at this
  exact this
theorem Sess.bwd1 (h : Sess w P B S cap n low mk X jv) (hc : Cst S cap mk) (h0 : n ≠ 0) (h1 : n ≠ low) (hn : n + 1001 ≤ 4611686018427386000) :
    Calls Tryz.prog 24 #[.pointer (some ⟨P, 0, none⟩), .int .i64 0, .int .i64 1] w (MvP P B S cap mk X jv (n - 1) low 1 1 w) := by
  have := h.bwd hc 0 1 (by omega) (by omega) hn
  have e : Rt.backN S mk low 0 ((1 : Nat) : Int) (Rt.atM S n).frames.length (1 + 1) n 0 = (n - 1, 1, 1) := Rt.back_one h0 h1 mk _
  rw [e] at this
  exact this
theorem Sess.bwd1_start (h : Sess w P B S cap 0 low mk X jv) (hc : Cst S cap mk) :
    Calls Tryz.prog 24 #[.pointer (some ⟨P, 0, none⟩), .int .i64 0, .int .i64 1] w (MvP P B S cap mk X jv 0 low 0 5 w) := by
  have := h.bwd hc 0 1 (by omega) (by omega) (by omega)
  have e : Rt.backN S mk low 0 ((1 : Nat) : Int) (Rt.atM S 0).frames.length (1 + 1) 0 0 = (0, 0, 5) := Rt.back_start mk _
  rw [e] at this
  exact this
theorem Sess.bwd1_horizon (h : Sess w P B S cap n low mk X jv) (hc : Cst S cap mk) (h0 : n ≠ 0) (h1 : n = low) (hn : n + 1001 ≤ 4611686018427386000) :
    Calls Tryz.prog 24 #[.pointer (some ⟨P, 0, none⟩), .int .i64 0, .int .i64 1] w (MvP P B S cap mk X jv n low 0 6 w) := by
  have := h.bwd hc 0 1 (by omega) (by omega) hn
  have e : Rt.backN S mk low 0 ((1 : Nat) : Int) (Rt.atM S n).frames.length (1 + 1) n 0 = (n, 0, 6) := Rt.back_horizon h0 h1 mk _
  rw [e] at this
  exact this
end
end Go.Proofs.YtbpajiljfppjcaaGreatDoor

namespace Go.Proofs.YtbpajiljfppjcaaGreatDoor
open Go.RowKit
attribute [local go_sem ↓] Go.wp_at_zero Go.wp_at_succ

theorem cellb2_lt {w : World} {b o : Nat} {v : Value} (h : w.cell? ⟨b, o, none⟩ = some v) : b < w.heap.size := by
  unfold World.cell? at h
  split at h
  · rename_i hb; exact (Array.getElem?_eq_some_iff.1 hb).1
  · cases h
def mk0 : List Bool := List.replicate 101 false
theorem plc_of {s : ByteArray} {pls : List Rt.PL} {inp : List Int} (hR : Rt.readS s = (0, 0, pls)) (hl : inp.length ≤ 100) : Plc (srcOf s pls inp) := ⟨good_of hR hl, call4_of hR, first_keepG (good_of hR hl)⟩
theorem begun_at (s : ByteArray) (iv : Value) (inp : List Int) (cap : Int) (w : World) (pls : List Rt.PL) (hs : s.size ≤ maxLen) (hi : Ints w iv inp) (hR : Rt.readS s = (0, 0, pls)) (hl : inp.length ≤ 100) (hc : 5 ≤ cap ∧ cap ≤ 500) :
    Calls Tryz.prog 15 #[.string s, iv, .int .i64 cap] w fun e w' => Below w.heap.size w w' ∧ ∃ P B X jv, e = .returned (.pointer (some ⟨P, 0, none⟩)) ∧ (∀ k ∈ ownL P X jv, w.heap.size ≤ k) ∧ Sess w' P B (srcOf s pls inp) cap 0 0 mk0 X jv := by
  refine (begun_any s iv inp cap w pls hs hi hR hl hc).mono ?_
  rintro e w' ⟨hb, P, B, X, he, hP, hX, hses⟩
  refine ⟨hb, P, B, X, .slice none 0 0, he, fun k hk => ?_, hses, ⟨fun i hi => by omega, Nat.le_refl _, ?_⟩⟩
  · rcases in_ownL hk with e | e | e
    · omega
    · exact hX k e
    · cases e
  · show ((0 : Nat) : Int) ≤ cap
    omega
theorem six_set {w : World} {b : Nat} {v0 v1 v2 v3 v4 v5 : Value} {t : TypeId} (h : w.heap[b]? = some (.cells #[v0, v1, v2, v3, v4, v5] t (0, 0))) (a0 a1 a2 a3 a4 a5 : Value) : (W6 w b a0 a1 a2 a3 a4 a5).heap[b]? = some (.cells #[a0, a1, a2, a3, a4, a5] t (0, 0)) := by
  have := set_block (set_block (set_block (set_block (set_block (set_block h 0 a0) 1 a1) 2 a2) 3 a3) 4 a4) 5 a5
  simpa using this
theorem ints_at {w : World} {N : Nat} {ad : Option Addr} {cap : Nat} {l : List Int} (h : IntsR w N (.slice ad l.length cap) l) {k : Nat} (hk : k < l.length) : ∃ b off, ad = some ⟨b, off, none⟩ ∧ b < w.heap.size ∧ w.cell? ⟨b, off + k, none⟩ = some (.int .i64 l[k]) := by
  obtain ⟨ad', cap', h1, _, _, _, h5⟩ := h
  simp at h1
  obtain ⟨rfl, rfl⟩ := h1
  rcases h5 with h5 | ⟨b, off, h6, h7, h8, h9⟩
  · rw [h5] at hk; simp at hk
  · exact ⟨b, off, h6, cellb2_lt (h9 k hk), h9 k hk⟩
theorem ints_in {w : World} {N : Nat} {v : Value} {l : List Int} (h : IntsR w N v l) {k : Nat} (hk : k < l.length) : -9223372036854775808 ≤ l[k] ∧ l[k] ≤ 9223372036854775807 := by
  obtain ⟨ad', cap', _, _, _, h4, _⟩ := h
  exact h4 _ (List.getElem_mem hk)
theorem first_fin (S : Rt.Src) : (Rt.atM S 0).fin = 0 := rfl
set_option maxHeartbeats 4000000 in
set_option maxRecDepth 100000 in
theorem Bounded_any (w : World) (cv iv mv : Value) (code input moves : List Int) (cp : Int) (hc : IntsR w w.heap.size cv code) (hi : IntsR w w.heap.size iv input) (hm : IntsR w w.heap.size mv moves) (hcp : -9223372036854775808 ≤ cp ∧ cp ≤ 9223372036854775807) (hml : moves.length ≤ 70368744177664) :
    Calls Tryz.prog 7 #[cv, iv, .int .i64 cp, mv] w fun e w' => e = .returned (.bool true) ∧ Below w.heap.size w w' := by
  obtain ⟨pls, r1, r2, r3, r4, r5, r6⟩ := Rt.made_all code
  have hl100 : (input.take 100).length ≤ 100 := by simp; omega
  have cform : ∃ ad cap, cv = .slice ad code.length cap := by obtain ⟨ad, cap, h, _⟩ := hc; exact ⟨ad, cap, h⟩
  have iform : ∃ ad cap, iv = .slice ad input.length cap := by obtain ⟨ad, cap, h, _⟩ := hi; exact ⟨ad, cap, h⟩
  have mform : ∃ ad cap, mv = .slice ad moves.length cap := by obtain ⟨ad, cap, h, _⟩ := hm; exact ⟨ad, cap, h⟩
  obtain ⟨cad, ccap, rfl⟩ := cform
  obtain ⟨iad, icap, rfl⟩ := iform
  obtain ⟨mad, mcap, rfl⟩ := mform
  have hcap := pick_range2 cp 496 (by omega)
  have HRM := hide (room_any w cp hcp.1 hcp.2)
  obtain ⟨cap, hcapE⟩ : ∃ c, c = 5 + Rt.pickP cp 496 := ⟨_, rfl⟩
  rw [← hcapE] at HRM
  have hcap5 : 5 ≤ cap ∧ cap ≤ 500 := by omega
  clear hcapE hcap
  have HH := hide (And.intro hc (And.intro hi (And.intro hm (And.intro r1 (plc_of (inp := input.take 100) r1 hl100)))))
  clear hc hi hm r1 r2 r3 r4 hcp
  go_enter Tryz.func7, Tryz.ntmps7
  go_wp2_with fail
  refine (unhide HRM).mono ?_
  rintro e w0 ⟨rfl, rfl⟩
  go_wp2_with fail
  refine (source_any _ _ code (unhide HH).1).mono ?_
  rintro e w1 ⟨rfl, hb1⟩
  generalize Rt.srcB code = text at *
  have HB1 := hide hb1
  clear hb1
  go_wp2_with fail
  refine (fed_any w1 w1.heap.size _ input (IntsR.keeps (unhide HH).2.1 (unhide HB1))).mono ?_
  rintro e w2 ⟨hb2, u2, rfl, hu2⟩
  have hui2 := row_ints hu2 rfl
  obtain ⟨uad2, ucap2, rfl⟩ := ownsRow_form hu2
  have HB2 := hide ((unhide HB1).trans (hb2.mono (unhide HB1).size))
  have HN := hide (begun_at text _ (input.take 100) cap w2 pls (by unfold maxLen; omega) hui2 (unhide HH).2.2.2.1 hl100 hcap5)
  obtain ⟨S, hSE⟩ : ∃ S, S = srcOf text pls (input.take 100) := ⟨_, rfl⟩
  rw [← hSE] at HN
  have HCs := hide (show Cst S cap mk0 from ⟨by rw [hSE]; exact (unhide HH).2.2.2.2, hcap5.1, hcap5.2, by simp [mk0]⟩)
  clear hb2 hu2 hui2 HB1 hSE
  generalize (input.take 100).length = il at *
  go_wp2_with fail
  refine (unhide HN).mono ?_
  rintro e w3 ⟨hb3, P, B, X, jv, rfl, hown, hses⟩
  have HS := hide (And.intro ((unhide HB2).trans (hb3.mono (unhide HB2).size)) (And.intro (fun k hk => Nat.le_trans (unhide HB2).size (hown k hk)) hses))
  clear hb3 hown hses HN HB2 HRM
  go_wp2_with fail
  refine ((unhide HS).2.2.fwd1 (unhide HCs) (first_fin S) (by omega)).mono ?_
  rintro e w4 ⟨rfl, X1, jv1, hA4, hk4⟩
  unfold replyN
  generalize Rt.stepWhy S (0 + 1) = rs1 at *
  generalize (Rt.atM S (0 + 1)).fin = f1 at *
  generalize (Rt.atM S (0 + 1)).line = l1 at *
  generalize ((Rt.atM S (0 + 1)).frames.length : Int) = d1 at *
  have HA4 := hide (And.intro hA4 hk4)
  clear hA4 hk4
  go_wp2_with fail
  obtain ⟨R, hR⟩ : ∃ R, R = w4.heap.size := ⟨_, rfl⟩
  have hbA := (Below.refl w4.heap.size w4).alloc (Nat.le_refl _) (.cells #[.int .i64 rs1, .int .i64 1, .int .i64 f1, .int .i64 l1, .int .i64 d1, .int .i64 1] 36)
  have HA := hide (And.intro ((unhide HA4).1.below hbA) (And.intro (heap_alloc_new w4 (.cells #[.int .i64 rs1, .int .i64 1, .int .i64 f1, .int .i64 l1, .int .i64 d1, .int .i64 1] 36)) (And.intro (unhide HA4).2 (unhide HA4).1.frm.size)))
  clear hbA HA4
  rw [← hR] at HA ⊢
  revert HA
  generalize w4.alloc (.cells #[.int .i64 rs1, .int .i64 1, .int .i64 f1, .int .i64 l1, .int .i64 d1, .int .i64 1] 36) = wA
  intro HA
  clear hR
  go_loopw [12, 13, 14, 15, 16, 17] (fun _ b i _ _ _ wr => ∃ (k n low bf : Nat) (X' : McX) (jv' : Value) (rs f l d mvd : Int), k ≤ moves.length ∧ i = .int .i64 k ∧ b = .int .i64 (bf : Int) ∧ bf ≤ low ∧ n ≤ 1 + 60 * k ∧ wr.heap[R]? = some (.cells #[.int .i64 rs, .int .i64 mvd, .int .i64 f, .int .i64 l, .int .i64 d, .int .i64 (n : Int)] 36 (0, 0)) ∧ SAft P B S cap X X' jv jv' (Rt.seAt S n low mk0) w3 wr ∧ Rt.SeOk S cap n low)
    (fun _ _ i _ _ _ _ => moves.length + 1 - (intOf i).toNat)
  case atStart => exact ⟨0, 1, Rt.lowF S cap 0 0, 0, X1, jv1, rs1, f1, l1, d1, 1, Nat.zero_le _, rfl, rfl, Nat.zero_le _, by omega, (unhide HA).2.1, (unhide HA).1, (unhide HA).2.2.1⟩
  case round =>
    obtain ⟨k, n, low, bf, X', jv', rs, f, l, d, mvd, hk, rfl, rfl, hbf, hn, bR, hA, hok⟩ := hrel
    have hRP : R ≠ P := by
      have := (unhide HA).2.2.2
      have := hA.lt
      omega
    have hw3R := (unhide HA).2.2.2
    have hlen := Rt.recsOf_len (unhide HCs).plc.call low (n - low) (fun i hi => hok.run i (by have := hok.le; omega))
    have hroom := hok.room
    have hle := hok.le
    obtain ⟨y0, y1, y2, y3, y4, y5, z⟩ := six_any bR
    have HX := hide (And.intro bR (And.intro hA hok))
    have HHd := hide ((show Sess wr P B S cap n low mk0 X' jv' from ⟨hA.ses, hok⟩).held)
    clear bR hA hok
    generalize (Rt.recsOf S low (n - low)).length = ct at *
    obtain ⟨bk, hbk⟩ : ∃ b : Nat, b = n - low := ⟨_, rfl⟩
    obtain ⟨b5, hb5⟩ : ∃ b : Nat, b = 5 * bk := ⟨_, rfl⟩
    have e1 : IntKind.i64.wrap ((n : Int) - (low : Int)) = (bk : Int) := by rw [IntWalk.i64_left, IntWalk.wrap64_in _ (by omega)]; omega
    have e2 : IntKind.i64.wrap (5 * (bk : Int)) = (b5 : Int) := by rw [IntWalk.i64_left, IntWalk.wrap64_in _ (by omega)]; omega
    have c1 : ¬ cap < (ct : Int) := by omega
    have c2 : ¬ (bk : Int) < 0 := by omega
    have c3 : ¬ (ct : Int) < (bk : Int) := by omega
    have c4 : ¬ (b5 : Int) < (ct : Int) := by omega
    have c5 : ¬ (low : Int) < (bf : Int) := by omega
    have hk' : (k : Int) ≤ (moves.length : Int) := by omega
    clear hbk hb5 hlen hroom
    by_cases hlt : k < moves.length
    · have hne : ((k : Int) == (moves.length : Int)) = false := by rw [beq_eq_false_iff_ne]; omega
      have hlt' : (k : Int) < (moves.length : Int) := by omega
      have hk0 : (0 : Int) ≤ (k : Int) := by omega
      have hBw : Below w0.heap.size w0 wr := (unhide HS).1.trans ((unhide HX).2.1.low (unhide HS).1.size (unhide HS).2.1)
      obtain ⟨mb, mo, rfl, hmb, hmc⟩ := ints_at (unhide HH).2.2.1 hlt
      have hmbR : ¬ mb = R := by have := (unhide HS).1.size; omega
      have m1 := cell_later hBw hmc
      have hraw := ints_in (unhide HH).2.2.1 hlt
      have HMv := hide ((show Sess wr P B S cap n low mk0 X' jv' from ⟨(unhide HX).2.1.ses, (unhide HX).2.2⟩).moves (unhide HCs) (by omega) moves[k] hraw)
      have HMN := hide ((Rt.moveR_at (show 0 ≤ cap by omega) (unhide HCs).plc.input mk0 moves[k] n low (unhide HX).2.2 (by omega)).2)
      have HML := hide (Rt.moveLow_ge S cap mk0 low moves[k] n)
      have HST := hide (fun W => steps_any W moves[k] hraw.1 hraw.2)
      have HBW := hide hBw
      have HMC := hide (show ∀ W, Below w0.heap.size w0 W → W.cell? ⟨mb, mo + k, none⟩ = some (.int .i64 moves[k]) from fun W hW => cell_later hW hmc)
      clear hBw hmc hraw
      generalize moves[k] = raw at *
      generalize Rt.moveLow S cap mk0 low raw n = low2 at *
      generalize Rt.mvF raw = fu at *
      rcases hres : Rt.moveN S mk0 low raw n with ⟨n2, mv2, rs2⟩
      rw [hres] at HMv HMN
      simp only at HMv HMN
      clear hres
      go_wp2_with fail
      refine (unhide HHd).mono ?_
      rintro e w5 ⟨rfl, rfl⟩
      clear HHd
      go_wp2_with fail
      refine (unhide HMv).mono ?_
      rintro e w6 ⟨rfl, X2, jv2, hA2, hok2⟩
      have bR2 := SAft.keeps (unhide HX).2.1.ses hA2 (unhide HX).1 hRP (by unfold OutTy PTy; decide)
      have hA3 := (unhide HX).2.1.trans hA2
      have hB6 : Below w0.heap.size w0 w6 := (unhide HS).1.trans (hA3.low (unhide HS).1.size (unhide HS).2.1)
      have m2 := unhide HMC w6 hB6
      obtain ⟨x0, x1, x2, x3, x4, x5, xz⟩ := six_any bR2
      have HF := hide (fun a b c x y q => And.intro (SAft.six hA3 bR2 hw3R (by unfold OutTy PTy; decide) a b c x y q) (six_set bR2 a b c x y q))
      have HOK := hide hok2
      have g1 : ¬ (fu : Int) < (mv2 : Int) := by have := (unhide HMN).2.2; omega
      clear hA2 hok2 bR2 hA3 hB6 m1 y0 y1 y2 y3 y4 y5 z
      unfold replyN
      generalize (Rt.atM S n2).fin = f2 at *
      generalize (Rt.atM S n2).line = l2 at *
      generalize ((Rt.atM S n2).frames.length : Int) = d2 at *
      have hAS : SAft P B S cap X X2 jv jv2 (Rt.seAt S n2 low2 mk0) w3 ((((((w6.setCell ⟨R, 0, none⟩ (.int .i64 rs2)).setCell ⟨R, 1, none⟩ (.int .i64 (mv2 : Int))).setCell ⟨R, 2, none⟩ (.int .i64 f2)).setCell ⟨R, 3, none⟩ (.int .i64 l2)).setCell ⟨R, 4, none⟩ (.int .i64 d2)).setCell ⟨R, 5, none⟩ (.int .i64 (n2 : Int))) ∧ ((((((w6.setCell ⟨R, 0, none⟩ (.int .i64 rs2)).setCell ⟨R, 1, none⟩ (.int .i64 (mv2 : Int))).setCell ⟨R, 2, none⟩ (.int .i64 f2)).setCell ⟨R, 3, none⟩ (.int .i64 l2)).setCell ⟨R, 4, none⟩ (.int .i64 d2)).setCell ⟨R, 5, none⟩ (.int .i64 (n2 : Int))).heap[R]? = some (.cells #[.int .i64 rs2, .int .i64 (mv2 : Int), .int .i64 f2, .int .i64 l2, .int .i64 d2, .int .i64 (n2 : Int)] 36 (0, 0)) := unhide HF (.int .i64 rs2) (.int .i64 (mv2 : Int)) (.int .i64 f2) (.int .i64 l2) (.int .i64 d2) (.int .i64 (n2 : Int))
      have mS := unhide HMC _ ((unhide HS).1.trans (hAS.1.low (unhide HS).1.size (unhide HS).2.1))
      go_wp2_with fail
      obtain ⟨z0, z1, z2, z3, z4, z5, zz⟩ := six_any hAS.2
      have HAS := hide hAS
      clear hAS x0 x1 x2 x3 x4 x5 xz m2 HF z0 z2 z3 z4 z5 zz
      revert mS z1 HAS
      generalize ((((((w6.setCell ⟨R, 0, none⟩ (.int .i64 rs2)).setCell ⟨R, 1, none⟩ (.int .i64 (mv2 : Int))).setCell ⟨R, 2, none⟩ (.int .i64 f2)).setCell ⟨R, 3, none⟩ (.int .i64 l2)).setCell ⟨R, 4, none⟩ (.int .i64 d2)).setCell ⟨R, 5, none⟩ (.int .i64 (n2 : Int))) = wS
      intro mS z1 HAS
      go_region_held3 (fun w' => w'.cell? ⟨R, 1, none⟩ = some (.int .i64 (mv2 : Int)) ∧ w'.cell? ⟨mb, mo + k, none⟩ = some (.int .i64 raw)) (go_keep) (first | (go_at_call 30; refine (unhide HST _).mono ?_; rintro e w7 ⟨rfl, rfl⟩))
      go_wp2_with fail
      go_roundw
      case rel => exact ⟨k + 1, n2, low2, low, X2, jv2, rs2, f2, l2, d2, mv2, by omega, by go_num, rfl, unhide HML, by have := (unhide HMN).2.1; omega, block_later (unhide HAS).2 (below_to_drew _), (unhide HAS).1.below (below_to_drew _), unhide HOK⟩
      case measure => simp [intOf]; omega
    · have hne : ((k : Int) == (moves.length : Int)) = true := by rw [beq_iff_eq]; omega
      have HBW : Hid (Below w0.heap.size w0 wr) := hide ((unhide HS).1.trans ((unhide HX).2.1.low (unhide HS).1.size (unhide HS).2.1))
      go_wp2_with fail
      refine (unhide HHd).mono ?_
      rintro e w5 ⟨rfl, rfl⟩
      clear HHd
      go_wp2_with fail
      go_ret
      exact ⟨rfl, unhide HBW⟩
end Go.Proofs.YtbpajiljfppjcaaGreatDoor

namespace Go.Proofs.YtbpajiljfppjcaaGreatDoor
open Go.ChangeShapes Go.WideShapes Go.ChangeAt Go.RowKit

/-- The door's own heap meets the condition. -/
theorem bounded_met (os : Os) (args : Array Value) : laidMetH Tryz.prog Rows.boundedRow.laid ((World.doorLaid Tryz.prog 24 os).forCall (fun _ _ => 0) ⟨#[], args, []⟩).memory :=
  laidMetH_of_parts3 (fuel := 8) (laidMet_of_run' 8 (by kernel_rfl) (by kernel_rfl)) (by kernel_rfl) (by kernel_rfl)
set_option maxHeartbeats 1000000 in
set_option maxRecDepth 100000 in
theorem bounded_lifted (os : Os) (started : os.Started) (H : Type) (enc : TypeId × Value → H) :
    ReturnsInHanded {} Tryz.checked os 7 .any (fun w args => (Rows.boundedSpec.pre enc Tryz.prog Tryz.f7 [] false w args ∧ laidMetH Tryz.prog Rows.boundedRow.laid w) ∧ sizedMet enc Tryz.prog Tryz.f7 (OpenSpec.ofChange Rows.boundedSpec) false w args)
      (Rows.boundedSpec.post enc Tryz.prog Tryz.f7 false true false false) := by
  refine returnsInHanded_of_change_and (C := Tryz.checked) (X := fun w _ => laidMetH Tryz.prog Rows.boundedRow.laid w) (fun _ _ _ hh h => h.of_heap hh) Tryz.own started (by kernel_rfl) Tryz.func7
    (ChangeSpec.witness_shaped (enc := enc) (C := Tryz.checked) (os := os) (X := fun w _ => laidMetH Tryz.prog Rows.boundedRow.laid w) false (World.doorLaid Tryz.prog 24 os) #[.slice none 0 0, .slice none 0 0, .int .i64 0, .slice none 0 0] 8 rfl (World.shaped_of_RefB (by kernel_rfl) (by kernel_rfl)) (by kernel_rfl) (by kernel_rfl) (by kernel_rfl) (bounded_met os _)) ?_
  intro W base args ds gs before hval0 hW _ hsize hL _
  have hval : ∀ (j : Nat) t v, Tryz.f7.params[j]? = some t → args[j]? = some v → Value.okWide Tryz.prog W .any base t v := hval0
  have hsz : (DataW.weightsEach Tryz.prog (Tryz.f7.params.toList ++ Rows.boundedSpec.plain.varTypes Tryz.prog) (ds ++ gs)).all (· ≤ reachBytes) = true := hsize
  have hW' := hW
  obtain ⟨p, q, hA0, hV, rfl, _, _⟩ := hW
  have hA : DataW.TrodAll enc Tryz.prog W 0 (fun _ => true) true Tryz.f7.params.toList args.toList ds p := hA0
  rw [Tryz.params7] at hA hval hsz
  obtain ⟨v0, v1, v2, v3, d0, d1, d2, d3, p0, p1, p2, p3, rfl, rfl, rfl, h0, h1, h2, h3⟩ := trodAll_four hA
  obtain ⟨rfl, rfl⟩ := trodVars_none hV
  obtain ⟨a0, len0, cap0, rfl⟩ := okWide_slice Tryz.underlying22 (hval 0 22 v0 rfl rfl)
  obtain ⟨a1, len1, cap1, rfl⟩ := okWide_slice Tryz.underlying22 (hval 1 22 v1 rfl rfl)
  obtain ⟨i2, rfl⟩ := okWide_int Tryz.underlying3 (hval 2 3 v2 rfl rfl)
  obtain ⟨a3, len3, cap3, rfl⟩ := okWide_slice Tryz.underlying22 (hval 3 22 v3 rfl rfl)
  clear hA0 hval0 hsize
  simp only [List.append_nil] at hW'
  have hlt : ∀ x ∈ p0 ++ p1 ++ p2 ++ p3, x.block < W.heap.size := fun x hx => by simpa using hW'.lt x hx
  have hlt0 : ∀ x ∈ p0, x.block < W.heap.size := fun x hx => hlt x (by simp [hx])
  have hlt1 : ∀ x ∈ p1, x.block < W.heap.size := fun x hx => hlt x (by simp [hx])
  have hlt2 : ∀ x ∈ p2, x.block < W.heap.size := fun x hx => hlt x (by simp [hx])
  have hlt3 : ∀ x ∈ p3, x.block < W.heap.size := fun x hx => hlt x (by simp [hx])
  obtain ⟨l0, hl0, hd0⟩ := ints_arg h0
  obtain ⟨l1, hl1, hd1⟩ := ints_arg h1
  obtain ⟨l3, hl3, hd3⟩ := ints_arg h3
  have hn3 := ints_len hsz (j := 3) rfl rfl hd3
  have hi2 : -9223372036854775808 ≤ i2 ∧ i2 ≤ 9223372036854775807 := by
    obtain ⟨f2, g2⟩ := h2
    obtain ⟨k, hk, _, hk3⟩ := DataW.trod_int Tryz.underlying3 g2
    simp [Value.cells] at hk
    subst hk
    exact bounds_i64 hk3
  have hargs0 : ∀ (W' : World), Below W.heap.size W W' → DataW.Trod enc Tryz.prog W' 0 (fun b => decide (b < W.heap.size)) true 22 (.slice a0 len0 cap0) d0 p0 :=
    fun W' hn => Below.trod Tryz.laidOut (by kernel_rfl) (of_decide_eq_true (by kernel_rfl)) h0 hn hlt0
  have hargs1 : ∀ (W' : World), Below W.heap.size W W' → DataW.Trod enc Tryz.prog W' 0 (fun b => decide (b < W.heap.size)) true 22 (.slice a1 len1 cap1) d1 p1 :=
    fun W' hn => Below.trod Tryz.laidOut (by kernel_rfl) (of_decide_eq_true (by kernel_rfl)) h1 hn hlt1
  have hargs2 : ∀ (W' : World), Below W.heap.size W W' → DataW.Trod enc Tryz.prog W' 0 (fun b => decide (b < W.heap.size)) true 3 (.int .i64 i2) d2 p2 :=
    fun W' hn => Below.trod Tryz.laidOut (by kernel_rfl) (of_decide_eq_true (by kernel_rfl)) h2 hn hlt2
  have hargs3 : ∀ (W' : World), Below W.heap.size W W' → DataW.Trod enc Tryz.prog W' 0 (fun b => decide (b < W.heap.size)) true 22 (.slice a3 len3 cap3) d3 p3 :=
    fun W' hn => Below.trod Tryz.laidOut (by kernel_rfl) (of_decide_eq_true (by kernel_rfl)) h3 hn hlt3
  refine (Bounded_any W _ _ _ l0 l1 l3 i2 hl0 hl1 hl3 hi2 hn3).mono fun e W' ⟨he, hnx⟩ => ?_
  subst he
  have h9 := trodAll_mk4 (hargs0 _ hnx) (hargs1 _ hnx) (hargs2 _ hnx) (hargs3 _ hnx)
  simp only [← List.append_assoc] at h9
  exact ⟨_, rfl, _, _, _, [], p0 ++ p1 ++ p2 ++ p3, [], hW', trodAll_mk1 (shut_bool Tryz.underlying4 _), h9, rfl, hnx.frame _, fun h => by cases h⟩

theorem bounded_row : Rows.BoundedSaid :=
  OpenClaim.holds_of_wide 7 Tryz.f7 rfl rfl rfl rfl rfl rfl rfl ⟨rfl, rfl, rfl, rfl, rfl⟩ rfl rfl rfl rfl rfl (by kernel_rfl) Tryz.func7 (by kernel_rfl)
    (of_decide_eq_true (by kernel_rfl)) (by unfold Func.isWrapper; first | (rw [if_pos (by decide +kernel)]; kernel_rfl) | (rw [if_neg (by decide +kernel)]; exact ⟨rfl, rfl⟩))
    (fun os started H enc _ => bounded_lifted os started H enc)

end Go.Proofs.YtbpajiljfppjcaaGreatDoor

