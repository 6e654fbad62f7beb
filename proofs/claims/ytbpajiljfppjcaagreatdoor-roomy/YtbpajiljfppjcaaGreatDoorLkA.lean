/- What is seen of a place: look. -/
import Derived.Test.YtbpajiljfppjcaaGreatDoorSsH
import Derived.Test.YtbpajiljfppjcaaGreatDoorRtTidy
namespace Go.Proofs.YtbpajiljfppjcaaGreatDoor
open Go.RowKit
attribute [local go_sem ↓] Go.wp_at_zero Go.wp_at_succ

namespace Rt
/-- The reason of a single step. -/
def stepWhy (S : Src) (n : Nat) : Int := if (atM S n).fin = 0 then 1 else 3
theorem ends_one (S : Src) (mk : List Bool) (d0 : Int) (n : Nat) : endsN S mk 0 1 d0 n 1 = stepWhy S n := by
  unfold endsN fwdEnds stepWhy arrivedI reachedB
  have e : (seAt S n 0 mk).m = atM S n := rfl
  rw [e]
  by_cases hz : (atM S n).fin = 0
  · rw [if_neg (not_not_intro hz), if_pos hz]; simp
  · rw [if_pos hz, if_neg hz]
theorem ends_none (S : Src) (mk : List Bool) (d0 : Int) (n : Nat) : endsN S mk 0 1 d0 n 0 = if (atM S n).fin = 0 then 0 else 3 := by
  unfold endsN fwdEnds arrivedI
  have e : (seAt S n 0 mk).m = atM S n := rfl
  rw [e]
  by_cases hz : (atM S n).fin = 0
  · rw [if_neg (not_not_intro hz), if_pos hz]; simp
  · rw [if_pos hz, if_neg hz]
theorem stepWhy_ne (S : Src) (n : Nat) : ¬ stepWhy S n = 0 := by
  unfold stepWhy
  split <;> omega
theorem fwd_one {S : Src} {n : Nat} (hz : (atM S n).fin = 0) (mk : List Bool) (d0 : Int) : fwdN S mk 0 1 d0 2 n 0 = (n + 1, 1, stepWhy S (n + 1)) := by
  rw [fwdN, ends_none, if_pos hz, if_pos rfl, fwdN, ends_one, if_neg (stepWhy_ne S _)]
theorem fwd_ended {S : Src} {n : Nat} (hz : ¬ (atM S n).fin = 0) (mk : List Bool) (d0 : Int) : fwdN S mk 0 1 d0 2 n 0 = (n, 0, 3) := by
  rw [fwdN, ends_none, if_neg hz, if_neg (by omega)]
theorem bends_one (S : Src) (mk : List Bool) (low : Nat) (d0 : Int) (n : Nat) : bendsN S mk low 0 1 d0 n 1 = 1 := by
  unfold bendsN backEnds arrivedI reachedB
  simp
theorem bends_none (S : Src) (mk : List Bool) (low : Nat) (d0 : Int) (n : Nat) : bendsN S mk low 0 1 d0 n 0 = if n = 0 then 5 else if n = low then 6 else 0 := by
  unfold bendsN backEnds arrivedI
  have e1 : (seAt S n low mk).idx = (n : Int) := rfl
  have e2 : (seAt S n low mk).low = (low : Int) := rfl
  rw [e1, e2]
  by_cases h0 : n = 0
  · rw [if_pos h0, h0]; simp
  · rw [if_neg h0]
    by_cases h1 : n = low
    · rw [if_pos h1, h1]
      have : ¬ low = 0 := by omega
      simp [this]
    · rw [if_neg h1]
      have g1 : ¬ (n : Int) = (low : Int) := by omega
      simp [h0, g1]
theorem back_one {S : Src} {low n : Nat} (h0 : n ≠ 0) (h1 : n ≠ low) (mk : List Bool) (d0 : Int) : backN S mk low 0 1 d0 2 n 0 = (n - 1, 1, 1) := by
  rw [backN, bends_none, if_neg h0, if_neg h1, if_pos rfl, backN, bends_one, if_neg (by omega)]
theorem back_start {S : Src} {low : Nat} (mk : List Bool) (d0 : Int) : backN S mk low 0 1 d0 2 0 0 = (0, 0, 5) := by
  rw [backN, bends_none, if_pos rfl, if_neg (by omega)]
theorem back_horizon {S : Src} {low n : Nat} (h0 : n ≠ 0) (h1 : n = low) (mk : List Bool) (d0 : Int) : backN S mk low 0 1 d0 2 n 0 = (n, 0, 6) := by
  rw [backN, bends_none, if_neg h0, if_pos h1, if_neg (by omega)]
end Rt
/-- A reply at a place. -/
def replyN (S : Rt.Src) (rs : Int) (k n : Nat) : Array Value := #[.int .i64 rs, .int .i64 (k : Int), .int .i64 (Rt.atM S n).fin, .int .i64 (Rt.atM S n).line, .int .i64 ((Rt.atM S n).frames.length : Int), .int .i64 (n : Int)]
theorem replyN_eq (S : Rt.Src) (rs : Int) (k n low : Nat) (mk : List Bool) : replyA rs k (Rt.seAt S n low mk) = replyN S rs k n := rfl
/-- A session at a place of the run. -/
structure Sess (w : World) (P B : Nat) (S : Rt.Src) (cap : Int) (n low : Nat) (mk : List Bool) (X : McX) (jv : Value) : Prop where
  ses : SesS w P B S cap (Rt.seAt S n low mk) X jv
  ok : Rt.SeOk S cap n low
/-- What does not change. -/
structure Cst (S : Rt.Src) (cap : Int) (mk : List Bool) : Prop where
  plc : Plc S
  lo : 5 ≤ cap
  hi : cap ≤ 500
  mks : mk.length = 101
/-- What a move says that ends at a place. -/
def MvP (P B : Nat) (S : Rt.Src) (cap : Int) (mk : List Bool) (X : McX) (jv : Value) (n' low' k : Nat) (rs : Int) (w : World) (e : Ending) (w' : World) : Prop :=
  e = .returned (.tuple #[.agg (replyN S rs k n'), .int .i64 0]) ∧ ∃ X' jv', SAft P B S cap X X' jv jv' (Rt.seAt S n' low' mk) w w' ∧ Rt.SeOk S cap n' low'
section
variable {w : World} {P B : Nat} {S : Rt.Src} {cap : Int} {n low : Nat} {mk : List Bool} {X : McX} {jv : Value}
theorem Sess.later {w' : World} (h : Sess w P B S cap n low mk X jv) (hb : Below w.heap.size w w') : Sess w' P B S cap n low mk X jv := ⟨h.ses.later hb, h.ok⟩
theorem Sess.held (h : Sess w P B S cap n low mk X jv) : Calls Tryz.prog 29 #[.pointer (some ⟨P, 0, none⟩)] w fun e w' => e = .returned (.tuple #[.int .i64 (low : Int), .int .i64 ((Rt.recsOf S low (n - low)).length : Int)]) ∧ w' = w := held_any w P B S cap _ X jv h.ses
theorem Sess.whereS (h : Sess w P B S cap n low mk X jv) : Calls Tryz.prog 48 #[.pointer (some ⟨P, 0, none⟩)] w fun e w' => e = .returned (.agg (replyN S 0 0 n)) ∧ Below w.heap.size w w' := where_any w P B S cap _ X jv h.ses
theorem Sess.moves (h : Sess w P B S cap n low mk X jv) (hc : Cst S cap mk) (hn : n + 60 ≤ 4611686018427386000) (c : Int) (h1 : -9223372036854775808 ≤ c ∧ c ≤ 9223372036854775807) :
    Calls Tryz.prog 28 #[.pointer (some ⟨P, 0, none⟩), .int .i64 c] w (MvP P B S cap mk X jv (Rt.moveN S mk low c n).1 (Rt.moveLow S cap mk low c n) (Rt.moveN S mk low c n).2.1 (Rt.moveN S mk low c n).2.2 w) := by
  refine (move_any w P B S cap n low mk X jv h.ses hc.plc ⟨by have := hc.lo; omega, hc.hi⟩ h.ok hn hc.mks c h1.1 h1.2).mono ?_
  rintro e w' ⟨X', jv', he, hA⟩
  exact ⟨he, X', jv', hA, (Rt.moveR_at (by have := hc.lo; omega) hc.plc.input mk c n low h.ok (by omega)).2.1⟩
theorem Sess.fwd (h : Sess w P B S cap n low mk X jv) (hc : Cst S cap mk) (kind : Int) (fuel : Nat) (hkd : 0 ≤ kind ∧ kind ≤ 3) (hfu : fuel ≤ 1000) (hn : n + 1001 ≤ 4611686018427386000) :
    Calls Tryz.prog 16 #[.pointer (some ⟨P, 0, none⟩), .int .i64 kind, .int .i64 fuel] w (MvP P B S cap mk X jv (Rt.fwdN S mk kind fuel (Rt.atM S n).frames.length (fuel + 1) n 0).1 (Rt.lowJ S cap ((Rt.fwdN S mk kind fuel (Rt.atM S n).frames.length (fuel + 1) n 0).1 - n) n low) (Rt.fwdN S mk kind fuel (Rt.atM S n).frames.length (fuel + 1) n 0).2.1 (Rt.fwdN S mk kind fuel (Rt.atM S n).frames.length (fuel + 1) n 0).2.2 w) := by
  have hc0 : 0 ≤ cap := by have := hc.lo; omega
  obtain ⟨h1, h2, _⟩ := Rt.fwdRun_at hc0 mk kind fuel (Rt.atM S n).frames.length (fuel + 1) n 0 low h.ok (by omega)
  refine (forward_any w P B S cap (Rt.seAt S n low mk) X jv h.ses hc.plc.good hc.plc.call ⟨hc0, hc.hi⟩ (hc.plc.keepS h.ok mk hc.mks) kind fuel hkd hfu).mono ?_
  rintro e w' ⟨X', jv', he, hA⟩
  rw [show ((Rt.seAt S n low mk).m.frames.length : Int) = ((Rt.atM S n).frames.length : Int) from rfl, h1] at he hA
  exact ⟨he, X', jv', hA, h2⟩
theorem Sess.bwd (h : Sess w P B S cap n low mk X jv) (hc : Cst S cap mk) (kind : Int) (fuel : Nat) (hkd : 0 ≤ kind ∧ kind ≤ 3) (hfu : fuel ≤ 1000) (hn : n + 1001 ≤ 4611686018427386000) :
    Calls Tryz.prog 24 #[.pointer (some ⟨P, 0, none⟩), .int .i64 kind, .int .i64 fuel] w (MvP P B S cap mk X jv (Rt.backN S mk low kind fuel (Rt.atM S n).frames.length (fuel + 1) n 0).1 low (Rt.backN S mk low kind fuel (Rt.atM S n).frames.length (fuel + 1) n 0).2.1 (Rt.backN S mk low kind fuel (Rt.atM S n).frames.length (fuel + 1) n 0).2.2 w) := by
  obtain ⟨h1, h2, _⟩ := Rt.backRun_at (cap := cap) hc.plc.input mk low kind fuel (Rt.atM S n).frames.length (fuel + 1) n 0 h.ok (by omega)
  refine (backward_any w P B S cap n low mk (Rt.seAt S n low mk) X jv h.ses hc.plc hc.hi ⟨n, rfl, h.ok, Nat.le_refl _⟩ (by omega) hc.mks kind fuel hkd hfu).mono ?_
  rintro e w' ⟨X', jv', he, hA⟩
  rw [show ((Rt.seAt S n low mk).m.frames.length : Int) = ((Rt.atM S n).frames.length : Int) from rfl, h1] at he hA
  exact ⟨he, X', jv', hA, h2⟩
/-- A single step. -/
theorem Sess.fwd1 (h : Sess w P B S cap n low mk X jv) (hc : Cst S cap mk) (hz : (Rt.atM S n).fin = 0) (hn : n + 1001 ≤ 4611686018427386000) :
    Calls Tryz.prog 16 #[.pointer (some ⟨P, 0, none⟩), .int .i64 0, .int .i64 1] w (MvP P B S cap mk X jv (n + 1) (Rt.lowF S cap n low) 1 (Rt.stepWhy S (n + 1)) w) := by
  have := h.fwd hc 0 1 (by omega) (by omega) hn
  have e : Rt.fwdN S mk 0 ((1 : Nat) : Int) (Rt.atM S n).frames.length (1 + 1) n 0 = (n + 1, 1, Rt.stepWhy S (n + 1)) := Rt.fwd_one hz mk _
  rw [e] at this
  simp only [show n + 1 - n = 1 by omega] at this
  exact this
theorem Sess.fwd1_ended (h : Sess w P B S cap n low mk X jv) (hc : Cst S cap mk) (hz : ¬ (Rt.atM S n).fin = 0) (hn : n + 1001 ≤ 4611686018427386000) :
    Calls Tryz.prog 16 #[.pointer (some ⟨P, 0, none⟩), .int .i64 0, .int .i64 1] w (MvP P B S cap mk X jv n low 0 3 w) := by
  have := h.fwd hc 0 1 (by omega) (by omega) hn
  have e : Rt.fwdN S mk 0 ((1 : Nat) : Int) (Rt.atM S n).frames.length (1 + 1) n 0 = (n, 0, 3) := Rt.fwd_ended hz mk _
  rw [e] at this
  simp only [Nat.sub_self] at this
  exact this
theorem Sess.bwd1 (h : Sess w P B S cap n low mk X jv) (hc : Cst S cap mk) (h0 : n ≠ 0) (h1 : n ≠ low) (hn : n + 1001 ≤ 4611686018427386000) :
    Calls Tryz.prog 24 #[.pointer (some ⟨P, 0, none⟩), .int .i64 0, .int .i64 1] w (MvP P B S cap mk X jv (n - 1) low 1 1 w) := by
  have := h.bwd hc 0 1 (by omega) (by omega) hn
  have e : Rt.backN S mk low 0 ((1 : Nat) : Int) (Rt.atM S n).frames.length (1 + 1) n 0 = (n - 1, 1, 1) := Rt.back_one h0 h1 mk _
  rw [e] at this
  exact this
theorem Sess.bwd1_start (h : Sess w P B S cap 0 low mk X jv) (hc : Cst S cap mk) :
    Calls Tryz.prog 24 #[.pointer (some ⟨P, 0, none⟩), .int .i64 0, .int .i64 1] w (MvP P B S cap mk X jv 0 low 0 5 w) := by
  have := h.bwd hc 0 1 (by omega) (by omega) (by omega)
  have e : Rt.backN S mk low 0 ((1 : Nat) : Int) (Rt.atM S 0).frames.length (1 + 1) 0 0 = (0, 0, 5) := Rt.back_start mk _
  rw [e] at this
  exact this
theorem Sess.bwd1_horizon (h : Sess w P B S cap n low mk X jv) (hc : Cst S cap mk) (h0 : n ≠ 0) (h1 : n = low) (hn : n + 1001 ≤ 4611686018427386000) :
    Calls Tryz.prog 24 #[.pointer (some ⟨P, 0, none⟩), .int .i64 0, .int .i64 1] w (MvP P B S cap mk X jv n low 0 6 w) := by
  have := h.bwd hc 0 1 (by omega) (by omega) hn
  have e : Rt.backN S mk low 0 ((1 : Nat) : Int) (Rt.atM S n).frames.length (1 + 1) n 0 = (n, 0, 6) := Rt.back_horizon h0 h1 mk _
  rw [e] at this
  exact this
end
end Go.Proofs.YtbpajiljfppjcaaGreatDoor

namespace Go.Proofs.YtbpajiljfppjcaaGreatDoor
open Go.RowKit
attribute [local go_sem ↓] Go.wp_at_zero Go.wp_at_succ

namespace Rt
def nmL : List ByteArray := [⟨#[120]⟩, ⟨#[121]⟩, ⟨#[122]⟩, ⟨#[112]⟩, ⟨#[113]⟩]
/-- What is seen of the first names. -/
def valsN (S : Src) (m : Mc) : List ByteArray → List Int
  | [] => []
  | x :: r => (valueR S m x).1 :: (valueR S m x).2 :: valsN S m r
/-- What is seen of the array's first cells. -/
def valsC (S : Src) (m : Mc) : Nat → List Int
  | 0 => []
  | k + 1 => valsC S m k ++ [(cellR S m ⟨#[116]⟩ k).1, (cellR S m ⟨#[116]⟩ k).2]
theorem valsN_app (S : Src) (m : Mc) : ∀ (a : List ByteArray) (x : ByteArray), valsN S m (a ++ [x]) = valsN S m a ++ [(valueR S m x).1, (valueR S m x).2]
  | [], _ => rfl
  | y :: r, x => by rw [List.cons_append, valsN, valsN_app S m r x, valsN]; rfl
theorem valsN_step (S : Src) (m : Mc) (l : List ByteArray) (k : Nat) (hk : k < l.length) : valsN S m (l.take (k + 1)) = valsN S m (l.take k) ++ [(valueR S m l[k]).1, (valueR S m l[k]).2] := by
  rw [← valsN_app, List.take_add_one, List.getElem?_eq_getElem hk]
  rfl
def valuesL (S : Src) (m : Mc) : List Int := valsN S m nmL ++ valsC S m 4
end Rt
abbrev W9 (w : World) (N : Nat) (a b c d e f g h i : Value) : World := ((((((((w.setCell ⟨N, 0, none⟩ a).setCell ⟨N, 1, none⟩ b).setCell ⟨N, 2, none⟩ c).setCell ⟨N, 3, none⟩ d).setCell ⟨N, 4, none⟩ e).setCell ⟨N, 5, none⟩ f).setCell ⟨N, 6, none⟩ g).setCell ⟨N, 7, none⟩ h).setCell ⟨N, 8, none⟩ i
theorem own_set1 {w : World} {B : Nat} {e : TypeId} {size n : Nat} {v : Value} {xs : List Value} (h : w.ownsRow B e size v n xs) {N i : Nat} (hn : ∀ g, v.ownBlock = some g → g ≠ N) (u : Value) : (w.setCell ⟨N, i, none⟩ u).ownsRow B e size v n xs := own_same h (fun g hg => Below.heap_setCell w ⟨N, i, none⟩ u g (hn g hg))
theorem own_set9 {w : World} {B : Nat} {e : TypeId} {size n : Nat} {v : Value} {xs : List Value} (h : w.ownsRow B e size v n xs) {N : Nat} (hN : ∀ q, v.ownBlock = some q → q ≠ N) (a b c d e' f g h' i : Value) : (W9 w N a b c d e' f g h' i).ownsRow B e size v n xs :=
  own_set1 (own_set1 (own_set1 (own_set1 (own_set1 (own_set1 (own_set1 (own_set1 (own_set1 h hN a) hN b) hN c) hN d) hN e') hN f) hN g) hN h') hN i
theorem below_set9 {B N : Nat} {w w1 : World} (h : Below B w w1) (hN : B ≤ N) (a b c d e f g h' i : Value) : Below B w (W9 w1 N a b c d e f g h' i) :=
  ((((((((h.setCell (p := ⟨N, 0, none⟩) hN a).setCell (p := ⟨N, 1, none⟩) hN b).setCell (p := ⟨N, 2, none⟩) hN c).setCell (p := ⟨N, 3, none⟩) hN d).setCell (p := ⟨N, 4, none⟩) hN e).setCell (p := ⟨N, 5, none⟩) hN f).setCell (p := ⟨N, 6, none⟩) hN g).setCell (p := ⟨N, 7, none⟩) hN h').setCell (p := ⟨N, 8, none⟩) hN i
theorem nine_any {w : World} {b : Nat} {v0 v1 v2 v3 v4 v5 v6 v7 v8 : Value} {t : TypeId} (h : w.heap[b]? = some (.cells #[v0, v1, v2, v3, v4, v5, v6, v7, v8] t (0, 0))) : w.cell? ⟨b, 0, none⟩ = some v0 ∧ w.cell? ⟨b, 1, none⟩ = some v1 ∧ w.cell? ⟨b, 2, none⟩ = some v2 ∧ w.cell? ⟨b, 3, none⟩ = some v3 ∧ w.cell? ⟨b, 4, none⟩ = some v4 ∧ w.cell? ⟨b, 5, none⟩ = some v5 ∧ w.cell? ⟨b, 6, none⟩ = some v6 ∧ w.cell? ⟨b, 7, none⟩ = some v7 ∧ w.cell? ⟨b, 8, none⟩ = some v8 ∧ ∀ i, w.frozen? ⟨b, i, none⟩ = false := by
  refine ⟨?_, ?_, ?_, ?_, ?_, ?_, ?_, ?_, ?_, fun i => free_of_block h i⟩
  · have := cell_of_block h 0 (by simp); simpa using this
  · have := cell_of_block h 1 (by simp); simpa using this
  · have := cell_of_block h 2 (by simp); simpa using this
  · have := cell_of_block h 3 (by simp); simpa using this
  · have := cell_of_block h 4 (by simp); simpa using this
  · have := cell_of_block h 5 (by simp); simpa using this
  · have := cell_of_block h 6 (by simp); simpa using this
  · have := cell_of_block h 7 (by simp); simpa using this
  · have := cell_of_block h 8 (by simp); simpa using this
/-- The block of the view that is being made. -/
def vwC (f l d n : Int) (v c o : Value) : Array Value := #[.int .i64 0, .int .i64 0, .int .i64 f, .int .i64 l, .int .i64 d, .int .i64 n, v, c, o]
def vwZ : Array Value := #[.int .i64 0, .int .i64 0, .int .i64 0, .int .i64 0, .int .i64 0, .int .i64 0, .slice none 0 0, .slice none 0 0, .slice none 0 0]
def nmA : Array Value := #[.string ⟨#[120]⟩, .string ⟨#[121]⟩, .string ⟨#[122]⟩, .string ⟨#[112]⟩, .string ⟨#[113]⟩]
/-- What look's loops keep: the view's block V, the names', the result's. -/
structure LkI (w wr : World) (V : Nat) (f l d n : Int) (vv : Value) (xs : List Int) : Prop where
  below : Below w.heap.size w wr
  res : wr.heap[w.heap.size]? = some (.cells vwZ 56 (0, 0))
  view : wr.heap[V]? = some (.cells (vwC f l d n vv (.slice none 0 0) (.slice none 0 0)) 56 (0, 0))
  names : wr.heap[V + 1]? = some (.cells nmA 9 (0, 0))
  row : wr.ownsRow (V + 2) 3 1 vv xs.length (intsV xs)
  lt : w.heap.size < V
theorem LkI.later {w wr w2 : World} {V : Nat} {f l d n : Int} {vv : Value} {xs : List Int} (h : LkI w wr V f l d n vv xs) (hb : Below wr.heap.size wr w2) : LkI w w2 V f l d n vv xs :=
  ⟨h.below.trans (hb.mono h.below.size), block_later h.res hb, block_later h.view hb, block_later h.names hb, own_later h.row hb, h.lt⟩
/-- Two more numbers are appended. -/
theorem LkI.more {w w2 w3 : World} {V : Nat} {f l d n : Int} {vv v' : Value} {xs : List Int} {a b : Int} (h : LkI w w2 V f l d n vv xs) {o : Obj} (hg : (w2.alloc o).grownBy w3 vv.ownBlock) (ho : w3.ownsRow (V + 2) 3 1 v' (xs.length + 2) (intsV xs ++ [.int .i64 a, .int .i64 b])) : LkI w (w3.setCell ⟨V, 6, none⟩ v') V f l d n v' (xs ++ [a, b]) := by
  have hN := block_lt h.names
  have hlt := h.lt
  have hbx : Below (V + 2) w2 w3 := Below.grown ((Below.refl (V + 2) w2).alloc (by omega) _) hg (by simp; omega) (fun q hq => (h.row.lt q hq).1)
  have hr := (hbx.block _ (by omega)).trans h.res
  have hv := (hbx.block _ (by omega)).trans h.view
  have hn := (hbx.block _ (by omega)).trans h.names
  refine ⟨((h.below.trans (hbx.mono (B' := w.heap.size) (by omega)))).setCell (p := ⟨V, 6, none⟩) (by show w.heap.size ≤ V; omega) v', ?_, ?_, ?_, ?_, hlt⟩
  · rw [Below.heap_setCell w3 ⟨V, 6, none⟩ v' w.heap.size (by show w.heap.size ≠ V; omega)]; exact hr
  · have := set_block hv 6 v'
    simpa [vwC] using this
  · rw [Below.heap_setCell w3 ⟨V, 6, none⟩ v' (V + 1) (by show V + 1 ≠ V; omega)]; exact hn
  · rw [List.length_append, intsV, List.map_append]
    exact own_set1 ho (fun g hg => by have := (ho.lt g hg).1; omega) v'
set_option maxHeartbeats 4000000 in
set_option maxRecDepth 100000 in
theorem look_any (w : World) (P B : Nat) (S : Rt.Src) (cap : Int) (n low : Nat) (mk : List Bool) (X : McX) (jv : Value) (h : Sess w P B S cap n low mk X jv) (hc : Cst S cap mk) (m : Rt.Mc) (hm : Rt.atM S n = m) (f1 l1 d1 : Int) (hf : m.fin = f1) (hl : m.line = l1) (hd : (m.frames.length : Int) = d1) :
    Calls Tryz.prog 25 #[.pointer (some ⟨P, 0, none⟩)] w fun e w' => Below w.heap.size w w' ∧ ∃ va vc vo, e = .returned (.agg (vwC f1 l1 d1 n va vc vo)) ∧ w'.ownsRow w.heap.size 3 1 va (Rt.valuesL S m).length (intsV (Rt.valuesL S m)) ∧ w'.ownsRow w.heap.size 3 1 vc (Rt.callsL m).length (intsV (Rt.callsL m)) ∧ w'.ownsRow w.heap.size 3 1 vo m.output.length (intsV m.output) := by
  obtain ⟨i0, hi0, hz0, hz1, hz2⟩ := info_parts Tryz.infoIntK
  have hkg := hc.plc.keep n
  have HM := hide (fun (W : World) (hW : Below w.heap.size w W) => And.intro (fun x => sValue_any W P B S cap _ X jv x (h.ses.later hW) hkg.mok) (And.intro (fun x i => sCell_any W P B S cap _ X jv x i (h.ses.later hW) hkg.mok) (And.intro (sCalls_any W P B S cap _ X jv (h.ses.later hW) hkg.mok.frames hkg.lo) (sOutput_any W P B S cap _ X jv (h.ses.later hW) hkg.mok.output))))
  have HH := hide h
  clear h hc hkg
  go_enter Tryz.func25, Tryz.ntmps25
  go_wp2_with fail
  have hbZ := (Below.refl w.heap.size w).alloc (Nat.le_refl _) (.cells #[.int .i64 0, .int .i64 0, .int .i64 0, .int .i64 0, .int .i64 0, .int .i64 0, .slice none 0 0, .slice none 0 0, .slice none 0 0] 56)
  have bV0 := heap_alloc_new w (.cells #[.int .i64 0, .int .i64 0, .int .i64 0, .int .i64 0, .int .i64 0, .int .i64 0, .slice none 0 0, .slice none 0 0, .slice none 0 0] 56)
  refine ((unhide HH).later hbZ).whereS.mono ?_
  rintro e w1 ⟨rfl, hb1⟩
  have bV1 := block_later bV0 hb1
  have hlt1 : w.heap.size < w1.heap.size := by have := hb1.size; simp at this; omega
  have HB1 := hide (And.intro (hbZ.trans (hb1.mono (B' := w.heap.size) (by simp))) bV1)
  clear hb1 hbZ bV0 bV1 HH
  unfold replyN
  have em : (Rt.seAt S n low mk).m = m := hm
  rw [em] at HM
  rw [hm, hf, hl, hd]
  clear em hm hf hl hd
  go_wp2_with fail
  obtain ⟨V, hV⟩ : ∃ V, V = w1.heap.size := ⟨_, rfl⟩
  have hI : LkI w ((w1.alloc (.cells #[.int .i64 0, .int .i64 0, .int .i64 f1, .int .i64 l1, .int .i64 d1, .int .i64 (n : Int), .slice none 0 0, .slice none 0 0, .slice none 0 0] 56)).alloc (.cells #[.string ⟨#[120]⟩, .string ⟨#[121]⟩, .string ⟨#[122]⟩, .string ⟨#[112]⟩, .string ⟨#[113]⟩] 9)) V f1 l1 d1 n (.slice none 0 0) [] := by
    have hbB := ((Below.refl w1.heap.size w1).alloc (Nat.le_refl _) (.cells #[.int .i64 0, .int .i64 0, .int .i64 f1, .int .i64 l1, .int .i64 d1, .int .i64 (n : Int), .slice none 0 0, .slice none 0 0, .slice none 0 0] 56)).alloc (by simp) (.cells #[.string ⟨#[120]⟩, .string ⟨#[121]⟩, .string ⟨#[122]⟩, .string ⟨#[112]⟩, .string ⟨#[113]⟩] 9)
    refine ⟨(unhide HB1).1.trans (hbB.mono (unhide HB1).1.size), block_later (unhide HB1).2 hbB, ?_, ?_, World.ownsRow_nil _ _ _ _, by omega⟩
    · rw [hV]; exact block_alloc (heap_alloc_new w1 _) _
    · rw [hV]; exact alloc2_plain w1 _ _
  have HI := hide hI
  clear hI HB1
  rw [← hV]
  revert HI
  generalize (w1.alloc (.cells #[.int .i64 0, .int .i64 0, .int .i64 f1, .int .i64 l1, .int .i64 d1, .int .i64 (n : Int), .slice none 0 0, .slice none 0 0, .slice none 0 0] 56)).alloc (.cells #[.string ⟨#[120]⟩, .string ⟨#[121]⟩, .string ⟨#[122]⟩, .string ⟨#[112]⟩, .string ⟨#[113]⟩] 9) = wA
  intro HI
  clear hV hlt1
  go_loopw [5, 6, 7] (fun i _ _ wr => ∃ (k : Nat) (vv : Value), k ≤ 5 ∧ i = .int .i64 k ∧ LkI w wr V f1 l1 d1 n vv (Rt.valsN S m (Rt.nmL.take k)) ∧ (Rt.valsN S m (Rt.nmL.take k)).length = 2 * k)
    (fun i _ _ _ => 6 - (intOf i).toNat)
  case atStart => exact ⟨0, _, by omega, rfl, unhide HI, rfl⟩
  case round =>
    obtain ⟨k, vv, hk, rfl, hI, hlen⟩ := hrel
    have HI := hide hI
    have HLN := hide hlen
    clear hlen
    by_cases hlt : k < 5
    · have hlt' : (k : Int) < 5 := by omega
      have hk0 : (0 : Int) ≤ (k : Int) := by omega
      have hln : k < Rt.nmL.length := hlt
      have cN : wr.cell? ⟨V + 1, k, none⟩ = some (.string Rt.nmL[k]) := by
        have := cell_of_block hI.names k (by simp [nmA]; omega)
        rw [this]
        congr 1
        match k, hlt with
        | 0, _ => rfl
        | 1, _ => rfl
        | 2, _ => rfl
        | 3, _ => rfl
        | 4, _ => rfl
      have HST := hide (Rt.valsN_step S m Rt.nmL k hln)
      have HVL := hide ((unhide HM wr hI.below).1 Rt.nmL[k])
      clear hI
      generalize Rt.nmL[k] = x at *
      go_wp2_with fail
      refine (unhide HVL).mono ?_
      rintro e w2 ⟨rfl, hb2⟩
      have hI2 := (unhide HI).later hb2
      generalize (Rt.valueR S m x).1 = a at *
      generalize (Rt.valueR S m x).2 = b at *
      generalize Rt.valsN S m (Rt.nmL.take k) = xs at *
      have hxl : xs.length ≤ 12 := by have := unhide HLN; omega
      obtain ⟨q0, q1, q2, q3, q4, q5, q6, q7, q8, qz⟩ := nine_any hI2.view
      have hown := hI2.row
      obtain ⟨vad, vcap, rfl⟩ := ownsRow_form hown
      have HI2 := hide hI2
      have hV2 := block_lt hI2.view
      have hN2 := block_lt hI2.names
      clear hI2 hb2 cN q0 q1 q2 q3 q4 q5 q7 q8 HVL
      go_wp2_with (at_builtin; refine wpList_append_own _ rfl _ _ 22 rfl (V + 2) 3 i0 _ 1 8 Tryz.underlying22 hi0 hz0 hz1 hz2 rfl (by decide) _ _ _ rfl (hown.alloc _) ⟨_, 0, none⟩ 2 2 [.int .i64 a, .int .i64 b] rfl rfl (cell_two_new _ _ _ _) ?c2 ?c3 ?c4 ?c5 ?_)
      case c2 => intro u hu; simp at hu; rcases hu with rfl | rfl <;> rfl
      case c3 => unfold maxLen; omega
      case c4 => omega
      case c5 => simp; omega
      intro v' w3 hown3 hgrow _
      obtain ⟨vad', vcap', rfl⟩ := ownsRow_form hown3
      have hI3 := (unhide HI2).more hgrow hown3
      have hv3 : w3.heap[V]? = some (.cells (vwC f1 l1 d1 n (.slice vad xs.length vcap) (.slice none 0 0) (.slice none 0 0)) 56 (0, 0)) := by
        have hbx : Below (V + 2) w2 w3 := Below.grown ((Below.refl (V + 2) w2).alloc (by omega) _) hgrow (by simp; omega) (fun q hq => ((unhide HI2).row.lt q hq).1)
        exact (hbx.block _ (by omega)).trans (unhide HI2).view
      obtain ⟨q0, q1, q2, q3, q4, q5, q6, q7, q8, qz⟩ := nine_any hv3
      have HF := hide hI3
      clear hown3 hgrow hown hI3 hv3 q0 q1 q2 q3 q4 q5 q7 q8
      go_wp2_with fail
      go_roundw
      case rel => exact ⟨k + 1, _, by omega, by go_num, by rw [unhide HST]; exact unhide HF, by rw [unhide HST, List.length_append, unhide HLN]; rfl⟩
      case measure => simp [intOf]; omega
    · obtain rfl : k = 5 := by omega
      have hlt' : ¬ ((5 : Nat) : Int) < 5 := by omega
      clear hI
      have e5 : Rt.nmL.take 5 = Rt.nmL := rfl
      rw [e5] at HI HLN
      clear e5
      have HL0 := hide (show Rt.valuesL S m = Rt.valsN S m Rt.nmL ++ Rt.valsC S m 4 from rfl)
      generalize Rt.valsN S m Rt.nmL = ys at *
      go_wp2_with fail
      go_loopw [8, 9, 10] (fun i _ _ wr => ∃ (k : Nat) (vv : Value), k ≤ 4 ∧ i = .int .i64 k ∧ LkI w wr V f1 l1 d1 n vv (ys ++ Rt.valsC S m k) ∧ (ys ++ Rt.valsC S m k).length = 10 + 2 * k)
        (fun i _ _ _ => 5 - (intOf i).toNat)
      case atStart => exact ⟨0, vv, by omega, rfl, by rw [Rt.valsC, List.append_nil]; exact unhide HI, by rw [Rt.valsC, List.append_nil]; exact unhide HLN⟩
      case round =>
        obtain ⟨k, vv, hk, rfl, hI, hlen⟩ := hrel
        have HI := hide hI
        have HLN := hide hlen
        clear hlen
        by_cases hlt : k < 4
        · have hlt' : (k : Int) < 4 := by omega
          have HST := hide (show ys ++ Rt.valsC S m (k + 1) = (ys ++ Rt.valsC S m k) ++ [(Rt.cellR S m ⟨#[116]⟩ (k : Int)).1, (Rt.cellR S m ⟨#[116]⟩ (k : Int)).2] by rw [Rt.valsC, List.append_assoc])
          have HVL := hide ((unhide HM wr hI.below).2.1 ⟨#[116]⟩ (k : Int))
          clear hI
          generalize (Rt.cellR S m ⟨#[116]⟩ (k : Int)).1 = a at *
          generalize (Rt.cellR S m ⟨#[116]⟩ (k : Int)).2 = b at *
          go_wp2_with fail
          refine (unhide HVL).mono ?_
          rintro e w2 ⟨rfl, hb2⟩
          have hI2 := (unhide HI).later hb2
          generalize ys ++ Rt.valsC S m k = xs at *
          have hxl : xs.length ≤ 20 := by have := unhide HLN; omega
          obtain ⟨q0, q1, q2, q3, q4, q5, q6, q7, q8, qz⟩ := nine_any hI2.view
          have hown := hI2.row
          obtain ⟨vad, vcap, rfl⟩ := ownsRow_form hown
          have HI2 := hide hI2
          have hV2 := block_lt hI2.view
          have hN2 := block_lt hI2.names
          clear hI2 hb2 q0 q1 q2 q3 q4 q5 q7 q8 HVL
          go_wp2_with (at_builtin; refine wpList_append_own _ rfl _ _ 22 rfl (V + 2) 3 i0 _ 1 8 Tryz.underlying22 hi0 hz0 hz1 hz2 rfl (by decide) _ _ _ rfl (hown.alloc _) ⟨_, 0, none⟩ 2 2 [.int .i64 a, .int .i64 b] rfl rfl (cell_two_new _ _ _ _) ?c2 ?c3 ?c4 ?c5 ?_)
          case c2 => intro u hu; simp at hu; rcases hu with rfl | rfl <;> rfl
          case c3 => unfold maxLen; omega
          case c4 => omega
          case c5 => simp; omega
          intro v' w3 hown3 hgrow _
          obtain ⟨vad', vcap', rfl⟩ := ownsRow_form hown3
          have hI3 := (unhide HI2).more hgrow hown3
          have hv3 : w3.heap[V]? = some (.cells (vwC f1 l1 d1 n (.slice vad xs.length vcap) (.slice none 0 0) (.slice none 0 0)) 56 (0, 0)) := by
            have hbx : Below (V + 2) w2 w3 := Below.grown ((Below.refl (V + 2) w2).alloc (by omega) _) hgrow (by simp; omega) (fun q hq => ((unhide HI2).row.lt q hq).1)
            exact (hbx.block _ (by omega)).trans (unhide HI2).view
          obtain ⟨q0, q1, q2, q3, q4, q5, q6, q7, q8, qz⟩ := nine_any hv3
          have HF := hide hI3
          clear hown3 hgrow hown hI3 hv3 q0 q1 q2 q3 q4 q5 q7 q8
          go_wp2_with fail
          go_roundw
          case rel => exact ⟨k + 1, _, by omega, by go_num, by rw [unhide HST]; exact unhide HF, by rw [unhide HST, List.length_append, unhide HLN]; show 10 + 2 * k + 2 = 10 + 2 * (k + 1); omega⟩
          case measure => simp [intOf]; omega
        · obtain rfl : k = 4 := by omega
          have hlt' : ¬ ((4 : Nat) : Int) < 4 := by omega
          clear hI
          rw [← unhide HL0] at HI
          clear HL0 HLN
          go_wp2_with fail
          refine ((unhide HM _ (unhide HI).below).2.2.1).mono ?_
          rintro e w2 ⟨hb2, vc, rfl, hvc⟩
          have hI2 := (unhide HI).later hb2
          obtain ⟨cad, ccap, rfl⟩ := ownsRow_form hvc
          obtain ⟨q0, q1, q2, q3, q4, q5, q6, q7, q8, qz⟩ := nine_any hI2.view
          have hV2 := block_lt hI2.view
          have hwl := (unhide HI).below.size
          have hVr := block_lt (unhide HI).names
          have bV3 := set_block hI2.view 7 (.slice cad (Rt.callsL m).length ccap)
          have hbS : Below w.heap.size w (w2.setCell ⟨V, 7, none⟩ (.slice cad (Rt.callsL m).length ccap)) := hI2.below.setCell (p := ⟨V, 7, none⟩) (Nat.le_of_lt hI2.lt) _
          have hr3 := own_set1 hI2.row (N := V) (i := 7) (fun g hg => by have := (hI2.row.lt g hg).1; omega) (.slice cad (Rt.callsL m).length ccap)
          have hc3 := own_set1 hvc (N := V) (i := 7) (fun g hg => by have := (hvc.lt g hg).1; omega) (.slice cad (Rt.callsL m).length ccap)
          have hz3 : (w2.setCell ⟨V, 7, none⟩ (.slice cad (Rt.callsL m).length ccap)).heap[w.heap.size]? = some (.cells vwZ 56 (0, 0)) := by
            rw [Below.heap_setCell w2 ⟨V, 7, none⟩ _ w.heap.size (by show w.heap.size ≠ V; have := hI2.lt; omega)]; exact hI2.res
          have H3 := hide (And.intro hbS (And.intro bV3 (And.intro hr3 (And.intro hc3 (And.intro hz3 (And.intro hI2.lt hwl))))))
          clear hI2 hb2 hvc hbS bV3 hr3 hc3 hz3 q0 q1 q2 q3 q4 q5 q6 q8
          generalize hcl : (Rt.callsL m).length = cl at *
          have HCL := hide hcl
          clear hcl
          go_wp2_with fail
          refine ((unhide HM _ (unhide H3).1).2.2.2).mono ?_
          rintro e w4 ⟨hb4, vo, rfl, hvo⟩
          obtain ⟨oad, ocap, rfl⟩ := ownsRow_form hvo
          obtain ⟨g1, g2, g3, g4, g5, g6, g7⟩ := unhide H3
          have bV4 : w4.heap[V]? = some (.cells #[.int .i64 0, .int .i64 0, .int .i64 f1, .int .i64 l1, .int .i64 d1, .int .i64 (n : Int), vv, .slice cad cl ccap, .slice none 0 0] 56 (0, 0)) := by
            have := block_later g2 hb4
            simpa [vwC] using this
          have bR4 := block_later g5 hb4
          have hVX := block_lt g2
          have r4 := own_later g3 hb4
          have c4 := own_later g4 hb4
          have hb5 := g1.trans (hb4.mono g1.size)
          have hge : w.heap.size ≤ V + 2 := by omega
          have hgs := g1.size
          have hcV : ∀ q, (Value.slice cad cl ccap).ownBlock = some q → q ≠ w.heap.size ∧ q ≠ V := fun q hq => by have := (c4.lt q hq).1; omega
          have hoV : ∀ q, (Value.slice oad m.output.length ocap).ownBlock = some q → q ≠ w.heap.size ∧ q ≠ V := fun q hq => by have := (hvo.lt q hq).1; omega
          have hrV : ∀ q, vv.ownBlock = some q → q ≠ w.heap.size ∧ q ≠ V := fun q hq => by have := (r4.lt q hq).1; omega
          have HF := hide (fun (a b c d e' f g h' i u : Value) => And.intro (below_set9 (hb5.setCell (p := ⟨V, 8, none⟩) (Nat.le_of_lt g6) u) (Nat.le_refl _) a b c d e' f g h' i) (And.intro (ownsRow_mono (own_set9 (own_set1 r4 (N := V) (i := 8) (fun q hq => (hrV q hq).2) u) (N := w.heap.size) (fun q hq => (hrV q hq).1) a b c d e' f g h' i) hge) (And.intro (ownsRow_mono (own_set9 (own_set1 c4 (N := V) (i := 8) (fun q hq => (hcV q hq).2) u) (N := w.heap.size) (fun q hq => (hcV q hq).1) a b c d e' f g h' i) g7) (ownsRow_mono (own_set9 (own_set1 hvo (N := V) (i := 8) (fun q hq => (hoV q hq).2) u) (N := w.heap.size) (fun q hq => (hoV q hq).1) a b c d e' f g h' i) hgs))))
          obtain ⟨q0, q1, q2, q3, q4, q5, q6, q7, q8, qz⟩ := nine_any bV4
          unfold vwZ at bR4
          obtain ⟨z0, z1, z2, z3, z4, z5, z6, z7, z8, zz⟩ := nine_any bR4
          have hne1 : ¬ w.heap.size = V := by omega
          have hne2 : ¬ V = w.heap.size := by omega
          obtain ⟨vad, vcap, rfl⟩ := ownsRow_form r4
          clear g1 g2 g3 g4 g5 bV4 bR4 r4 c4 hb5 hvo hb4 hcV hoV hrV H3
          go_wp2_with fail
          refine bodyPost_ret (v := .agg (vwC f1 l1 d1 n (.slice vad (Rt.valuesL S m).length vcap) (.slice cad cl ccap) (.slice oad m.output.length ocap))) ?_ rfl ⟨(unhide HF _ _ _ _ _ _ _ _ _ _).1, _, _, _, rfl, (unhide HF _ _ _ _ _ _ _ _ _ _).2.1, by rw [unhide HCL]; exact (unhide HF _ _ _ _ _ _ _ _ _ _).2.2.1, (unhide HF _ _ _ _ _ _ _ _ _ _).2.2.2⟩
          simp [results, Tryz.results25, go_sem, z0, z1, z2, z3, z4, z5, z6, z7, z8, vwC]
end Go.Proofs.YtbpajiljfppjcaaGreatDoor

