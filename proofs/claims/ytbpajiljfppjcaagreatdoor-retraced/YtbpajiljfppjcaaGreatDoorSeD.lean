/- More of moves as places of the run: plain. -/
import Derived.Test.YtbpajiljfppjcaaGreatDoorSeC
import Derived.Test.YtbpajiljfppjcaaGreatDoorRtTidy
import Derived.Test.YtbpajiljfppjcaaGreatDoorStA
namespace Go.Proofs.YtbpajiljfppjcaaGreatDoor
open Go.RowKit
attribute [local go_sem ↓] Go.wp_at_zero Go.wp_at_succ

namespace Rt
def nmL : List ByteArray := [⟨#[120]⟩, ⟨#[121]⟩, ⟨#[122]⟩, ⟨#[112]⟩, ⟨#[113]⟩]
/-- What is seen of the first names. -/
def valsN (S : Src) (m : Mc) : List ByteArray → List Int
  | [] => []
  | x :: r => (valueR S m x).1 :: (valueR S m x).2 :: valsN S m r
/-- What is seen of the array's first cells. -/
def valsC (S : Src) (m : Mc) : Nat → List Int
  | 0 => []
  | k + 1 => valsC S m k ++ [(cellR S m ⟨#[116]⟩ k).1, (cellR S m ⟨#[116]⟩ k).2]
theorem valsN_app (S : Src) (m : Mc) : ∀ (a : List ByteArray) (x : ByteArray), valsN S m (a ++ [x]) = valsN S m a ++ [(valueR S m x).1, (valueR S m x).2]
  | [], _ => rfl
  | y :: r, x => by rw [List.cons_append, valsN, valsN_app S m r x, valsN]; rfl
theorem valsN_step (S : Src) (m : Mc) (l : List ByteArray) (k : Nat) (hk : k < l.length) : valsN S m (l.take (k + 1)) = valsN S m (l.take k) ++ [(valueR S m l[k]).1, (valueR S m l[k]).2] := by
  rw [← valsN_app, List.take_add_one, List.getElem?_eq_getElem hk]
  rfl
def valuesL (S : Src) (m : Mc) : List Int := valsN S m nmL ++ valsC S m 4
end Rt
abbrev W9 (w : World) (N : Nat) (a b c d e f g h i : Value) : World := ((((((((w.setCell ⟨N, 0, none⟩ a).setCell ⟨N, 1, none⟩ b).setCell ⟨N, 2, none⟩ c).setCell ⟨N, 3, none⟩ d).setCell ⟨N, 4, none⟩ e).setCell ⟨N, 5, none⟩ f).setCell ⟨N, 6, none⟩ g).setCell ⟨N, 7, none⟩ h).setCell ⟨N, 8, none⟩ i
theorem own_set1 {w : World} {B : Nat} {e : TypeId} {size n : Nat} {v : Value} {xs : List Value} (h : w.ownsRow B e size v n xs) {N i : Nat} (hn : ∀ g, v.ownBlock = some g → g ≠ N) (u : Value) : (w.setCell ⟨N, i, none⟩ u).ownsRow B e size v n xs := own_same h (fun g hg => Below.heap_setCell w ⟨N, i, none⟩ u g (hn g hg))
theorem own_set9 {w : World} {B : Nat} {e : TypeId} {size n : Nat} {v : Value} {xs : List Value} (h : w.ownsRow B e size v n xs) {N : Nat} (hN : ∀ q, v.ownBlock = some q → q ≠ N) (a b c d e' f g h' i : Value) : (W9 w N a b c d e' f g h' i).ownsRow B e size v n xs :=
  own_set1 (own_set1 (own_set1 (own_set1 (own_set1 (own_set1 (own_set1 (own_set1 (own_set1 h hN a) hN b) hN c) hN d) hN e') hN f) hN g) hN h') hN i
theorem below_set9 {B N : Nat} {w w1 : World} (h : Below B w w1) (hN : B ≤ N) (a b c d e f g h' i : Value) : Below B w (W9 w1 N a b c d e f g h' i) :=
  ((((((((h.setCell (p := ⟨N, 0, none⟩) hN a).setCell (p := ⟨N, 1, none⟩) hN b).setCell (p := ⟨N, 2, none⟩) hN c).setCell (p := ⟨N, 3, none⟩) hN d).setCell (p := ⟨N, 4, none⟩) hN e).setCell (p := ⟨N, 5, none⟩) hN f).setCell (p := ⟨N, 6, none⟩) hN g).setCell (p := ⟨N, 7, none⟩) hN h').setCell (p := ⟨N, 8, none⟩) hN i
theorem nine_any {w : World} {b : Nat} {v0 v1 v2 v3 v4 v5 v6 v7 v8 : Value} {t : TypeId} (h : w.heap[b]? = some (.cells #[v0, v1, v2, v3, v4, v5, v6, v7, v8] t (0, 0))) : w.cell? ⟨b, 0, none⟩ = some v0 ∧ w.cell? ⟨b, 1, none⟩ = some v1 ∧ w.cell? ⟨b, 2, none⟩ = some v2 ∧ w.cell? ⟨b, 3, none⟩ = some v3 ∧ w.cell? ⟨b, 4, none⟩ = some v4 ∧ w.cell? ⟨b, 5, none⟩ = some v5 ∧ w.cell? ⟨b, 6, none⟩ = some v6 ∧ w.cell? ⟨b, 7, none⟩ = some v7 ∧ w.cell? ⟨b, 8, none⟩ = some v8 ∧ ∀ i, w.frozen? ⟨b, i, none⟩ = false := by
  refine ⟨?_, ?_, ?_, ?_, ?_, ?_, ?_, ?_, ?_, fun i => free_of_block h i⟩
  · have := cell_of_block h 0 (by simp); simpa using this
  · have := cell_of_block h 1 (by simp); simpa using this
  · have := cell_of_block h 2 (by simp); simpa using this
  · have := cell_of_block h 3 (by simp); simpa using this
  · have := cell_of_block h 4 (by simp); simpa using this
  · have := cell_of_block h 5 (by simp); simpa using this
  · have := cell_of_block h 6 (by simp); simpa using this
  · have := cell_of_block h 7 (by simp); simpa using this
  · have := cell_of_block h 8 (by simp); simpa using this
/-- The block of the view that is being made. -/
def vwC (f l d n : Int) (v c o : Value) : Array Value := #[.int .i64 0, .int .i64 0, .int .i64 f, .int .i64 l, .int .i64 d, .int .i64 n, v, c, o]
def vwZ : Array Value := #[.int .i64 0, .int .i64 0, .int .i64 0, .int .i64 0, .int .i64 0, .int .i64 0, .slice none 0 0, .slice none 0 0, .slice none 0 0]
def nmA : Array Value := #[.string ⟨#[120]⟩, .string ⟨#[121]⟩, .string ⟨#[122]⟩, .string ⟨#[112]⟩, .string ⟨#[113]⟩]
/-- What look's loops keep: the view's block V, the names', the result's. -/
structure LkI (w wr : World) (V : Nat) (f l d n : Int) (vv : Value) (xs : List Int) : Prop where
  below : Below w.heap.size w wr
  res : wr.heap[w.heap.size]? = some (.cells vwZ 56 (0, 0))
  view : wr.heap[V]? = some (.cells (vwC f l d n vv (.slice none 0 0) (.slice none 0 0)) 56 (0, 0))
  names : wr.heap[V + 1]? = some (.cells nmA 9 (0, 0))
  row : wr.ownsRow (V + 2) 3 1 vv xs.length (intsV xs)
  lt : w.heap.size < V
theorem LkI.later {w wr w2 : World} {V : Nat} {f l d n : Int} {vv : Value} {xs : List Int} (h : LkI w wr V f l d n vv xs) (hb : Below wr.heap.size wr w2) : LkI w w2 V f l d n vv xs :=
  ⟨h.below.trans (hb.mono h.below.size), block_later h.res hb, block_later h.view hb, block_later h.names hb, own_later h.row hb, h.lt⟩
/-- Two more numbers are appended. -/
theorem LkI.more {w w2 w3 : World} {V : Nat} {f l d n : Int} {vv v' : Value} {xs : List Int} {a b : Int} (h : LkI w w2 V f l d n vv xs) {o : Obj} (hg : (w2.alloc o).grownBy w3 vv.ownBlock) (ho : w3.ownsRow (V + 2) 3 1 v' (xs.length + 2) (intsV xs ++ [.int .i64 a, .int .i64 b])) : LkI w (w3.setCell ⟨V, 6, none⟩ v') V f l d n v' (xs ++ [a, b]) := by
  have hN := block_lt h.names
  have hlt := h.lt
  have hbx : Below (V + 2) w2 w3 := Below.grown ((Below.refl (V + 2) w2).alloc (by omega) _) hg (by simp; omega) (fun q hq => (h.row.lt q hq).1)
  have hr := (hbx.block _ (by omega)).trans h.res
  have hv := (hbx.block _ (by omega)).trans h.view
  have hn := (hbx.block _ (by omega)).trans h.names
  refine ⟨((h.below.trans (hbx.mono (B' := w.heap.size) (by omega)))).setCell (p := ⟨V, 6, none⟩) (by show w.heap.size ≤ V; omega) v', ?_, ?_, ?_, ?_, hlt⟩
  · rw [Below.heap_setCell w3 ⟨V, 6, none⟩ v' w.heap.size (by show w.heap.size ≠ V; omega)]; exact hr
  · have := set_block hv 6 v'
    simpa [vwC] using this
  · rw [Below.heap_setCell w3 ⟨V, 6, none⟩ v' (V + 1) (by show V + 1 ≠ V; omega)]; exact hn
  · rw [List.length_append, intsV, List.map_append]
    exact own_set1 ho (fun g hg => by have := (ho.lt g hg).1; omega) v'
set_option maxHeartbeats 4000000 in
set_option maxRecDepth 100000 in
theorem look_any (w : World) (P B : Nat) (S : Rt.Src) (cap : Int) (n low : Nat) (mk : List Bool) (X : McX) (jv : Value) (h : Sess w P B S cap n low mk X jv) (hc : Cst S cap mk) (m : Rt.Mc) (hm : Rt.atM S n = m) (f1 l1 d1 : Int) (hf : m.fin = f1) (hl : m.line = l1) (hd : (m.frames.length : Int) = d1) :
    Calls Tryz.prog 25 #[.pointer (some ⟨P, 0, none⟩)] w fun e w' => Below w.heap.size w w' ∧ ∃ va vc vo, e = .returned (.agg (vwC f1 l1 d1 n va vc vo)) ∧ w'.ownsRow w.heap.size 3 1 va (Rt.valuesL S m).length (intsV (Rt.valuesL S m)) ∧ w'.ownsRow w.heap.size 3 1 vc (Rt.callsL m).length (intsV (Rt.callsL m)) ∧ w'.ownsRow w.heap.size 3 1 vo m.output.length (intsV m.output) := by
  obtain ⟨i0, hi0, hz0, hz1, hz2⟩ := info_parts Tryz.infoIntK
  have hkg := hc.plc.keep n
  have HM := hide (fun (W : World) (hW : Below w.heap.size w W) => And.intro (fun x => sValue_any W P B S cap _ X jv x (h.ses.later hW) hkg.mok) (And.intro (fun x i => sCell_any W P B S cap _ X jv x i (h.ses.later hW) hkg.mok) (And.intro (sCalls_any W P B S cap _ X jv (h.ses.later hW) hkg.mok.frames hkg.lo) (sOutput_any W P B S cap _ X jv (h.ses.later hW) hkg.mok.output))))
  have HH := hide h
  clear h hc hkg
  go_enter Tryz.func25, Tryz.ntmps25
  go_wp2_with fail
  have hbZ := (Below.refl w.heap.size w).alloc (Nat.le_refl _) (.cells #[.int .i64 0, .int .i64 0, .int .i64 0, .int .i64 0, .int .i64 0, .int .i64 0, .slice none 0 0, .slice none 0 0, .slice none 0 0] 56)
  have bV0 := heap_alloc_new w (.cells #[.int .i64 0, .int .i64 0, .int .i64 0, .int .i64 0, .int .i64 0, .int .i64 0, .slice none 0 0, .slice none 0 0, .slice none 0 0] 56)
  refine ((unhide HH).later hbZ).whereS.mono ?_
  rintro e w1 ⟨rfl, hb1⟩
  have bV1 := block_later bV0 hb1
  have hlt1 : w.heap.size < w1.heap.size := by have := hb1.size; simp at this; omega
  have HB1 := hide (And.intro (hbZ.trans (hb1.mono (B' := w.heap.size) (by simp))) bV1)
  clear hb1 hbZ bV0 bV1 HH
  unfold replyN
  have em : (Rt.seAt S n low mk).m = m := hm
  rw [em] at HM
  rw [hm, hf, hl, hd]
  clear em hm hf hl hd
  go_wp2_with fail
  obtain ⟨V, hV⟩ : ∃ V, V = w1.heap.size := ⟨_, rfl⟩
  have hI : LkI w ((w1.alloc (.cells #[.int .i64 0, .int .i64 0, .int .i64 f1, .int .i64 l1, .int .i64 d1, .int .i64 (n : Int), .slice none 0 0, .slice none 0 0, .slice none 0 0] 56)).alloc (.cells #[.string ⟨#[120]⟩, .string ⟨#[121]⟩, .string ⟨#[122]⟩, .string ⟨#[112]⟩, .string ⟨#[113]⟩] 9)) V f1 l1 d1 n (.slice none 0 0) [] := by
    have hbB := ((Below.refl w1.heap.size w1).alloc (Nat.le_refl _) (.cells #[.int .i64 0, .int .i64 0, .int .i64 f1, .int .i64 l1, .int .i64 d1, .int .i64 (n : Int), .slice none 0 0, .slice none 0 0, .slice none 0 0] 56)).alloc (by simp) (.cells #[.string ⟨#[120]⟩, .string ⟨#[121]⟩, .string ⟨#[122]⟩, .string ⟨#[112]⟩, .string ⟨#[113]⟩] 9)
    refine ⟨(unhide HB1).1.trans (hbB.mono (unhide HB1).1.size), block_later (unhide HB1).2 hbB, ?_, ?_, World.ownsRow_nil _ _ _ _, by omega⟩
    · rw [hV]; exact block_alloc (heap_alloc_new w1 _) _
    · rw [hV]; exact alloc2_plain w1 _ _
  have HI := hide hI
  clear hI HB1
  rw [← hV]
  revert HI
  generalize (w1.alloc (.cells #[.int .i64 0, .int .i64 0, .int .i64 f1, .int .i64 l1, .int .i64 d1, .int .i64 (n : Int), .slice none 0 0, .slice none 0 0, .slice none 0 0] 56)).alloc (.cells #[.string ⟨#[120]⟩, .string ⟨#[121]⟩, .string ⟨#[122]⟩, .string ⟨#[112]⟩, .string ⟨#[113]⟩] 9) = wA
  intro HI
  clear hV hlt1
  go_loopw [5, 6, 7] (fun i _ _ wr => ∃ (k : Nat) (vv : Value), k ≤ 5 ∧ i = .int .i64 k ∧ LkI w wr V f1 l1 d1 n vv (Rt.valsN S m (Rt.nmL.take k)) ∧ (Rt.valsN S m (Rt.nmL.take k)).length = 2 * k)
    (fun i _ _ _ => 6 - (intOf i).toNat)
  case atStart => exact ⟨0, _, by omega, rfl, unhide HI, rfl⟩
  case round =>
    obtain ⟨k, vv, hk, rfl, hI, hlen⟩ := hrel
    have HI := hide hI
    have HLN := hide hlen
    clear hlen
    by_cases hlt : k < 5
    · have hlt' : (k : Int) < 5 := by omega
      have hk0 : (0 : Int) ≤ (k : Int) := by omega
      have hln : k < Rt.nmL.length := hlt
      have cN : wr.cell? ⟨V + 1, k, none⟩ = some (.string Rt.nmL[k]) := by
        have := cell_of_block hI.names k (by simp [nmA]; omega)
        rw [this]
        congr 1
        match k, hlt with
        | 0, _ => rfl
        | 1, _ => rfl
        | 2, _ => rfl
        | 3, _ => rfl
        | 4, _ => rfl
      have HST := hide (Rt.valsN_step S m Rt.nmL k hln)
      have HVL := hide ((unhide HM wr hI.below).1 Rt.nmL[k])
      clear hI
      generalize Rt.nmL[k] = x at *
      go_wp2_with fail
      refine (unhide HVL).mono ?_
      rintro e w2 ⟨rfl, hb2⟩
      have hI2 := (unhide HI).later hb2
      generalize (Rt.valueR S m x).1 = a at *
      generalize (Rt.valueR S m x).2 = b at *
      generalize Rt.valsN S m (Rt.nmL.take k) = xs at *
      have hxl : xs.length ≤ 12 := by have := unhide HLN; omega
      obtain ⟨q0, q1, q2, q3, q4, q5, q6, q7, q8, qz⟩ := nine_any hI2.view
      have hown := hI2.row
      obtain ⟨vad, vcap, rfl⟩ := ownsRow_form hown
      have HI2 := hide hI2
      have hV2 := block_lt hI2.view
      have hN2 := block_lt hI2.names
      clear hI2 hb2 cN q0 q1 q2 q3 q4 q5 q7 q8 HVL
      go_wp2_with (at_builtin; refine wpList_append_own _ rfl _ _ 22 rfl (V + 2) 3 i0 _ 1 8 Tryz.underlying22 hi0 hz0 hz1 hz2 rfl (by decide) _ _ _ rfl (hown.alloc _) ⟨_, 0, none⟩ 2 2 [.int .i64 a, .int .i64 b] rfl rfl (cell_two_new _ _ _ _) ?c2 ?c3 ?c4 ?c5 ?_)
      case c2 => intro u hu; simp at hu; rcases hu with rfl | rfl <;> rfl
      case c3 => unfold maxLen; omega
      case c4 => omega
      case c5 => simp; omega
      intro v' w3 hown3 hgrow _
      obtain ⟨vad', vcap', rfl⟩ := ownsRow_form hown3
      have hI3 := (unhide HI2).more hgrow hown3
      have hv3 : w3.heap[V]? = some (.cells (vwC f1 l1 d1 n (.slice vad xs.length vcap) (.slice none 0 0) (.slice none 0 0)) 56 (0, 0)) := by
        have hbx : Below (V + 2) w2 w3 := Below.grown ((Below.refl (V + 2) w2).alloc (by omega) _) hgrow (by simp; omega) (fun q hq => ((unhide HI2).row.lt q hq).1)
        exact (hbx.block _ (by omega)).trans (unhide HI2).view
      obtain ⟨q0, q1, q2, q3, q4, q5, q6, q7, q8, qz⟩ := nine_any hv3
      have HF := hide hI3
      clear hown3 hgrow hown hI3 hv3 q0 q1 q2 q3 q4 q5 q7 q8
      go_wp2_with fail
      go_roundw
      case rel => exact ⟨k + 1, _, by omega, by go_num, by rw [unhide HST]; exact unhide HF, by rw [unhide HST, List.length_append, unhide HLN]; rfl⟩
      case measure => simp [intOf]; omega
    · obtain rfl : k = 5 := by omega
      have hlt' : ¬ ((5 : Nat) : Int) < 5 := by omega
      clear hI
      have e5 : Rt.nmL.take 5 = Rt.nmL := rfl
      rw [e5] at HI HLN
      clear e5
      have HL0 := hide (show Rt.valuesL S m = Rt.valsN S m Rt.nmL ++ Rt.valsC S m 4 from rfl)
      generalize Rt.valsN S m Rt.nmL = ys at *
      go_wp2_with fail
      go_loopw [8, 9, 10] (fun i _ _ wr => ∃ (k : Nat) (vv : Value), k ≤ 4 ∧ i = .int .i64 k ∧ LkI w wr V f1 l1 d1 n vv (ys ++ Rt.valsC S m k) ∧ (ys ++ Rt.valsC S m k).length = 10 + 2 * k)
        (fun i _ _ _ => 5 - (intOf i).toNat)
      case atStart => exact ⟨0, vv, by omega, rfl, by rw [Rt.valsC, List.append_nil]; exact unhide HI, by rw [Rt.valsC, List.append_nil]; exact unhide HLN⟩
      case round =>
        obtain ⟨k, vv, hk, rfl, hI, hlen⟩ := hrel
        have HI := hide hI
        have HLN := hide hlen
        clear hlen
        by_cases hlt : k < 4
        · have hlt' : (k : Int) < 4 := by omega
          have HST := hide (show ys ++ Rt.valsC S m (k + 1) = (ys ++ Rt.valsC S m k) ++ [(Rt.cellR S m ⟨#[116]⟩ (k : Int)).1, (Rt.cellR S m ⟨#[116]⟩ (k : Int)).2] by rw [Rt.valsC, List.append_assoc])
          have HVL := hide ((unhide HM wr hI.below).2.1 ⟨#[116]⟩ (k : Int))
          clear hI
          generalize (Rt.cellR S m ⟨#[116]⟩ (k : Int)).1 = a at *
          generalize (Rt.cellR S m ⟨#[116]⟩ (k : Int)).2 = b at *
          go_wp2_with fail
          refine (unhide HVL).mono ?_
          rintro e w2 ⟨rfl, hb2⟩
          have hI2 := (unhide HI).later hb2
          generalize ys ++ Rt.valsC S m k = xs at *
          have hxl : xs.length ≤ 20 := by have := unhide HLN; omega
          obtain ⟨q0, q1, q2, q3, q4, q5, q6, q7, q8, qz⟩ := nine_any hI2.view
          have hown := hI2.row
          obtain ⟨vad, vcap, rfl⟩ := ownsRow_form hown
          have HI2 := hide hI2
          have hV2 := block_lt hI2.view
          have hN2 := block_lt hI2.names
          clear hI2 hb2 q0 q1 q2 q3 q4 q5 q7 q8 HVL
          go_wp2_with (at_builtin; refine wpList_append_own _ rfl _ _ 22 rfl (V + 2) 3 i0 _ 1 8 Tryz.underlying22 hi0 hz0 hz1 hz2 rfl (by decide) _ _ _ rfl (hown.alloc _) ⟨_, 0, none⟩ 2 2 [.int .i64 a, .int .i64 b] rfl rfl (cell_two_new _ _ _ _) ?c2 ?c3 ?c4 ?c5 ?_)
          case c2 => intro u hu; simp at hu; rcases hu with rfl | rfl <;> rfl
          case c3 => unfold maxLen; omega
          case c4 => omega
          case c5 => simp; omega
          intro v' w3 hown3 hgrow _
          obtain ⟨vad', vcap', rfl⟩ := ownsRow_form hown3
          have hI3 := (unhide HI2).more hgrow hown3
          have hv3 : w3.heap[V]? = some (.cells (vwC f1 l1 d1 n (.slice vad xs.length vcap) (.slice none 0 0) (.slice none 0 0)) 56 (0, 0)) := by
            have hbx : Below (V + 2) w2 w3 := Below.grown ((Below.refl (V + 2) w2).alloc (by omega) _) hgrow (by simp; omega) (fun q hq => ((unhide HI2).row.lt q hq).1)
            exact (hbx.block _ (by omega)).trans (unhide HI2).view
          obtain ⟨q0, q1, q2, q3, q4, q5, q6, q7, q8, qz⟩ := nine_any hv3
          have HF := hide hI3
          clear hown3 hgrow hown hI3 hv3 q0 q1 q2 q3 q4 q5 q7 q8
          go_wp2_with fail
          go_roundw
          case rel => exact ⟨k + 1, _, by omega, by go_num, by rw [unhide HST]; exact unhide HF, by rw [unhide HST, List.length_append, unhide HLN]; show 10 + 2 * k + 2 = 10 + 2 * (k + 1); omega⟩
          case measure => simp [intOf]; omega
        · obtain rfl : k = 4 := by omega
          have hlt' : ¬ ((4 : Nat) : Int) < 4 := by omega
          clear hI
          rw [← unhide HL0] at HI
          clear HL0 HLN
          go_wp2_with fail
          refine ((unhide HM _ (unhide HI).below).2.2.1).mono ?_
          rintro e w2 ⟨hb2, vc, rfl, hvc⟩
          have hI2 := (unhide HI).later hb2
          obtain ⟨cad, ccap, rfl⟩ := ownsRow_form hvc
          obtain ⟨q0, q1, q2, q3, q4, q5, q6, q7, q8, qz⟩ := nine_any hI2.view
          have hV2 := block_lt hI2.view
          have hwl := (unhide HI).below.size
          have hVr := block_lt (unhide HI).names
          have bV3 := set_block hI2.view 7 (.slice cad (Rt.callsL m).length ccap)
          have hbS : Below w.heap.size w (w2.setCell ⟨V, 7, none⟩ (.slice cad (Rt.callsL m).length ccap)) := hI2.below.setCell (p := ⟨V, 7, none⟩) (Nat.le_of_lt hI2.lt) _
          have hr3 := own_set1 hI2.row (N := V) (i := 7) (fun g hg => by have := (hI2.row.lt g hg).1; omega) (.slice cad (Rt.callsL m).length ccap)
          have hc3 := own_set1 hvc (N := V) (i := 7) (fun g hg => by have := (hvc.lt g hg).1; omega) (.slice cad (Rt.callsL m).length ccap)
          have hz3 : (w2.setCell ⟨V, 7, none⟩ (.slice cad (Rt.callsL m).length ccap)).heap[w.heap.size]? = some (.cells vwZ 56 (0, 0)) := by
            rw [Below.heap_setCell w2 ⟨V, 7, none⟩ _ w.heap.size (by show w.heap.size ≠ V; have := hI2.lt; omega)]; exact hI2.res
          have H3 := hide (And.intro hbS (And.intro bV3 (And.intro hr3 (And.intro hc3 (And.intro hz3 (And.intro hI2.lt hwl))))))
          clear hI2 hb2 hvc hbS bV3 hr3 hc3 hz3 q0 q1 q2 q3 q4 q5 q6 q8
          generalize hcl : (Rt.callsL m).length = cl at *
          have HCL := hide hcl
          clear hcl
          go_wp2_with fail
          refine ((unhide HM _ (unhide H3).1).2.2.2).mono ?_
          rintro e w4 ⟨hb4, vo, rfl, hvo⟩
          obtain ⟨oad, ocap, rfl⟩ := ownsRow_form hvo
          obtain ⟨g1, g2, g3, g4, g5, g6, g7⟩ := unhide H3
          have bV4 : w4.heap[V]? = some (.cells #[.int .i64 0, .int .i64 0, .int .i64 f1, .int .i64 l1, .int .i64 d1, .int .i64 (n : Int), vv, .slice cad cl ccap, .slice none 0 0] 56 (0, 0)) := by
            have := block_later g2 hb4
            simpa [vwC] using this
          have bR4 := block_later g5 hb4
          have hVX := block_lt g2
          have r4 := own_later g3 hb4
          have c4 := own_later g4 hb4
          have hb5 := g1.trans (hb4.mono g1.size)
          have hge : w.heap.size ≤ V + 2 := by omega
          have hgs := g1.size
          have hcV : ∀ q, (Value.slice cad cl ccap).ownBlock = some q → q ≠ w.heap.size ∧ q ≠ V := fun q hq => by have := (c4.lt q hq).1; omega
          have hoV : ∀ q, (Value.slice oad m.output.length ocap).ownBlock = some q → q ≠ w.heap.size ∧ q ≠ V := fun q hq => by have := (hvo.lt q hq).1; omega
          have hrV : ∀ q, vv.ownBlock = some q → q ≠ w.heap.size ∧ q ≠ V := fun q hq => by have := (r4.lt q hq).1; omega
          have HF := hide (fun (a b c d e' f g h' i u : Value) => And.intro (below_set9 (hb5.setCell (p := ⟨V, 8, none⟩) (Nat.le_of_lt g6) u) (Nat.le_refl _) a b c d e' f g h' i) (And.intro (ownsRow_mono (own_set9 (own_set1 r4 (N := V) (i := 8) (fun q hq => (hrV q hq).2) u) (N := w.heap.size) (fun q hq => (hrV q hq).1) a b c d e' f g h' i) hge) (And.intro (ownsRow_mono (own_set9 (own_set1 c4 (N := V) (i := 8) (fun q hq => (hcV q hq).2) u) (N := w.heap.size) (fun q hq => (hcV q hq).1) a b c d e' f g h' i) g7) (ownsRow_mono (own_set9 (own_set1 hvo (N := V) (i := 8) (fun q hq => (hoV q hq).2) u) (N := w.heap.size) (fun q hq => (hoV q hq).1) a b c d e' f g h' i) hgs))))
          obtain ⟨q0, q1, q2, q3, q4, q5, q6, q7, q8, qz⟩ := nine_any bV4
          unfold vwZ at bR4
          obtain ⟨z0, z1, z2, z3, z4, z5, z6, z7, z8, zz⟩ := nine_any bR4
          have hne1 : ¬ w.heap.size = V := by omega
          have hne2 : ¬ V = w.heap.size := by omega
          obtain ⟨vad, vcap, rfl⟩ := ownsRow_form r4
          clear g1 g2 g3 g4 g5 bV4 bR4 r4 c4 hb5 hvo hb4 hcV hoV hrV H3
          go_wp2_with fail
          refine bodyPost_ret (v := .agg (vwC f1 l1 d1 n (.slice vad (Rt.valuesL S m).length vcap) (.slice cad cl ccap) (.slice oad m.output.length ocap))) ?_ rfl ⟨(unhide HF _ _ _ _ _ _ _ _ _ _).1, _, _, _, rfl, (unhide HF _ _ _ _ _ _ _ _ _ _).2.1, by rw [unhide HCL]; exact (unhide HF _ _ _ _ _ _ _ _ _ _).2.2.1, (unhide HF _ _ _ _ _ _ _ _ _ _).2.2.2⟩
          simp [results, Tryz.results25, go_sem, z0, z1, z2, z3, z4, z5, z6, z7, z8, vwC]
end Go.Proofs.YtbpajiljfppjcaaGreatDoor

namespace Go.Proofs.YtbpajiljfppjcaaGreatDoor
open Go.RowKit
attribute [local go_sem ↓] Go.wp_at_zero Go.wp_at_succ

theorem sameInts_same (w : World) (B B' : Nat) (va vb : Value) (a : List Int) (ha : w.ownsRow B 3 1 va a.length (intsV a)) (hb : w.ownsRow B' 3 1 vb a.length (intsV a)) (hl : a.length ≤ 1000) :
    Calls Tryz.prog 46 #[va, vb] w fun e w' => e = .returned (.bool true) ∧ Below w.heap.size w w' :=
  (sameInts_keep w B B' va vb a a ha hb hl hl).mono (fun e w' h => ⟨by rw [h.1]; simp, h.2⟩)
set_option maxHeartbeats 4000000 in
set_option maxRecDepth 100000 in
theorem sameView_same (w : World) (B B' : Nat) (va vc vo va' vc' vo' : Value) (la lc lo : List Int) (f l d n : Int) (ha : w.ownsRow B 3 1 va la.length (intsV la)) (hc : w.ownsRow B 3 1 vc lc.length (intsV lc)) (ho : w.ownsRow B 3 1 vo lo.length (intsV lo)) (ha' : w.ownsRow B' 3 1 va' la.length (intsV la)) (hc' : w.ownsRow B' 3 1 vc' lc.length (intsV lc)) (ho' : w.ownsRow B' 3 1 vo' lo.length (intsV lo)) (l1 : la.length ≤ 1000) (l2 : lc.length ≤ 1000) (l3 : lo.length ≤ 1000) :
    Calls Tryz.prog 26 #[.agg #[.int .i64 0, .int .i64 0, .int .i64 f, .int .i64 l, .int .i64 d, .int .i64 n, va, vc, vo], .agg #[.int .i64 0, .int .i64 0, .int .i64 f, .int .i64 l, .int .i64 d, .int .i64 n, va', vc', vo']] w fun e w' => e = .returned (.bool true) ∧ Below w.heap.size w w' := by
  obtain ⟨aad, acap, rfl⟩ := ownsRow_form ha
  obtain ⟨cad, ccap, rfl⟩ := ownsRow_form hc
  obtain ⟨oad, ocap, rfl⟩ := ownsRow_form ho
  obtain ⟨aad', acap', rfl⟩ := ownsRow_form ha'
  obtain ⟨cad', ccap', rfl⟩ := ownsRow_form hc'
  obtain ⟨oad', ocap', rfl⟩ := ownsRow_form ho'
  have HS1 := hide (fun (W : World) (hW : Below w.heap.size w W) => sameInts_same W B B' _ _ la (own_later ha hW) (own_later ha' hW) l1)
  have HS2 := hide (fun (W : World) (hW : Below w.heap.size w W) => sameInts_same W B B' _ _ lc (own_later hc hW) (own_later hc' hW) l2)
  have HS3 := hide (fun (W : World) (hW : Below w.heap.size w W) => sameInts_same W B B' _ _ lo (own_later ho hW) (own_later ho' hW) l3)
  clear ha hc ho ha' hc' ho'
  generalize la.length = n1 at *
  generalize lc.length = n2 at *
  generalize lo.length = n3 at *
  go_enter Tryz.func26, Tryz.ntmps26
  go_wp2_with fail
  have hbA := ((Below.refl w.heap.size w).alloc (Nat.le_refl _) (.cells #[.int .i64 0, .int .i64 0, .int .i64 f, .int .i64 l, .int .i64 d, .int .i64 n, .slice aad n1 acap, .slice cad n2 ccap, .slice oad n3 ocap] 56)).alloc (by simp) (.cells #[.int .i64 0, .int .i64 0, .int .i64 f, .int .i64 l, .int .i64 d, .int .i64 n, .slice aad' n1 acap', .slice cad' n2 ccap', .slice oad' n3 ocap'] 56)
  have b1 := block_alloc (heap_alloc_new w (.cells #[.int .i64 0, .int .i64 0, .int .i64 f, .int .i64 l, .int .i64 d, .int .i64 n, .slice aad n1 acap, .slice cad n2 ccap, .slice oad n3 ocap] 56)) (.cells #[.int .i64 0, .int .i64 0, .int .i64 f, .int .i64 l, .int .i64 d, .int .i64 n, .slice aad' n1 acap', .slice cad' n2 ccap', .slice oad' n3 ocap'] 56)
  have b2 := alloc2_plain w (.cells #[.int .i64 0, .int .i64 0, .int .i64 f, .int .i64 l, .int .i64 d, .int .i64 n, .slice aad n1 acap, .slice cad n2 ccap, .slice oad n3 ocap] 56) (.cells #[.int .i64 0, .int .i64 0, .int .i64 f, .int .i64 l, .int .i64 d, .int .i64 n, .slice aad' n1 acap', .slice cad' n2 ccap', .slice oad' n3 ocap'] 56)
  have HB := hide (And.intro hbA (And.intro b1 b2))
  clear hbA b1 b2
  revert HB
  generalize (w.alloc (.cells #[.int .i64 0, .int .i64 0, .int .i64 f, .int .i64 l, .int .i64 d, .int .i64 n, .slice aad n1 acap, .slice cad n2 ccap, .slice oad n3 ocap] 56)).alloc (.cells #[.int .i64 0, .int .i64 0, .int .i64 f, .int .i64 l, .int .i64 d, .int .i64 n, .slice aad' n1 acap', .slice cad' n2 ccap', .slice oad' n3 ocap'] 56) = wA
  intro HB
  refine (unhide HS1 _ (unhide HB).1).mono ?_
  rintro e w1 ⟨rfl, hb1⟩
  have h1 := (unhide HB).1.trans (hb1.mono (unhide HB).1.size)
  have a1 := block_later (unhide HB).2.1 hb1
  have a2 := block_later (unhide HB).2.2 hb1
  obtain ⟨x0, x1, x2, x3, x4, x5, x6, x7, x8, xz⟩ := nine_any a1
  obtain ⟨y0, y1, y2, y3, y4, y5, y6, y7, y8, yz⟩ := nine_any a2
  have H1 := hide (And.intro h1 (And.intro a1 a2))
  clear h1 a1 a2 hb1 HB HS1
  go_wp2_with fail
  refine (unhide HS2 _ (unhide H1).1).mono ?_
  rintro e w2 ⟨rfl, hb2⟩
  have h1 := (unhide H1).1.trans (hb2.mono (unhide H1).1.size)
  have a1 := block_later (unhide H1).2.1 hb2
  have a2 := block_later (unhide H1).2.2 hb2
  clear x0 x1 x2 x3 x4 x5 x6 x7 x8 xz y0 y1 y2 y3 y4 y5 y6 y7 y8 yz
  obtain ⟨x0, x1, x2, x3, x4, x5, x6, x7, x8, xz⟩ := nine_any a1
  obtain ⟨y0, y1, y2, y3, y4, y5, y6, y7, y8, yz⟩ := nine_any a2
  have H2 := hide (And.intro h1 (And.intro a1 a2))
  clear h1 a1 a2 hb2 H1 HS2
  go_wp2_with fail
  refine (unhide HS3 _ (unhide H2).1).mono ?_
  rintro e w3 ⟨rfl, hb3⟩
  have h1 := (unhide H2).1.trans (hb3.mono (unhide H2).1.size)
  have a1 := block_later (unhide H2).2.1 hb3
  have a2 := block_later (unhide H2).2.2 hb3
  clear x0 x1 x2 x3 x4 x5 x6 x7 x8 xz y0 y1 y2 y3 y4 y5 y6 y7 y8 yz
  obtain ⟨x0, x1, x2, x3, x4, x5, x6, x7, x8, xz⟩ := nine_any a1
  obtain ⟨y0, y1, y2, y3, y4, y5, y6, y7, y8, yz⟩ := nine_any a2
  have H3 := hide h1
  clear h1 a1 a2 hb3 H2 HS3
  go_wp2_with fail
  go_ret
  exact ⟨rfl, unhide H3⟩
end Go.Proofs.YtbpajiljfppjcaaGreatDoor

namespace Go.Proofs.YtbpajiljfppjcaaGreatDoor
open Go.RowKit

namespace Rt
theorem recsOf_mono (S : Src) (lo : Nat) {k k' : Nat} (h : k ≤ k') : (recsOf S lo k).length ≤ (recsOf S lo k').length := by
  induction k' with
  | zero =>
    have : k = 0 := by omega
    rw [this]
    exact Nat.le_refl _
  | succ q ih =>
    by_cases e : k = q + 1
    · rw [e]; exact Nat.le_refl _
    · have := ih (by omega)
      rw [recsOf, List.length_append]
      omega
theorem lowJ_min (S : Src) (cap : Int) : ∀ j n low, low ≤ n → lowJ S cap j n low = low ∨ ∃ l, lowJ S cap j n low = l + 1 ∧ low ≤ l ∧ cap < (recsOf S l (n + j - l)).length
  | 0, _, _, _ => Or.inl rfl
  | j + 1, n, low, hl => by
    rw [lowJ]
    have hle : lowF S cap n low ≤ n + 1 := by
      have := lowR_le S cap (n + 1 - low) low
      unfold lowF
      omega
    have hge := lowF_ge S cap n low
    rcases lowJ_min S cap j (n + 1) (lowF S cap n low) hle with h | ⟨l, h1, h2, h3⟩
    · rw [h]
      rcases lowR_min S cap (n + 1 - low) low with g | ⟨l, g1, g2, g3⟩
      · exact Or.inl g
      · right
        refine ⟨l, g1, g2, ?_⟩
        have hm := recsOf_mono S l (show low + (n + 1 - low) - l ≤ n + (j + 1) - l by omega)
        omega
    · exact Or.inr ⟨l, h1, by omega, by rw [show n + (j + 1) - l = n + 1 + j - l by omega]; exact h3⟩
/-- So many steps can be taken back as there is room for at five records a step. -/
theorem lowJ_room {S : Src} (h4 : Call4 S) {cap : Int} {m : Nat} (hr : ∀ i, i < m → (atM S i).fin = 0) (h : lowJ S cap m 0 0 ≠ 0) (hle : lowJ S cap m 0 0 ≤ m) : cap / 5 ≤ ((m - lowJ S cap m 0 0 : Nat) : Int) := by
  rcases lowJ_min S cap m 0 0 (Nat.le_refl _) with g | ⟨l, g1, _, g3⟩
  · exact absurd g h
  · rw [g1] at hle ⊢
    have := (recsOf_len h4 l (0 + m - l) (fun i hi => hr i (by omega))).2
    omega
theorem bends_eq (S : Src) (mk : List Bool) (low : Nat) (kind fuel d0 : Int) (n k : Nat) : bendsN S mk low kind fuel d0 n k = if ¬ arrivedI (seAt S n 0 mk) kind d0 k = 0 then arrivedI (seAt S n 0 mk) kind d0 k else if n = 0 then 5 else if n = low then 6 else if fuel ≤ (k : Int) then 4 else 0 := by
  have e : bendsN S mk low kind fuel d0 n k = if ¬ arrivedI (seAt S n 0 mk) kind d0 k = 0 then arrivedI (seAt S n 0 mk) kind d0 k else if (n : Int) = 0 then 5 else if (n : Int) = (low : Int) then 6 else if fuel ≤ (k : Int) then 4 else 0 := rfl
  rw [e]
  have e1 : ((n : Int) = 0) = (n = 0) := by simp
  have e2 : ((n : Int) = (low : Int)) = (n = low) := propext ⟨fun h => by omega, fun h => by omega⟩
  simp only [e1, e2]
/-- Two sessions that come to no horizon go back alike. -/
theorem backN_alike (S : Src) (mk : List Bool) (la lb : Nat) (kind fuel d0 : Int) : ∀ (f n k : Nat), ¬ (backN S mk la kind fuel d0 f n k).2.2 = 6 → ¬ (backN S mk lb kind fuel d0 f n k).2.2 = 6 → backN S mk la kind fuel d0 f n k = backN S mk lb kind fuel d0 f n k
  | 0, _, _, _, _ => rfl
  | f + 1, n, k, ha, hb => by
    have key : bendsN S mk la kind fuel d0 n k = bendsN S mk lb kind fuel d0 n k := by
      rw [backN] at ha hb
      have ea := bends_eq S mk la kind fuel d0 n k
      have eb := bends_eq S mk lb kind fuel d0 n k
      rw [ea, eb]
      by_cases h0 : arrivedI (seAt S n 0 mk) kind d0 k = 0
      · rw [if_neg (not_not_intro h0)] at ea eb
        rw [if_neg (not_not_intro h0), if_neg (not_not_intro h0)]
        by_cases hn : n = 0
        · rw [if_pos hn, if_pos hn]
        · rw [if_neg hn] at ea eb
          rw [if_neg hn, if_neg hn]
          by_cases h1 : n = la
          · exfalso
            rw [if_pos h1] at ea
            rw [ea, if_neg (by omega)] at ha
            exact ha rfl
          · by_cases h2 : n = lb
            · exfalso
              rw [if_pos h2] at eb
              rw [eb, if_neg (by omega)] at hb
              exact hb rfl
            · rw [if_neg h1, if_neg h2]
      · rw [if_pos h0, if_pos h0]
    rw [backN, backN] at *
    rw [← key] at hb ⊢
    by_cases hz : bendsN S mk la kind fuel d0 n k = 0
    · rw [if_pos hz] at ha hb ⊢
      rw [if_pos hz]
      exact backN_alike S mk la lb kind fuel d0 f (n - 1) (k + 1) ha hb
    · rw [if_neg hz, if_neg hz]
theorem endsN_six (S : Src) (mk : List Bool) (kind fuel d0 : Int) (n k : Nat) : ¬ endsN S mk kind fuel d0 n k = 6 := by
  unfold endsN fwdEnds arrivedI
  repeat' split
  all_goals omega
theorem fwdN_six (S : Src) (mk : List Bool) (kind fuel d0 : Int) : ∀ (f n k : Nat), ¬ (fwdN S mk kind fuel d0 f n k).2.2 = 6
  | 0, _, _ => by rw [fwdN]; simp
  | f + 1, n, k => by
    rw [fwdN]
    split
    · exact fwdN_six S mk kind fuel d0 f (n + 1) (k + 1)
    · exact endsN_six S mk kind fuel d0 n k
/-- Two sessions of two capacities that come to no horizon move alike. -/
theorem moveN_alike (S : Src) (mk : List Bool) (la lb : Nat) (raw : Int) (n : Nat) (ha : ¬ (moveN S mk la raw n).2.2 = 6) (hb : ¬ (moveN S mk lb raw n).2.2 = 6) : moveN S mk la raw n = moveN S mk lb raw n := by
  unfold moveN at *
  split
  · rfl
  · next h =>
    rw [if_neg h] at ha hb
    exact backN_alike S mk la lb _ _ _ _ _ _ ha hb
/-- A step that has just been made can be taken back. -/
theorem lowF_le {S : Src} (h4 : Call4 S) {cap : Int} (hc : 5 ≤ cap) {n low : Nat} (hl : low ≤ n) : lowF S cap n low ≤ n := by
  rcases lowR_min S cap (n + 1 - low) low with g | ⟨l, g1, g2, g3⟩
  · unfold lowF; omega
  · have hle := lowR_le S cap (n + 1 - low) low
    unfold lowF
    by_cases e : l = n
    · exfalso
      subst e
      rw [show low + (l + 1 - low) - l = 0 + 1 by omega, recsOf, recsOf, List.nil_append, Nat.add_zero] at g3
      have := (step_par4 h4 (at_par4 h4 l)).2.1
      have e : (recsAt S l).length = (stepM S (atM S l)).2.length := rfl
      omega
    · omega
theorem recsOf_app (S : Src) (lo : Nat) (a : Nat) : ∀ b, recsOf S lo (a + b) = recsOf S lo a ++ recsOf S (lo + a) b
  | 0 => by simp [recsOf]
  | b + 1 => by rw [← Nat.add_assoc, recsOf, recsOf_app S lo a b, recsOf, List.append_assoc, Nat.add_assoc]
theorem recsOf_part (S : Src) {low lf n : Nat} (h1 : low ≤ lf) (h2 : lf ≤ n) : (recsOf S lf (n - lf)).length ≤ (recsOf S low (n - low)).length := by
  have := recsOf_app S low (lf - low) (n - lf)
  rw [show lf - low + (n - lf) = n - low by omega, show low + (lf - low) = lf by omega] at this
  rw [this, List.length_append]
  omega
end Rt
end Go.Proofs.YtbpajiljfppjcaaGreatDoor

