/- Views that are kept while a session moves. -/
import Derived.Test.YtbpajiljfppjcaaGreatDoorLkA
import Derived.Test.YtbpajiljfppjcaaGreatDoorSsD
namespace Go.Proofs.YtbpajiljfppjcaaGreatDoor
open Go.RowKit
attribute [local go_sem ↓] Go.wp_at_zero Go.wp_at_succ

theorem sameInts_same (w : World) (B B' : Nat) (va vb : Value) (a : List Int) (ha : w.ownsRow B 3 1 va a.length (intsV a)) (hb : w.ownsRow B' 3 1 vb a.length (intsV a)) (hl : a.length ≤ 1000) :
    Calls Tryz.prog 46 #[va, vb] w fun e w' => e = .returned (.bool true) ∧ Below w.heap.size w w' :=
  (sameInts_keep w B B' va vb a a ha hb hl hl).mono (fun e w' h => ⟨by rw [h.1]; simp, h.2⟩)
set_option maxHeartbeats 4000000 in
set_option maxRecDepth 100000 in
theorem sameView_same (w : World) (B B' : Nat) (va vc vo va' vc' vo' : Value) (la lc lo : List Int) (f l d n : Int) (ha : w.ownsRow B 3 1 va la.length (intsV la)) (hc : w.ownsRow B 3 1 vc lc.length (intsV lc)) (ho : w.ownsRow B 3 1 vo lo.length (intsV lo)) (ha' : w.ownsRow B' 3 1 va' la.length (intsV la)) (hc' : w.ownsRow B' 3 1 vc' lc.length (intsV lc)) (ho' : w.ownsRow B' 3 1 vo' lo.length (intsV lo)) (l1 : la.length ≤ 1000) (l2 : lc.length ≤ 1000) (l3 : lo.length ≤ 1000) :
    Calls Tryz.prog 26 #[.agg #[.int .i64 0, .int .i64 0, .int .i64 f, .int .i64 l, .int .i64 d, .int .i64 n, va, vc, vo], .agg #[.int .i64 0, .int .i64 0, .int .i64 f, .int .i64 l, .int .i64 d, .int .i64 n, va', vc', vo']] w fun e w' => e = .returned (.bool true) ∧ Below w.heap.size w w' := by
  obtain ⟨aad, acap, rfl⟩ := ownsRow_form ha
  obtain ⟨cad, ccap, rfl⟩ := ownsRow_form hc
  obtain ⟨oad, ocap, rfl⟩ := ownsRow_form ho
  obtain ⟨aad', acap', rfl⟩ := ownsRow_form ha'
  obtain ⟨cad', ccap', rfl⟩ := ownsRow_form hc'
  obtain ⟨oad', ocap', rfl⟩ := ownsRow_form ho'
  have HS1 := hide (fun (W : World) (hW : Below w.heap.size w W) => sameInts_same W B B' _ _ la (own_later ha hW) (own_later ha' hW) l1)
  have HS2 := hide (fun (W : World) (hW : Below w.heap.size w W) => sameInts_same W B B' _ _ lc (own_later hc hW) (own_later hc' hW) l2)
  have HS3 := hide (fun (W : World) (hW : Below w.heap.size w W) => sameInts_same W B B' _ _ lo (own_later ho hW) (own_later ho' hW) l3)
  clear ha hc ho ha' hc' ho'
  generalize la.length = n1 at *
  generalize lc.length = n2 at *
  generalize lo.length = n3 at *
  go_enter Tryz.func26, Tryz.ntmps26
  go_wp2_with fail
  have hbA := ((Below.refl w.heap.size w).alloc (Nat.le_refl _) (.cells #[.int .i64 0, .int .i64 0, .int .i64 f, .int .i64 l, .int .i64 d, .int .i64 n, .slice aad n1 acap, .slice cad n2 ccap, .slice oad n3 ocap] 56)).alloc (by simp) (.cells #[.int .i64 0, .int .i64 0, .int .i64 f, .int .i64 l, .int .i64 d, .int .i64 n, .slice aad' n1 acap', .slice cad' n2 ccap', .slice oad' n3 ocap'] 56)
  have b1 := block_alloc (heap_alloc_new w (.cells #[.int .i64 0, .int .i64 0, .int .i64 f, .int .i64 l, .int .i64 d, .int .i64 n, .slice aad n1 acap, .slice cad n2 ccap, .slice oad n3 ocap] 56)) (.cells #[.int .i64 0, .int .i64 0, .int .i64 f, .int .i64 l, .int .i64 d, .int .i64 n, .slice aad' n1 acap', .slice cad' n2 ccap', .slice oad' n3 ocap'] 56)
  have b2 := alloc2_plain w (.cells #[.int .i64 0, .int .i64 0, .int .i64 f, .int .i64 l, .int .i64 d, .int .i64 n, .slice aad n1 acap, .slice cad n2 ccap, .slice oad n3 ocap] 56) (.cells #[.int .i64 0, .int .i64 0, .int .i64 f, .int .i64 l, .int .i64 d, .int .i64 n, .slice aad' n1 acap', .slice cad' n2 ccap', .slice oad' n3 ocap'] 56)
  have HB := hide (And.intro hbA (And.intro b1 b2))
  clear hbA b1 b2
  revert HB
  generalize (w.alloc (.cells #[.int .i64 0, .int .i64 0, .int .i64 f, .int .i64 l, .int .i64 d, .int .i64 n, .slice aad n1 acap, .slice cad n2 ccap, .slice oad n3 ocap] 56)).alloc (.cells #[.int .i64 0, .int .i64 0, .int .i64 f, .int .i64 l, .int .i64 d, .int .i64 n, .slice aad' n1 acap', .slice cad' n2 ccap', .slice oad' n3 ocap'] 56) = wA
  intro HB
  refine (unhide HS1 _ (unhide HB).1).mono ?_
  rintro e w1 ⟨rfl, hb1⟩
  have h1 := (unhide HB).1.trans (hb1.mono (unhide HB).1.size)
  have a1 := block_later (unhide HB).2.1 hb1
  have a2 := block_later (unhide HB).2.2 hb1
  obtain ⟨x0, x1, x2, x3, x4, x5, x6, x7, x8, xz⟩ := nine_any a1
  obtain ⟨y0, y1, y2, y3, y4, y5, y6, y7, y8, yz⟩ := nine_any a2
  have H1 := hide (And.intro h1 (And.intro a1 a2))
  clear h1 a1 a2 hb1 HB HS1
  go_wp2_with fail
  refine (unhide HS2 _ (unhide H1).1).mono ?_
  rintro e w2 ⟨rfl, hb2⟩
  have h1 := (unhide H1).1.trans (hb2.mono (unhide H1).1.size)
  have a1 := block_later (unhide H1).2.1 hb2
  have a2 := block_later (unhide H1).2.2 hb2
  clear x0 x1 x2 x3 x4 x5 x6 x7 x8 xz y0 y1 y2 y3 y4 y5 y6 y7 y8 yz
  obtain ⟨x0, x1, x2, x3, x4, x5, x6, x7, x8, xz⟩ := nine_any a1
  obtain ⟨y0, y1, y2, y3, y4, y5, y6, y7, y8, yz⟩ := nine_any a2
  have H2 := hide (And.intro h1 (And.intro a1 a2))
  clear h1 a1 a2 hb2 H1 HS2
  go_wp2_with fail
  refine (unhide HS3 _ (unhide H2).1).mono ?_
  rintro e w3 ⟨rfl, hb3⟩
  have h1 := (unhide H2).1.trans (hb3.mono (unhide H2).1.size)
  have a1 := block_later (unhide H2).2.1 hb3
  have a2 := block_later (unhide H2).2.2 hb3
  clear x0 x1 x2 x3 x4 x5 x6 x7 x8 xz y0 y1 y2 y3 y4 y5 y6 y7 y8 yz
  obtain ⟨x0, x1, x2, x3, x4, x5, x6, x7, x8, xz⟩ := nine_any a1
  obtain ⟨y0, y1, y2, y3, y4, y5, y6, y7, y8, yz⟩ := nine_any a2
  have H3 := hide h1
  clear h1 a1 a2 hb3 H2 HS3
  go_wp2_with fail
  go_ret
  exact ⟨rfl, unhide H3⟩
end Go.Proofs.YtbpajiljfppjcaaGreatDoor

namespace Go.Proofs.YtbpajiljfppjcaaGreatDoor
open Go.RowKit

namespace Rt
theorem recsOf_mono (S : Src) (lo : Nat) {k k' : Nat} (h : k ≤ k') : (recsOf S lo k).length ≤ (recsOf S lo k').length := by
  induction k' with
  | zero =>
    have : k = 0 := by omega
    rw [this]
    exact Nat.le_refl _
  | succ q ih =>
    by_cases e : k = q + 1
    · rw [e]; exact Nat.le_refl _
    · have := ih (by omega)
      rw [recsOf, List.length_append]
      omega
theorem lowJ_min (S : Src) (cap : Int) : ∀ j n low, low ≤ n → lowJ S cap j n low = low ∨ ∃ l, lowJ S cap j n low = l + 1 ∧ low ≤ l ∧ cap < (recsOf S l (n + j - l)).length
  | 0, _, _, _ => Or.inl rfl
  | j + 1, n, low, hl => by
    rw [lowJ]
    have hle : lowF S cap n low ≤ n + 1 := by
      have := lowR_le S cap (n + 1 - low) low
      unfold lowF
      omega
    have hge := lowF_ge S cap n low
    rcases lowJ_min S cap j (n + 1) (lowF S cap n low) hle with h | ⟨l, h1, h2, h3⟩
    · rw [h]
      rcases lowR_min S cap (n + 1 - low) low with g | ⟨l, g1, g2, g3⟩
      · exact Or.inl g
      · right
        refine ⟨l, g1, g2, ?_⟩
        have hm := recsOf_mono S l (show low + (n + 1 - low) - l ≤ n + (j + 1) - l by omega)
        omega
    · exact Or.inr ⟨l, h1, by omega, by rw [show n + (j + 1) - l = n + 1 + j - l by omega]; exact h3⟩
/-- So many steps can be taken back as there is room for at five records a step. -/
theorem lowJ_room {S : Src} (h4 : Call4 S) {cap : Int} {m : Nat} (hr : ∀ i, i < m → (atM S i).fin = 0) (h : lowJ S cap m 0 0 ≠ 0) (hle : lowJ S cap m 0 0 ≤ m) : cap / 5 ≤ ((m - lowJ S cap m 0 0 : Nat) : Int) := by
  rcases lowJ_min S cap m 0 0 (Nat.le_refl _) with g | ⟨l, g1, _, g3⟩
  · exact absurd g h
  · rw [g1] at hle ⊢
    have := (recsOf_len h4 l (0 + m - l) (fun i hi => hr i (by omega))).2
    omega
theorem bends_eq (S : Src) (mk : List Bool) (low : Nat) (kind fuel d0 : Int) (n k : Nat) : bendsN S mk low kind fuel d0 n k = if ¬ arrivedI (seAt S n 0 mk) kind d0 k = 0 then arrivedI (seAt S n 0 mk) kind d0 k else if n = 0 then 5 else if n = low then 6 else if fuel ≤ (k : Int) then 4 else 0 := by
  have e : bendsN S mk low kind fuel d0 n k = if ¬ arrivedI (seAt S n 0 mk) kind d0 k = 0 then arrivedI (seAt S n 0 mk) kind d0 k else if (n : Int) = 0 then 5 else if (n : Int) = (low : Int) then 6 else if fuel ≤ (k : Int) then 4 else 0 := rfl
  rw [e]
  have e1 : ((n : Int) = 0) = (n = 0) := by simp
  have e2 : ((n : Int) = (low : Int)) = (n = low) := propext ⟨fun h => by omega, fun h => by omega⟩
  simp only [e1, e2]
/-- Two sessions that come to no horizon go back alike. -/
theorem backN_alike (S : Src) (mk : List Bool) (la lb : Nat) (kind fuel d0 : Int) : ∀ (f n k : Nat), ¬ (backN S mk la kind fuel d0 f n k).2.2 = 6 → ¬ (backN S mk lb kind fuel d0 f n k).2.2 = 6 → backN S mk la kind fuel d0 f n k = backN S mk lb kind fuel d0 f n k
  | 0, _, _, _, _ => rfl
  | f + 1, n, k, ha, hb => by
    have key : bendsN S mk la kind fuel d0 n k = bendsN S mk lb kind fuel d0 n k := by
      rw [backN] at ha hb
      have ea := bends_eq S mk la kind fuel d0 n k
      have eb := bends_eq S mk lb kind fuel d0 n k
      rw [ea, eb]
      by_cases h0 : arrivedI (seAt S n 0 mk) kind d0 k = 0
      · rw [if_neg (not_not_intro h0)] at ea eb
        rw [if_neg (not_not_intro h0), if_neg (not_not_intro h0)]
        by_cases hn : n = 0
        · rw [if_pos hn, if_pos hn]
        · rw [if_neg hn] at ea eb
          rw [if_neg hn, if_neg hn]
          by_cases h1 : n = la
          · exfalso
            rw [if_pos h1] at ea
            rw [ea, if_neg (by omega)] at ha
            exact ha rfl
          · by_cases h2 : n = lb
            · exfalso
              rw [if_pos h2] at eb
              rw [eb, if_neg (by omega)] at hb
              exact hb rfl
            · rw [if_neg h1, if_neg h2]
      · rw [if_pos h0, if_pos h0]
    rw [backN, backN] at *
    rw [← key] at hb ⊢
    by_cases hz : bendsN S mk la kind fuel d0 n k = 0
    · rw [if_pos hz] at ha hb ⊢
      rw [if_pos hz]
      exact backN_alike S mk la lb kind fuel d0 f (n - 1) (k + 1) ha hb
    · rw [if_neg hz, if_neg hz]
theorem endsN_six (S : Src) (mk : List Bool) (kind fuel d0 : Int) (n k : Nat) : ¬ endsN S mk kind fuel d0 n k = 6 := by
  unfold endsN fwdEnds arrivedI
  repeat' split
  all_goals omega
theorem fwdN_six (S : Src) (mk : List Bool) (kind fuel d0 : Int) : ∀ (f n k : Nat), ¬ (fwdN S mk kind fuel d0 f n k).2.2 = 6
  | 0, _, _ => by rw [fwdN]; simp
  | f + 1, n, k => by
    rw [fwdN]
    split
    · exact fwdN_six S mk kind fuel d0 f (n + 1) (k + 1)
    · exact endsN_six S mk kind fuel d0 n k
/-- Two sessions of two capacities that come to no horizon move alike. -/
theorem moveN_alike (S : Src) (mk : List Bool) (la lb : Nat) (raw : Int) (n : Nat) (ha : ¬ (moveN S mk la raw n).2.2 = 6) (hb : ¬ (moveN S mk lb raw n).2.2 = 6) : moveN S mk la raw n = moveN S mk lb raw n := by
  unfold moveN at *
  split
  · rfl
  · next h =>
    rw [if_neg h] at ha hb
    exact backN_alike S mk la lb _ _ _ _ _ _ ha hb
/-- A step that has just been made can be taken back. -/
theorem lowF_le {S : Src} (h4 : Call4 S) {cap : Int} (hc : 5 ≤ cap) {n low : Nat} (hl : low ≤ n) : lowF S cap n low ≤ n := by
  rcases lowR_min S cap (n + 1 - low) low with g | ⟨l, g1, g2, g3⟩
  · unfold lowF; omega
  · have hle := lowR_le S cap (n + 1 - low) low
    unfold lowF
    by_cases e : l = n
    · exfalso
      subst e
      rw [show low + (l + 1 - low) - l = 0 + 1 by omega, recsOf, recsOf, List.nil_append, Nat.add_zero] at g3
      have := (step_par4 h4 (at_par4 h4 l)).2.1
      have e : (recsAt S l).length = (stepM S (atM S l)).2.length := rfl
      omega
    · omega
theorem recsOf_app (S : Src) (lo : Nat) (a : Nat) : ∀ b, recsOf S lo (a + b) = recsOf S lo a ++ recsOf S (lo + a) b
  | 0 => by simp [recsOf]
  | b + 1 => by rw [← Nat.add_assoc, recsOf, recsOf_app S lo a b, recsOf, List.append_assoc, Nat.add_assoc]
theorem recsOf_part (S : Src) {low lf n : Nat} (h1 : low ≤ lf) (h2 : lf ≤ n) : (recsOf S lf (n - lf)).length ≤ (recsOf S low (n - low)).length := by
  have := recsOf_app S low (lf - low) (n - lf)
  rw [show lf - low + (n - lf) = n - low by omega, show low + (lf - low) = lf by omega] at this
  rw [this, List.length_append]
  omega
end Rt
end Go.Proofs.YtbpajiljfppjcaaGreatDoor

namespace Go.Proofs.YtbpajiljfppjcaaGreatDoor
open Go.RowKit
attribute [local go_sem ↓] Go.wp_at_zero Go.wp_at_succ

theorem valsC_len (S : Rt.Src) (m : Rt.Mc) : ∀ k, (Rt.valsC S m k).length = 2 * k
  | 0 => rfl
  | k + 1 => by rw [Rt.valsC, List.length_append, valsC_len S m k]; rfl
theorem values_len (S : Rt.Src) (m : Rt.Mc) : (Rt.valuesL S m).length = 18 := by
  unfold Rt.valuesL
  rw [List.length_append, valsC_len]
  rfl
/-- A view of a place, apart from a session. -/
structure Vw (w : World) (P : Nat) (X : McX) (jv : Value) (S : Rt.Src) (n : Nat) (va vc vo : Value) : Prop where
  a : w.ownsRow 0 3 1 va (Rt.valuesL S (Rt.atM S n)).length (intsV (Rt.valuesL S (Rt.atM S n)))
  c : w.ownsRow 0 3 1 vc (Rt.callsL (Rt.atM S n)).length (intsV (Rt.callsL (Rt.atM S n)))
  o : w.ownsRow 0 3 1 vo (Rt.atM S n).output.length (intsV (Rt.atM S n).output)
  pa : ∀ g, va.ownBlock = some g → g ∉ ownL P X jv
  pc : ∀ g, vc.ownBlock = some g → g ∉ ownL P X jv
  po : ∀ g, vo.ownBlock = some g → g ∉ ownL P X jv
def vwA (S : Rt.Src) (n : Nat) (va vc vo : Value) : Array Value := vwC (Rt.atM S n).fin (Rt.atM S n).line ((Rt.atM S n).frames.length : Int) n va vc vo
section
variable {w w' : World} {P B : Nat} {S : Rt.Src} {cap : Int} {n low : Nat} {mk : List Bool} {X X' : McX} {jv jv' : Value} {s' : Rt.Se} {va vc vo : Value}
theorem Vw.later (h : Vw w P X jv S n va vc vo) (hb : Below w.heap.size w w') : Vw w' P X jv S n va vc vo := ⟨own_later h.a hb, own_later h.c hb, own_later h.o hb, h.pa, h.pc, h.po⟩
theorem Vw.after (h : Vw w P X jv S n va vc vo) (hA : SAft P B S cap X X' jv jv' s' w w') : Vw w' P X' jv' S n va vc vo :=
  ⟨(hA.rowKept h.a h.pa).1, (hA.rowKept h.c h.pc).1, (hA.rowKept h.o h.po).1, (hA.rowKept h.a h.pa).2, (hA.rowKept h.c h.pc).2, (hA.rowKept h.o h.po).2⟩
theorem Vw.forms (h : Vw w P X jv S n va vc vo) : ∃ a1 c1 a2 c2 a3 c3, va = .slice a1 (Rt.valuesL S (Rt.atM S n)).length c1 ∧ vc = .slice a2 (Rt.callsL (Rt.atM S n)).length c2 ∧ vo = .slice a3 (Rt.atM S n).output.length c3 := by
  obtain ⟨a1, c1, e1⟩ := ownsRow_form h.a
  obtain ⟨a2, c2, e2⟩ := ownsRow_form h.c
  obtain ⟨a3, c3, e3⟩ := ownsRow_form h.o
  exact ⟨a1, c1, a2, c2, a3, c3, e1, e2, e3⟩
theorem Sess.look (h : Sess w P B S cap n low mk X jv) (hc : Cst S cap mk) :
    Calls Tryz.prog 25 #[.pointer (some ⟨P, 0, none⟩)] w fun e w' => Below w.heap.size w w' ∧ ∃ va vc vo, e = .returned (.agg (vwA S n va vc vo)) ∧ Vw w' P X jv S n va vc vo := by
  refine (look_any w P B S cap n low mk X jv h hc _ rfl _ _ _ rfl rfl rfl).mono ?_
  rintro e w' ⟨hb, va, vc, vo, he, h1, h2, h3⟩
  have hx : ∀ g, w.heap.size ≤ g → g ∉ ownL P X jv := fun g hg hm => by have := h.ses.own_lt hm; omega
  exact ⟨hb, va, vc, vo, he, ownsRow_mono h1 (Nat.zero_le _), ownsRow_mono h2 (Nat.zero_le _), ownsRow_mono h3 (Nat.zero_le _), fun g hg => hx g (h1.lt g hg).1, fun g hg => hx g (h2.lt g hg).1, fun g hg => hx g (h3.lt g hg).1⟩
theorem views_same {P2 : Nat} {X2 : McX} {jv2 va' vc' vo' : Value} (h : Vw w P X jv S n va vc vo) (h' : Vw w P2 X2 jv2 S n va' vc' vo') (hS : Plc S) :
    Calls Tryz.prog 26 #[.agg (vwA S n va vc vo), .agg (vwA S n va' vc' vo')] w fun e w' => e = .returned (.bool true) ∧ Below w.heap.size w w' := by
  have hk := hS.keep n
  refine sameView_same w 0 0 va vc vo va' vc' vo' _ _ _ _ _ _ _ h.a h.c h.o h'.a h'.c h'.o (by rw [values_len]; omega) ?_ (by have := hk.out; omega)
  unfold Rt.callsL
  rw [List.length_map, List.length_drop]
  have := hk.hi
  omega
end
/-- What a function of the statements keeps of its session, its own blocks and views. -/
structure UnI (w wr : World) (P B : Nat) (S : Rt.Src) (cap : Int) (mk : List Bool) (X0 : McX) (jv0 : Value) (n low : Nat) (X : McX) (jv : Value) (bl : List (Nat × Array Value × TypeId)) (vs : List (Nat × Value × Value × Value)) : Prop where
  aft : SAft P B S cap X0 X jv0 jv (Rt.seAt S n low mk) w wr
  ok : Rt.SeOk S cap n low
  bls : ∀ b ∈ bl, wr.heap[b.1]? = some (.cells b.2.1 b.2.2 (0, 0)) ∧ w.heap.size ≤ b.1 ∧ OutTy b.2.2
  vws : ∀ v ∈ vs, Vw wr P X jv S v.1 v.2.1 v.2.2.1 v.2.2.2
section
variable {w wr w2 : World} {P B : Nat} {S : Rt.Src} {cap : Int} {mk : List Bool} {X0 X X2 : McX} {jv0 jv jv2 : Value} {n low n2 low2 : Nat} {bl : List (Nat × Array Value × TypeId)} {vs : List (Nat × Value × Value × Value)}
theorem UnI.sess (h : UnI w wr P B S cap mk X0 jv0 n low X jv bl vs) : Sess wr P B S cap n low mk X jv := ⟨h.aft.ses, h.ok⟩
theorem UnI.start (h : Sess w P B S cap n low mk X jv) : UnI w w P B S cap mk X jv n low X jv [] [] := ⟨SAft.start h.ses (Below.refl _ _), h.ok, fun _ h => by simp at h, fun _ h => by simp at h⟩
theorem UnI.later (h : UnI w wr P B S cap mk X0 jv0 n low X jv bl vs) (hb : Below wr.heap.size wr w2) : UnI w w2 P B S cap mk X0 jv0 n low X jv bl vs :=
  ⟨h.aft.below hb, h.ok, fun b hm => ⟨block_later (h.bls b hm).1 hb, (h.bls b hm).2⟩, fun v hm => (h.vws v hm).later hb⟩
theorem UnI.alloc (h : UnI w wr P B S cap mk X0 jv0 n low X jv bl vs) (c : Array Value) (t : TypeId) (ht : OutTy t) : UnI w (wr.alloc (.cells c t)) P B S cap mk X0 jv0 n low X jv ((wr.heap.size, c, t) :: bl) vs := by
  have hb := (Below.refl wr.heap.size wr).alloc (Nat.le_refl _) (.cells c t)
  have h2 := h.later hb
  refine ⟨h2.aft, h2.ok, fun b hm => ?_, h2.vws⟩
  rcases List.mem_cons.mp hm with rfl | hm
  · exact ⟨heap_alloc_new wr _, h.aft.frm.size, ht⟩
  · exact h2.bls b hm
theorem UnI.move (h : UnI w wr P B S cap mk X0 jv0 n low X jv bl vs) (hA : SAft P B S cap X X2 jv jv2 (Rt.seAt S n2 low2 mk) wr w2) (hk : Rt.SeOk S cap n2 low2) : UnI w w2 P B S cap mk X0 jv0 n2 low2 X2 jv2 bl vs :=
  ⟨h.aft.trans hA, hk, fun b hm => ⟨SAft.keeps h.aft.ses hA (h.bls b hm).1 (by have := (h.bls b hm).2.1; have := h.aft.lt; omega) (h.bls b hm).2.2, (h.bls b hm).2⟩, fun v hm => (h.vws v hm).after hA⟩
theorem UnI.view (h : UnI w wr P B S cap mk X0 jv0 n low X jv bl vs) {k : Nat} {va vc vo : Value} (hv : Vw wr P X jv S k va vc vo) : UnI w wr P B S cap mk X0 jv0 n low X jv bl ((k, va, vc, vo) :: vs) :=
  ⟨h.aft, h.ok, h.bls, fun v hm => by
    rcases List.mem_cons.mp hm with rfl | hm
    · exact hv
    · exact h.vws v hm⟩
theorem UnI.fewer (h : UnI w wr P B S cap mk X0 jv0 n low X jv bl vs) {bl' : List (Nat × Array Value × TypeId)} {vs' : List (Nat × Value × Value × Value)} (h1 : ∀ b ∈ bl', b ∈ bl) (h2 : ∀ v ∈ vs', v ∈ vs) : UnI w wr P B S cap mk X0 jv0 n low X jv bl' vs' := ⟨h.aft, h.ok, fun b hm => h.bls b (h1 b hm), fun v hm => h.vws v (h2 v hm)⟩
theorem Vw.set1 {w : World} {P : Nat} {X : McX} {jv : Value} {S : Rt.Src} {n : Nat} {va vc vo : Value} (h : Vw w P X jv S n va vc vo) {N i : Nat} {c : Array Value} {t : TypeId} (hN : w.heap[N]? = some (.cells c t (0, 0))) (ht : OutTy t) (u : Value) : Vw (w.setCell ⟨N, i, none⟩ u) P X jv S n va vc vo := by
  have hx : ∀ {v : Value} {k : Nat} {xs : List Value}, w.ownsRow 0 3 1 v k xs → ∀ g, v.ownBlock = some g → g ≠ N := fun hr g hg e => by
    obtain ⟨c', hc⟩ := own_blk hr hg
    rw [e, hN] at hc
    injection hc with hc
    injection hc with _ hc
    exact ht.2.1 hc
  exact ⟨own_set1 h.a (hx h.a) u, own_set1 h.c (hx h.c) u, own_set1 h.o (hx h.o) u, h.pa, h.pc, h.po⟩
theorem UnI.set1 {N : Nat} {c : Array Value} {t : TypeId} (h : UnI w wr P B S cap mk X0 jv0 n low X jv ((N, c, t) :: bl) vs) (hne : ∀ b ∈ bl, b.1 ≠ N) (i : Nat) (u : Value) : UnI w (wr.setCell ⟨N, i, none⟩ u) P B S cap mk X0 jv0 n low X jv ((N, c.setIfInBounds i u, t) :: bl) vs := by
  obtain ⟨h1, h2, h3⟩ := h.bls (N, c, t) (List.mem_cons_self ..)
  refine ⟨h.aft.other h1 h2 h3 i u, h.ok, fun b hm => ?_, fun v hm => (h.vws v hm).set1 h1 h3 u⟩
  rcases List.mem_cons.mp hm with rfl | hm
  · exact ⟨set_block h1 i u, h2, h3⟩
  · obtain ⟨g1, g2⟩ := h.bls b (List.mem_cons_of_mem _ hm)
    exact ⟨(Below.heap_setCell wr ⟨N, i, none⟩ u b.1 (hne b hm)).trans g1, g2⟩
theorem UnI.set6 {N : Nat} {v0 v1 v2 v3 v4 v5 : Value} {t : TypeId} (h : UnI w wr P B S cap mk X0 jv0 n low X jv ((N, #[v0, v1, v2, v3, v4, v5], t) :: bl) vs) (hne : ∀ b ∈ bl, b.1 ≠ N) (a0 a1 a2 a3 a4 a5 : Value) : UnI w (W6 wr N a0 a1 a2 a3 a4 a5) P B S cap mk X0 jv0 n low X jv ((N, #[a0, a1, a2, a3, a4, a5], t) :: bl) vs := by
  have := (((((h.set1 hne 0 a0).set1 hne 1 a1).set1 hne 2 a2).set1 hne 3 a3).set1 hne 4 a4).set1 hne 5 a5
  simpa using this
end
end Go.Proofs.YtbpajiljfppjcaaGreatDoor

