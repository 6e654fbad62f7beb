/- deep, walked. -/
import Derived.Test.YtbpajiljfppjcaaGreatSsL
import Derived.Test.YtbpajiljfppjcaaGreatBh
import Derived.Test.YtbpajiljfppjcaaGreatTdDefs
namespace Go.Proofs.YtbpajiljfppjcaaGreat
open Go.RowKit
namespace Rt
theorem unmarked0 (S : Src) (n low : Nat) : markedB (seAt S n low mk0) = false := by
  unfold markedB
  show (_ && ((mk0)[_]?).getD false) = false
  cases e : (mk0)[(seAt S n low mk0).m.line.toNat]? with
  | none => simp
  | some b =>
    have := List.mem_of_getElem? e
    unfold mk0 at this
    rw [List.mem_replicate] at this
    rw [this.2]
    simp
theorem ends_goes (S : Src) (fuel d0 : Int) (n k : Nat) : endsN S mk0 3 fuel d0 n k = if ¬ (atM S n).fin = 0 then 3 else if fuel ≤ (k : Int) then 4 else 0 := by
  have ha : arrivedI (seAt S n 0 mk0) 3 d0 k = 0 := by
    unfold arrivedI
    rw [unmarked0]
    unfold reachedB
    split
    · rfl
    · rw [if_neg (by simp)]; rfl
  unfold endsN fwdEnds
  rw [ha]
  have e : (seAt S n 0 mk0).m = atM S n := rfl
  rw [e]
  simp
/-- A move that goes on comes to the end. -/
theorem fwdN_goes {S : Src} {K : Nat} (hr : ∀ i, i < K → (atM S i).fin = 0) (hf : ¬ (atM S K).fin = 0) (fuel : Nat) (hK : K ≤ fuel) (d0 : Int) : fwdN S mk0 3 fuel d0 (fuel + 1) 0 0 = (K, K, 3) := by
  obtain ⟨j, h1, h2, h3, h4⟩ := fwdN_form S mk0 3 fuel d0 (fuel + 1) 0 0 (by omega) (by omega)
  simp only [Nat.zero_add] at h1 h2 h3 h4
  have hj : j = K := by
    by_cases hlt : j < K
    · exfalso
      refine h3 ?_
      rw [ends_goes, if_neg (not_not_intro (hr j hlt)), if_neg (by omega)]
    · by_cases hgt : K < j
      · exfalso
        have := h4 K hgt
        rw [ends_goes, if_pos hf] at this
        omega
      · omega
  subst hj
  rw [h1, ends_goes, if_pos hf]
theorem bends_fin (S : Src) (low : Nat) (fuel d0 : Int) (n k : Nat) : bendsN S mk0 low 2 fuel d0 n k = if ¬ k = 0 ∧ ((atM S n).frames.length : Int) < d0 then 1 else if n = 0 then 5 else if n = low then 6 else if fuel ≤ (k : Int) then 4 else 0 := by
  have ha : arrivedI (seAt S n 0 mk0) 2 d0 k = if ¬ k = 0 ∧ ((atM S n).frames.length : Int) < d0 then 1 else 0 := by
    unfold arrivedI
    rw [unmarked0]
    unfold reachedB
    have e : (seAt S n 0 mk0).m = atM S n := rfl
    rw [e]
    by_cases h : k = 0
    · rw [if_pos (show (k : Int) = 0 by omega), if_neg (fun h' => h'.1 h)]
    · rw [if_neg (show ¬ (k : Int) = 0 by omega)]
      by_cases hd : ((atM S n).frames.length : Int) < d0
      · simp [hd, h]
      · simp [hd]
  rw [bends_eq, ha]
  by_cases h : ¬ k = 0 ∧ ((atM S n).frames.length : Int) < d0
  · rw [if_pos h, if_pos (by omega), if_pos h]
  · rw [if_neg h, if_neg (by omega), if_neg h]
/-- Back out of a frame. -/
theorem backN_fin {S : Src} {n j : Nat} (hj : 0 < j) (hn : j ≤ n) (d0 : Int) (hi : ∀ i, 0 < i → i < j → ¬ ((atM S (n - i)).frames.length : Int) < d0) (hd : ((atM S (n - j)).frames.length : Int) < d0) (fuel : Nat) (hf : j ≤ fuel) : backN S mk0 0 2 fuel d0 (fuel + 1) n 0 = (n - j, j, 1) := by
  obtain ⟨q, h1, h0, h2, h3, h4⟩ := backN_form S mk0 0 2 fuel d0 (fuel + 1) n 0 (Nat.zero_le _) (by omega) (by omega)
  simp only [Nat.zero_add] at h1 h2 h3 h4
  have hq : q = j := by
    by_cases hlt : q < j
    · exfalso
      refine h3 ?_
      rw [bends_fin, if_neg (fun h => hi q (by omega) hlt h.2), if_neg (by omega), if_neg (by omega), if_neg (by omega)]
    · by_cases hgt : j < q
      · exfalso
        have := h4 j hgt
        rw [bends_fin, if_pos ⟨by omega, hd⟩] at this
        omega
      · omega
  subst hq
  rw [h1, bends_fin, if_pos ⟨by omega, hd⟩]
/-- Few steps: nothing is let go. -/
theorem lowJ_few {S : Src} (h4 : Call4 S) {m : Nat} (hr : ∀ i, i < m → (atM S i).fin = 0) (hm : m ≤ 100) : lowJ S 500 m 0 0 = 0 := by
  rcases lowJ_min S 500 m 0 0 (Nat.le_refl _) with h | ⟨l, _, _, h⟩
  · exact h
  · exfalso
    by_cases hl : l ≤ m
    · have := (recsOf_len h4 l (0 + m - l) (fun i hi => hr i (by omega))).2
      omega
    · rw [show 0 + m - l = 0 by omega] at h
      simp [recsOf] at h
end Rt
end Go.Proofs.YtbpajiljfppjcaaGreat

namespace Go.Proofs.YtbpajiljfppjcaaGreat
open Go.RowKit
attribute [local go_sem ↓] Go.wp_at_zero Go.wp_at_succ

namespace Rt
/-- What a name means at a place: the value, the error. -/
def valueR (S : Src) (m : Mc) (x : ByteArray) : Int × Int := if isVar S.pls (procOf S m) x = true then (getS m (varS S m x), 0) else (0, 4)
/-- A cell of an array at a place: the value, the error. -/
def cellR (S : Src) (m : Mc) (x : ByteArray) (n : Int) : Int × Int := if isArr S.pls (procOf S m) x = true then (match cellS S m x n with | some s => (getS m s, 0) | none => (0, 9)) else (0, 4)
/-- The lines of the calls. -/
def callsL (m : Mc) : List Int := (m.frames.drop 1).map Fm.call
end Rt
theorem cellb_lt {w : World} {b o : Nat} {v : Value} (h : w.cell? ⟨b, o, none⟩ = some v) : b < w.heap.size := by
  unfold World.cell? at h
  split at h
  · rename_i hb; exact (Array.getElem?_eq_some_iff.1 hb).1
  · cases h
set_option maxHeartbeats 1000000 in
theorem mValue_any (w : World) (M B : Nat) (ty : TypeId) (tail : List Value) (S : Rt.Src) (m : Rt.Mc) (X : McX) (x : ByteArray) (h : McS w M B ty tail S m X) (hm : Mok S m) :
    Calls Tryz.prog 27 #[.pointer (some ⟨M, 0, none⟩), .string x] w fun e w' => e = .returned (.tuple #[.int .i64 (Rt.valueR S m x).1, .int .i64 (Rt.valueR S m x).2]) ∧ Below w.heap.size w w' := by
  have hpar : (Rt.formAt S.pls (Rt.procOf S m)).params.length ≤ 1000 := Rt.small_formAt hm.forms (Rt.procOf S m)
  go_enter Tryz.func27, Tryz.ntmps27
  go_wp2_with fail
  refine (proc_any w M B ty tail S m X h).mono ?_
  rintro e w1 ⟨rfl, hb1⟩
  have HV := hide (show Rt.valueR S m x = if Rt.isVar S.pls (Rt.procOf S m) x = true then (Rt.getS m (Rt.varS S m x), 0) else (0, 4) from rfl)
  generalize Rt.procOf S m = pc at *
  go_wp2_with fail
  refine (isVariable_m _ _ _ _ _ _ _ pc x (h.prog.later hb1) hm.pls hpar).mono ?_
  rintro e w2 ⟨rfl, hb2⟩
  have hB2 := hb1.trans (hb2.mono hb1.size)
  have h2 := h.later hB2
  clear hb1 hb2 hpar
  cases hv : Rt.isVar S.pls pc x with
  | false =>
    have HE := hide (show Rt.valueR S m x = (0, 4) by rw [unhide HV, hv]; rfl)
    have HB := hide hB2
    clear h h2 hm hB2 hv HV
    go_wp2_with fail
    refine bodyPost_ret (v := .tuple #[.int .i64 0, .int .i64 4]) ?_ rfl ⟨by rw [unhide HE], unhide HB⟩
    simp [results, Tryz.results27, go_sem]
  | true =>
    have HE := hide (show Rt.valueR S m x = (Rt.getS m (Rt.varS S m x), 0) by rw [unhide HV, hv]; rfl)
    have HH := hide (And.intro h2 (And.intro hm hB2))
    clear h h2 hm hB2 hv HV
    go_wp2_with fail
    refine (mvar_any w2 M B ty tail S m X x (unhide HH).1 (unhide HH).2.1).mono ?_
    rintro e w3 ⟨rfl, hb3⟩
    have HB := hide ((unhide HH).2.2.trans (hb3.mono (unhide HH).2.2.size))
    have h3 := (unhide HH).1.later hb3
    obtain ⟨_, hm, _⟩ := unhide HH
    generalize hsp : Rt.varS S m x = sp at *
    have HG := hide (fun (W : World) (hW : McS W M B ty tail S m X) => get_any W M B ty tail S m X sp hW hm)
    have HH3 := hide h3
    clear hsp hb3 h3 hm HH
    generalize Rt.getS m sp = gv at *
    go_wp2_with fail
    have hbC := (Below.refl w3.heap.size w3).alloc (Nat.le_refl _) (.cells #[.int .i64 sp.line, .int .i64 sp.cell] 85)
    refine (unhide HG _ ((unhide HH3).later hbC)).mono ?_
    rintro e w4 ⟨rfl, hb4⟩
    have HB4 := hide ((unhide HB).trans ((hbC.trans (hb4.mono (B' := w3.heap.size) (by simp))).mono (unhide HB).size))
    clear hbC hb4
    go_wp2_with fail
    refine bodyPost_ret (v := .tuple #[.int .i64 gv, .int .i64 0]) ?_ rfl ⟨by rw [unhide HE], unhide HB4⟩
    simp [results, Tryz.results27, go_sem]
set_option maxHeartbeats 1000000 in
set_option maxRecDepth 100000 in
theorem mCalls_any (w : World) (M B : Nat) (ty : TypeId) (tail : List Value) (S : Rt.Src) (m : Rt.Mc) (X : McX) (h : McS w M B ty tail S m X) (hm : m.frames.length ≤ 1000) (h0 : 0 < m.frames.length) :
    Calls Tryz.prog 28 #[.pointer (some ⟨M, 0, none⟩)] w fun e w' => Below w.heap.size w w' ∧ ∃ v, e = .returned v ∧ w'.ownsRow w.heap.size 3 1 v (Rt.callsL m).length (intsV (Rt.callsL m)) := by
  obtain ⟨i0, hi0, hz0, hz1, hz2⟩ := info_parts Tryz.infoIntK
  have HH := hide h
  obtain ⟨fad, fcap, hfv⟩ := ownsRow_form h.frames
  have HC := hide (show ∀ k, (hk : k < m.frames.length) → ∃ g, fad = some ⟨g, 0, none⟩ ∧ (X.fv.ownBlock = some g) ∧ ∀ W, Below w.heap.size w W → W.cell? ⟨g, k * 2 + 1, none⟩ = some (.int .i64 m.frames[k].call) by
    intro k hk
    obtain ⟨g, gcap, hg, _, _, k2⟩ := own_cell h.frames (fCells_get X.fps m.frames h.fl k hk).2
    refine ⟨g, by rw [hfv] at hg; injection hg, by rw [hg]; rfl, fun W hW => cell_later hW k2⟩)
  have HX := hide (show ∀ W, Below w.heap.size w W → W.cell? ⟨M, 2, none⟩ = some (.slice fad m.frames.length fcap) from fun W hW => by rw [← hfv]; exact (h.later hW).c2)
  have HL := hide (show ∀ k, (hk : k < m.frames.length) → (Rt.callsL m).take (k - 1) ++ (if 1 ≤ k then [m.frames[k].call] else []) = (Rt.callsL m).take k by
    intro k hk
    unfold Rt.callsL
    cases k with
    | zero => simp
    | succ k =>
      have : ((m.frames.drop 1).map Rt.Fm.call)[k]? = some m.frames[k + 1].call := by
        rw [List.getElem?_map, List.getElem?_drop, show 1 + k = k + 1 by omega, List.getElem?_eq_getElem hk]
        rfl
      rw [List.take_add_one, this]
      simp)
  have HCL := hide (show (Rt.callsL m).length = m.frames.length - 1 by unfold Rt.callsL; simp)
  clear h hfv
  go_enter Tryz.func28, Tryz.ntmps28
  go_wp2_with fail
  go_loopw [3, 4] (fun v i wr => ∃ k : Nat, k + 1 ≤ m.frames.length ∧ i = .int .i64 ((k : Int) + 1) ∧ wr.ownsRow w.heap.size 3 1 v k (intsV ((Rt.callsL m).take k)) ∧ Below w.heap.size w wr)
    (fun _ i _ => m.frames.length + 1 - (intOf i).toNat)
  case atStart => exact ⟨0, by omega, rfl, World.ownsRow_nil _ _ _ _, Below.refl _ _⟩
  case round =>
    obtain ⟨k, hk, rfl, hown, hbe⟩ := hrel
    have hsz := hbe.size
    obtain ⟨adv, capv, rfl⟩ := ownsRow_form hown
    have c2 := unhide HX wr hbe
    by_cases hlt : k + 1 < m.frames.length
    · obtain ⟨g, rfl, _, hc⟩ := unhide HC (k + 1) hlt
      have k2 := hc wr hbe
      have hg := cellb_lt k2
      have HT := hide (unhide HL (k + 1) hlt)
      generalize m.frames[k + 1].call = q at *
      have hlt' : ((k : Int) + 1) < (m.frames.length : Int) := by omega
      have h0' : (0 : Int) ≤ (k : Int) + 1 := by omega
      have ek : ((k : Int) + 1).toNat = k + 1 := by omega
      clear hc
      go_wp2_with (at_builtin; refine wpList_append_own _ rfl _ _ 24 rfl w.heap.size 3 i0 _ 1 8 Tryz.underlying24 hi0 hz0 hz1 hz2 rfl (by decide) _ _ _ rfl (hown.alloc _) ⟨_, 0, none⟩ 1 1 [.int .i64 q] rfl rfl (cell_one_new _ _ _) ?c2 ?c3 ?c4 ?c5 ?_)
      case c2 => intro u hu; simp at hu; rcases hu with rfl; rfl
      case c3 => unfold maxLen; omega
      case c4 => omega
      case c5 => simp; omega
      intro v' w3 hown3 hgrow _
      have hbe3 := below_append hbe hsz hown hgrow
      have HF := hide (And.intro hown3 hbe3)
      clear hown3 hbe3 hgrow hown hbe c2 k2
      go_wp2_with fail
      go_roundw
      case rel =>
        obtain ⟨q2, q3⟩ := unhide HF
        have ht := unhide HT
        rw [Nat.add_sub_cancel, if_pos (by omega)] at ht
        exact ⟨k + 1, by omega, by go_num, by rw [← ht, intsV, List.map_append]; exact q2, q3⟩
      case measure => simp [intOf]; omega
    · have HF := hide (And.intro hown hbe)
      have hlt' : ¬ ((k : Int) + 1) < (m.frames.length : Int) := by omega
      have HE := hide (show (Rt.callsL m).take k = Rt.callsL m ∧ (Rt.callsL m).length = k from by
        have hcl := unhide HCL
        exact ⟨List.take_of_length_le (by omega), by omega⟩)
      clear hown hbe
      go_wp2_with fail
      go_ret
      refine ⟨(unhide HF).2, _, rfl, ?_⟩
      have := (unhide HF).1
      rw [(unhide HE).1] at this
      rw [(unhide HE).2]
      exact this
theorem sValue_any (w : World) (P B : Nat) (S : Rt.Src) (cap : Int) (s : Rt.Se) (X : McX) (jv : Value) (x : ByteArray) (h : SesS w P B S cap s X jv) (hm : Mok S s.m) :
    Calls Tryz.prog 15 #[.pointer (some ⟨P, 0, none⟩), .string x] w fun e w' => e = .returned (.tuple #[.int .i64 (Rt.valueR S s.m x).1, .int .i64 (Rt.valueR S s.m x).2]) ∧ Below w.heap.size w w' := by
  have HC := hide (mValue_any w P B _ _ S s.m X x h.mc hm)
  clear h hm
  go_enter Tryz.func15, Tryz.ntmps15
  go_wp2_with fail
  refine (unhide HC).mono ?_
  rintro e w1 ⟨rfl, hb1⟩
  have HB := hide hb1
  clear hb1
  go_wp2_with fail
  refine bodyPost_ret (v := .tuple #[.int .i64 (Rt.valueR S s.m x).1, .int .i64 (Rt.valueR S s.m x).2]) ?_ rfl ⟨rfl, unhide HB⟩
  simp [results, Tryz.results15, go_sem]
theorem sCalls_any (w : World) (P B : Nat) (S : Rt.Src) (cap : Int) (s : Rt.Se) (X : McX) (jv : Value) (h : SesS w P B S cap s X jv) (hm : s.m.frames.length ≤ 1000) (h0 : 0 < s.m.frames.length) :
    Calls Tryz.prog 16 #[.pointer (some ⟨P, 0, none⟩)] w fun e w' => Below w.heap.size w w' ∧ ∃ v, e = .returned v ∧ w'.ownsRow w.heap.size 3 1 v (Rt.callsL s.m).length (intsV (Rt.callsL s.m)) := by
  have HC := hide (mCalls_any w P B _ _ S s.m X h.mc hm h0)
  clear h
  go_enter Tryz.func16, Tryz.ntmps16
  go_wp2_with fail
  refine (unhide HC).mono ?_
  rintro e w1 ⟨hb1, v, rfl, hv⟩
  have HF := hide (And.intro hb1 hv)
  clear hb1 hv
  go_wp2_with fail
  go_ret
  exact ⟨(unhide HF).1, v, rfl, (unhide HF).2⟩
end Go.Proofs.YtbpajiljfppjcaaGreat

namespace Go.Proofs.YtbpajiljfppjcaaGreat
open Go.RowKit
attribute [local go_sem ↓] Go.wp_at_zero Go.wp_at_succ

namespace Rt
/-- The product of numbers from k down. -/
def facI (k : Int) : Nat → Int
  | 0 => 1
  | i + 1 => wrap64 (facI k i * wrap64 (k - i))
theorem rc_valR (x r k t a b c d e : Int) (o : List Int) : valueR (rcSrc x) { rcM [noFm, ⟨[a], 12⟩, ⟨[b], 6⟩, ⟨[c], 6⟩, ⟨[d], 6⟩, ⟨[e], 6⟩] r k t o 6 with fin := 5 } ⟨#[114]⟩ = (r, 0) := by kernel_rfl
theorem rc_valN (x r k t a b c d e : Int) (o : List Int) : valueR (rcSrc x) { rcM [noFm, ⟨[a], 12⟩, ⟨[b], 6⟩, ⟨[c], 6⟩, ⟨[d], 6⟩, ⟨[e], 6⟩] r k t o 6 with fin := 5 } ⟨#[110]⟩ = (e, 0) := by kernel_rfl
theorem rc_valR1 (x r k t : Int) (o : List Int) : valueR (rcSrc x) (rcM [noFm] r k t o 12) ⟨#[114]⟩ = (r, 0) := by kernel_rfl
theorem rc_valN1 (x r k t : Int) (o : List Int) : valueR (rcSrc x) (rcM [noFm] r k t o 12) ⟨#[110]⟩ = (0, 4) := by kernel_rfl
end Rt
theorem factors_any (w : World) (k : Int) (n : Nat) (hn : n ≤ 100) :
    Calls Tryz.prog 7 #[.int .i64 k, .int .i64 n] w fun e w' => e = .returned (.int .i64 (Rt.facI k n)) ∧ w' = w := by
  go_enter Tryz.func7, Tryz.ntmps7
  go_wp2_with fail
  go_loopw [5, 6] (fun v i wr => ∃ j : Nat, j ≤ n ∧ i = .int .i64 j ∧ v = .int .i64 (Rt.facI k j) ∧ wr = w) (fun _ i _ => n + 1 - (intOf i).toNat)
  case atStart => exact ⟨0, Nat.zero_le _, rfl, rfl, rfl⟩
  case round =>
    obtain ⟨j, hj, rfl, rfl, rfl⟩ := hrel
    by_cases hlt : j < n
    · have hlt' : (j : Int) < (n : Int) := by omega
      have HE := hide (show Rt.facI k (j + 1) = wrap64 (Rt.facI k j * wrap64 (k - j)) from rfl)
      generalize Rt.facI k j = v at *
      go_wp2_with fail
      go_roundw
      case rel => exact ⟨j + 1, by omega, by go_num, by rw [unhide HE], trivial⟩
      case measure => simp [intOf]; omega
    · have hlt' : ¬ (j : Int) < (n : Int) := by omega
      obtain rfl : j = n := by omega
      obtain ⟨v, hv⟩ : ∃ v, v = Rt.facI k j := ⟨_, rfl⟩
      rw [← hv]
      have HE := hide hv
      clear hv
      go_wp2_with fail
      go_ret
      exact ⟨by rw [← unhide HE]; rfl, rfl⟩
end Go.Proofs.YtbpajiljfppjcaaGreat

namespace Go.Proofs.YtbpajiljfppjcaaGreat
open Go.RowKit
attribute [local go_sem ↓] Go.wp_at_zero Go.wp_at_succ

namespace Rt
theorem facI5 (k : Int) (h6 : 6 ≤ k) (hm : k ≤ 9223372036854775807) : facI k 5 = wrap64 (wrap64 (wrap64 (wrap64 (wrap64 (1 * k) * (k - 1)) * (k - 2)) * (k - 3)) * (k - 4)) := by
  have w0 : wrap64 (k - ((0 : Nat) : Int)) = k := by rw [IntWalk.wrap64_in _ (by omega)]; omega
  have w1 : wrap64 (k - ((1 : Nat) : Int)) = k - 1 := IntWalk.wrap64_in _ (by omega)
  have w2 : wrap64 (k - ((2 : Nat) : Int)) = k - 2 := IntWalk.wrap64_in _ (by omega)
  have w3 : wrap64 (k - ((3 : Nat) : Int)) = k - 3 := IntWalk.wrap64_in _ (by omega)
  have w4 : wrap64 (k - ((4 : Nat) : Int)) = k - 4 := IntWalk.wrap64_in _ (by omega)
  rw [facI, facI, facI, facI, facI, facI, w0, w1, w2, w3, w4]
/-- Where a way back out of d frames has led. -/
def outPl (d : Nat) : Nat := if d = 6 then 18 else 3 * d - 1
/-- Back out of the frames, one by one. -/
theorem rc_out (k : Int) (h6 : 6 ≤ k) (hm : k ≤ 9223372036854775807) (d : Nat) (h1 : 1 ≤ d) (h5 : d ≤ 5) :
    backN (rcSrc k) mk0 0 2 (1000 : Nat) ((atM (rcSrc k) (outPl (d + 1))).frames.length : Int) 1001 (outPl (d + 1)) 0 = (outPl d, outPl (d + 1) - outPl d, 1) ∧ ((atM (rcSrc k) (outPl d)).frames.length : Int) = d ∧ (atM (rcSrc k) (outPl d)).line = if d = 1 then 12 else 6 := by
  obtain ⟨a0, a1, a2, a3, a4, a5, a6, a7, a8, a9, a10, a11, a12, a13, a14, a15, a16, a17, a18⟩ := rc_deepAt k h6 hm
  have key : ∀ (n j : Nat) (d0 : Nat), 0 < j → j ≤ n → j ≤ 1000 → ((atM (rcSrc k) n).frames.length = d0) → (∀ i, 0 < i → i < j → ¬ (atM (rcSrc k) (n - i)).frames.length < d0) → (atM (rcSrc k) (n - j)).frames.length < d0 → backN (rcSrc k) mk0 0 2 (1000 : Nat) ((atM (rcSrc k) n).frames.length : Int) 1001 n 0 = (n - j, j, 1) := fun n j d0 hj hn hf hd hi hl => by
    rw [hd]
    exact backN_fin hj hn d0 (fun i h1 h2 => by have := hi i h1 h2; omega) (by omega) 1000 hf
  match d, h1, h5 with
  | 1, _, _ =>
    refine ⟨key 5 3 2 (by omega) (by omega) (by omega) (by rw [a5]; rfl) ?_ (by show (atM (rcSrc k) 2).frames.length < 2; rw [a2]; simp [rcM]), by show ((atM (rcSrc k) 2).frames.length : Int) = 1; rw [a2]; rfl, by show (atM (rcSrc k) 2).line = 12; rw [a2]; rfl⟩
    intro i h1 h2
    match i, h1, h2 with
    | 1, _, _ => show ¬ (atM (rcSrc k) 4).frames.length < 2; rw [a4]; simp [rcM]
    | 2, _, _ => show ¬ (atM (rcSrc k) 3).frames.length < 2; rw [a3]; simp [rcM]
  | 2, _, _ =>
    refine ⟨key 8 3 3 (by omega) (by omega) (by omega) (by rw [a8]; rfl) ?_ (by show (atM (rcSrc k) 5).frames.length < 3; rw [a5]; simp [rcM]), by show ((atM (rcSrc k) 5).frames.length : Int) = 2; rw [a5]; rfl, by show (atM (rcSrc k) 5).line = 6; rw [a5]; rfl⟩
    intro i h1 h2
    match i, h1, h2 with
    | 1, _, _ => show ¬ (atM (rcSrc k) 7).frames.length < 3; rw [a7]; simp [rcM]
    | 2, _, _ => show ¬ (atM (rcSrc k) 6).frames.length < 3; rw [a6]; simp [rcM]
  | 3, _, _ =>
    refine ⟨key 11 3 4 (by omega) (by omega) (by omega) (by rw [a11]; rfl) ?_ (by show (atM (rcSrc k) 8).frames.length < 4; rw [a8]; simp [rcM]), by show ((atM (rcSrc k) 8).frames.length : Int) = 3; rw [a8]; rfl, by show (atM (rcSrc k) 8).line = 6; rw [a8]; rfl⟩
    intro i h1 h2
    match i, h1, h2 with
    | 1, _, _ => show ¬ (atM (rcSrc k) 10).frames.length < 4; rw [a10]; simp [rcM]
    | 2, _, _ => show ¬ (atM (rcSrc k) 9).frames.length < 4; rw [a9]; simp [rcM]
  | 4, _, _ =>
    refine ⟨key 14 3 5 (by omega) (by omega) (by omega) (by rw [a14]; rfl) ?_ (by show (atM (rcSrc k) 11).frames.length < 5; rw [a11]; simp [rcM]), by show ((atM (rcSrc k) 11).frames.length : Int) = 4; rw [a11]; rfl, by show (atM (rcSrc k) 11).line = 6; rw [a11]; rfl⟩
    intro i h1 h2
    match i, h1, h2 with
    | 1, _, _ => show ¬ (atM (rcSrc k) 13).frames.length < 5; rw [a13]; simp [rcM]
    | 2, _, _ => show ¬ (atM (rcSrc k) 12).frames.length < 5; rw [a12]; simp [rcM]
  | 5, _, _ =>
    refine ⟨key 18 4 6 (by omega) (by omega) (by omega) (by rw [a18]; rfl) ?_ (by show (atM (rcSrc k) 14).frames.length < 6; rw [a14]; simp [rcM]), by show ((atM (rcSrc k) 14).frames.length : Int) = 5; rw [a14]; rfl, by show (atM (rcSrc k) 14).line = 6; rw [a14]; rfl⟩
    intro i h1 h2
    match i, h1, h2 with
    | 1, _, _ => show ¬ (atM (rcSrc k) 17).frames.length < 6; rw [a17]; simp [rcM]
    | 2, _, _ => show ¬ (atM (rcSrc k) 16).frames.length < 6; rw [a16]; simp [rcM]
    | 3, _, _ => show ¬ (atM (rcSrc k) 15).frames.length < 6; rw [a15]; simp [rcM]
end Rt
end Go.Proofs.YtbpajiljfppjcaaGreat

