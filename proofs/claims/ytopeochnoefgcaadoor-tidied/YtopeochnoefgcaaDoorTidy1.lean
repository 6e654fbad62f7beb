/- The walks of (*Program).Tidy and retrace.Tidy. -/
import Derived.Test.YtopeochnoefgcaaDoorTidy0
namespace Go.Proofs.YtopeochnoefgcaaDoor
open Go.RowKit


/-- The program stays while a row of another kind grows. -/
theorem prog_grown0 {w w1 : World} {P B : Nat} {pls : List Rt.PL} {lv : Value} {cs : List (List Value)} {row : Option Nat} {t : TypeId} (h : ProgR w P B pls lv cs) (hg : w.grownBy w1 row) (hrow : ∀ x, row = some x → ∃ c, w.heap[x]? = some (.cells c t (0, 0)))
    (ht : t ≠ 41 ∧ t ≠ 64 ∧ t ≠ 81 ∧ t ≠ 9 ∧ t ≠ 124 ∧ t ≠ 59) : ProgR w1 P B pls lv cs := by
  obtain ⟨t1, t2, t3, t4, t5, t6⟩ := ht
  have hblk : ∀ (k : Nat) (x : Obj), w.heap[k]? = some x → (∀ c, x ≠ .cells c t (0, 0)) → w1.heap[k]? = some x := by
    intro k x hk hx
    refine (hg.block k (block_lt hk) ?_).trans hk
    intro e
    obtain ⟨c, hc⟩ := hrow k e.symm
    rw [hk] at hc
    simp at hc
    exact hx c hc
  have hr : ∀ (B : Nat) (t' : TypeId) (size n : Nat) (v : Value) (xs : List Value), t' ≠ t → w.ownsRow B t' size v n xs → w1.ownsRow B t' size v n xs := by
    intro B t' size n v xs hne hv
    obtain ⟨h1, h2⟩ := hv
    refine ⟨h1, ?_⟩
    rcases h2 with h2 | ⟨g, cap, cur, hv', hg', hh, rr⟩
    · exact Or.inl h2
    · exact Or.inr ⟨g, cap, cur, hv', hg', hblk g _ hh (fun c e => by simp at e; exact hne e.2), rr⟩
  have hform : ∀ {v : Array Value} {fm : Rt.PForm}, FormV w B v fm → FormV w1 B v fm := by
    intro v fm hf
    obtain ⟨pv, iv, vv, vs, rfl, h1, h2, h3, h4⟩ := hf
    exact ⟨pv, iv, vv, vs, rfl, hr _ _ _ _ _ _ (Ne.symm t4) h1, hr _ _ _ _ _ _ (Ne.symm t5) h2, hr _ _ _ _ _ _ (Ne.symm t6) h3, ExprsR.map (fun x o hh => hr _ _ _ _ _ _ (Ne.symm t5) hh) _ _ h4⟩
  have hlines : ∀ ps cs, LinesV w B ps cs → LinesV w1 B ps cs := by
    intro ps
    induction ps with
    | nil => intro cs h; cases cs with
      | nil => trivial
      | cons _ _ => exact h.elim
    | cons p ps ih => intro cs h; cases cs with
      | nil => exact h.elim
      | cons c cs =>
        obtain ⟨⟨tv, fv, xe, xf, e, g1, g2⟩, h2⟩ := h
        exact ⟨⟨tv, fv, xe, xf, e, hr _ _ _ _ _ _ (Ne.symm t3) g1, hform g2⟩, ih cs h2⟩
  exact ⟨hblk P _ h.block (fun c e => by simp at e; exact t1 e.2.symm), hr _ _ _ _ _ _ (Ne.symm t2) h.own, hlines _ _ h.lines⟩

set_option maxHeartbeats 2000000 in
set_option maxRecDepth 100000 in
theorem progTidy_r (w : World) (P B : Nat) (pls : List Rt.PL) (lv : Value) (cs : List (List Value)) (h : ProgR w P B pls lv cs) (hlen : pls.length ≤ 101) (hfit : ∀ p ∈ pls, Rt.Fit p) :
    Calls Tryd.prog 14 #[.pointer (some ⟨P, 0, none⟩)] w fun e w' => Below w.heap.size w w' ∧ e = .returned (.string (Rt.tidyP pls)) := by
  obtain ⟨i0, hi0, hz0, hz1, hz2⟩ := info_parts Tryd.infoByte
  have hPlt := block_lt h.block
  have HFit := hide hfit
  clear hfit
  go_enter Tryd.func14, Tryd.ntmps14
  go_wp2_with fail
  go_loopw [3, 4] (fun v i wr => ∃ k : Nat, k ≤ pls.length - 1 ∧ i = .int .i64 ((k : Int) + 1) ∧ ProgR wr P B pls lv cs ∧ wr.ownsRow w.heap.size 5 1 v (Rt.tidyTo pls k).size (byteCells (Rt.tidyTo pls k)) ∧ Below w.heap.size w wr)
    (fun _ i _ => pls.length + 1 - (intOf i).toNat)
  case atStart => exact ⟨0, by omega, rfl, h, World.ownsRow_nil _ _ _ _, Below.refl _ _⟩
  case round =>
    clear h
    obtain ⟨k, hk, rfl, hpr, hown, hbe⟩ := hrel
    have hsz := hbe.size
    have HS := hide (Rt.tidyTo_size (unhide HFit) k)
    obtain ⟨adl, capl, hlv, cP⟩ := hpr.lvForm
    obtain ⟨adv, capv, rfl⟩ := ownsRow_form hown
    by_cases hlt : k + 1 < pls.length
    · have hlt' : (k : Int) + 1 < (pls.length : Int) := by omega
      have hk0 : (0 : Int) ≤ (k : Int) + 1 := by omega
      have HT : Hid (Rt.tidyTo pls (k + 1) = (if 0 < k then Rt.tidyTo pls k ++ ⟨#[10]⟩ else Rt.tidyTo pls k) ++ Rt.tidyLn pls[k + 1]) := hide (by rw [Rt.tidyTo, List.getElem?_eq_getElem hlt]; rfl)
      have HP := hide ((unhide HFit) _ (List.getElem_mem hlt))
      have HL := hide (Rt.tidyLn_size (unhide HP))
      by_cases hkp : 0 < k
      · have hkp' : (1 : Int) < (k : Int) + 1 := by omega
        rw [if_pos hkp] at HT
        go_wp2_with (at_builtin; refine wpList_append_own _ rfl _ _ 54 rfl w.heap.size 5 i0 _ 1 1 Tryd.underlying54 hi0 hz0 hz1 hz2 rfl (by decide) _ _ _ rfl (hown.alloc _) ⟨_, 0, none⟩ 1 1 [.int .u8 10] rfl rfl (cell_one_new _ _ _) ?c2 ?c3 ?c4 ?c5 ?_)
        case c2 => first | rfl | (intro u hu; simp at hu; rcases hu with rfl; rfl)
        case c3 => have := unhide HS; unfold maxLen; omega
        case c4 => have := unhide HS; omega
        case c5 => first | omega | (simp; omega)
        intro v1 w2 hown2 hgrow2 _
        have hbe2 := below_append hbe hsz hown hgrow2
        have hsz2 := hbe2.size
        have hpr2 : ProgR w2 P B pls lv cs := prog_grownr (t := 5) hpr hgrow2 (fun x hx => by
          rcases hown.2 with ⟨h', _⟩ | ⟨g', _, cur, h', _, hh, _⟩
          · rw [h'] at hx; cases hx
          · rw [h'] at hx; simp [Value.ownBlock] at hx; subst hx; exact ⟨_, hh⟩) (by decide)
        have hown2' : w2.ownsRow w.heap.size 5 1 v1 (Rt.tidyTo pls k ++ ⟨#[10]⟩).size (byteCells (Rt.tidyTo pls k ++ ⟨#[10]⟩)) := by
          rw [Rt.byteCells_add, ByteArray.size_append]; exact hown2
        have HS3 : Hid ((Rt.tidyTo pls k ++ ⟨#[10]⟩).size = (Rt.tidyTo pls k).size + 1) := hide (ByteArray.size_append ..)
        clear hown2 hgrow2 hbe hown cP hpr hlv
        generalize (Rt.tidyTo pls k ++ ⟨#[10]⟩) = o2 at *
        obtain ⟨adl2, capl2, hlv, cP⟩ := hpr2.lvForm
        obtain ⟨adv2, capv2, rfl⟩ := ownsRow_form hown2'
        obtain ⟨g, cap', a0, a1, a2, a3, e0, e1, e2, e3, xe, xf, hlv', hglt, ⟨d0, d1, d2, d3, d4, d5, d6, d7, d8, d9, d10, d11⟩, htk, hfv⟩ := hpr2.at hlt
        have hlv2 := hlv.symm.trans hlv'
        simp at hlv2
        obtain ⟨rfl, rfl⟩ := hlv2
        clear hlv hlv' hfv
        generalize pls[k + 1] = p at *
        go_wp2_with fail
        refine (tidyLine_any _ _ p a0 a1 a2 a3 e0 e1 e2 e3 xe xf htk (unhide HP).1 (unhide HP).2.1 (unhide HP).2.2).mono ?_
        rintro e w3 ⟨rfl, hb3⟩
        have hpr3 := hpr2.later hb3
        have hown3 := own_later hown2' hb3
        have hbe3 := hbe2.trans (hb3.mono (B' := w.heap.size) hsz2)
        have hsz3 := hbe3.size
        clear hpr2 hown2' hbe2 hb3 htk d0 d1 d2 d3 d4 d5 d6 d7 d8 d9 d10 d11 cP
        go_wp2_with (at_builtin; refine wpList_append_text _ rfl _ _ 54 9 rfl w.heap.size 5 i0 _ Tryd.underlying54 Tryd.underlying9 hi0 hz0 hz1 hz2 rfl _ _ _ rfl hown3 (Rt.tidyLn p) rfl ?c1 hsz3 ?_)
        case c1 => have := unhide HS; have := unhide HL; have := unhide HS3; omega
        intro v' w4 hown4 hgrow
        have hbe4 := hbe3.grown hgrow hsz3 (fun j hj => (hown3.lt j hj).1)
        have hpr4 : ProgR w4 P B pls lv cs := prog_grown0 (t := 5) hpr3 hgrow (fun x hx => by
          rcases hown3.2 with ⟨h', _⟩ | ⟨g', _, cur, h', _, hh, _⟩
          · rw [h'] at hx; cases hx
          · rw [h'] at hx; simp [Value.ownBlock] at hx; subst hx; exact ⟨_, hh⟩) (by decide)
        have HF := hide (And.intro hpr4 (And.intro hown4 hbe4))
        clear hpr4 hown4 hbe4 hgrow hpr3 hown3 hbe3
        go_wp2_with fail
        go_roundw
        case rel =>
          obtain ⟨q1, q2, q3⟩ := unhide HF
          exact ⟨k + 1, by omega, by go_num, q1, by rw [unhide HT, Rt.byteCells_add, ByteArray.size_append]; exact q2, q3⟩
        case measure => simp [intOf]; omega
      · have hkp' : ¬ (1 : Int) < (k : Int) + 1 := by omega
        rw [if_neg hkp] at HT
        obtain ⟨g, cap', a0, a1, a2, a3, e0, e1, e2, e3, xe, xf, hlv', hglt, ⟨d0, d1, d2, d3, d4, d5, d6, d7, d8, d9, d10, d11⟩, htk, hfv⟩ := hpr.at hlt
        have hlv2 := hlv.symm.trans hlv'
        simp at hlv2
        obtain ⟨rfl, rfl⟩ := hlv2
        clear hlv hlv' hfv
        generalize pls[k + 1] = p at *
        go_wp2_with fail
        refine (tidyLine_any _ _ p a0 a1 a2 a3 e0 e1 e2 e3 xe xf htk (unhide HP).1 (unhide HP).2.1 (unhide HP).2.2).mono ?_
        rintro e w3 ⟨rfl, hb3⟩
        have hpr3 := hpr.later hb3
        have hown3 := own_later hown hb3
        have hbe3 := hbe.trans (hb3.mono (B' := w.heap.size) hsz)
        have hsz3 := hbe3.size
        clear hpr hown hbe hb3 htk d0 d1 d2 d3 d4 d5 d6 d7 d8 d9 d10 d11 cP
        go_wp2_with (at_builtin; refine wpList_append_text _ rfl _ _ 54 9 rfl w.heap.size 5 i0 _ Tryd.underlying54 Tryd.underlying9 hi0 hz0 hz1 hz2 rfl _ _ _ rfl hown3 (Rt.tidyLn p) rfl ?c1 hsz3 ?_)
        case c1 => have := unhide HS; have := unhide HL; omega
        intro v' w4 hown4 hgrow
        have hbe4 := hbe3.grown hgrow hsz3 (fun j hj => (hown3.lt j hj).1)
        have hpr4 : ProgR w4 P B pls lv cs := prog_grown0 (t := 5) hpr3 hgrow (fun x hx => by
          rcases hown3.2 with ⟨h', _⟩ | ⟨g', _, cur, h', _, hh, _⟩
          · rw [h'] at hx; cases hx
          · rw [h'] at hx; simp [Value.ownBlock] at hx; subst hx; exact ⟨_, hh⟩) (by decide)
        have HF := hide (And.intro hpr4 (And.intro hown4 hbe4))
        clear hpr4 hown4 hbe4 hgrow hpr3 hown3 hbe3
        go_wp2_with fail
        go_roundw
        case rel =>
          obtain ⟨q1, q2, q3⟩ := unhide HF
          exact ⟨k + 1, by omega, by go_num, q1, by rw [unhide HT, Rt.byteCells_add, ByteArray.size_append]; exact q2, q3⟩
        case measure => simp [intOf]; omega
    · have hlt' : ¬ (k : Int) + 1 < (pls.length : Int) := by omega
      have HE : Hid (Rt.tidyTo pls k = Rt.tidyP pls) := hide (by rw [Rt.tidyP, show pls.length - 1 = k by omega])
      have hcv : (convert 54 9 (.slice adv (Rt.tidyTo pls k).size capv)).run Tryd.prog wr = .ok (.string (Rt.tidyTo pls k)) wr := run_text_of_own (P := Tryd.prog) wr 54 9 5 w.heap.size _ _ (Rt.tidyTo pls k).data.toList Tryd.underlying54 Tryd.underlying5 Tryd.underlying9 hown
      have HF := hide hbe
      clear hpr hown hbe hlv
      go_wp2_with fail
      go_ret
      exact ⟨unhide HF, by rw [← unhide HE]; rfl⟩

end Go.Proofs.YtopeochnoefgcaaDoor

namespace Go.Proofs.YtopeochnoefgcaaDoor
open Go.RowKit

def TidyPP (s : ByteArray) (w : World) (e : Ending) (w' : World) : Prop :=
  Below w.heap.size w w' ∧ ∃ er ln pls, Rt.readS s = (er, ln, pls) ∧
    ((¬ er = 0 ∧ e = .returned (.tuple #[.string ⟨#[]⟩, .int .i64 er, .int .i64 ln])) ∨
     (er = 0 ∧ ln = 0 ∧ e = .returned (.tuple #[.string (Rt.tidyP pls), .int .i64 0, .int .i64 0])))

set_option maxHeartbeats 1000000 in
set_option maxRecDepth 100000 in
theorem tidy_any (s : ByteArray) (w : World) (hs : s.size ≤ maxLen) (hfit : (Rt.readS s).1 = 0 → ∀ p ∈ (Rt.readS s).2.2, Rt.Fit p) :
    Calls Tryd.prog 6 #[.string s] w (TidyPP s w) := by
  have HFit := hide hfit
  clear hfit
  go_enter Tryd.func6, Tryd.ntmps6
  go_wp2_with fail
  refine (read_any s _ hs).mono ?_
  rintro e w1 ⟨hb1, er, ln, pls, hR, (⟨her, rfl⟩ | ⟨rfl, rfl, hlen, lv, cs, rfl, hown, hlines⟩)⟩
  · have HR := hide hR
    have HB := hide (hb1.alloc hb1.size (.cells #[noOps] 41))
    have HN := hide her
    have her' : (er != 0) = true := by simpa using her
    clear hR hb1 her
    go_wp2_with fail
    go_ret3
    exact ⟨unhide HB, er, ln, pls, unhide HR, Or.inl ⟨unhide HN, rfl⟩⟩
  · have HR := hide hR
    have hft : ∀ p ∈ pls, Rt.Fit p := by have := unhide HFit; rw [hR] at this; exact this rfl
    obtain ⟨adl, capl, rfl⟩ := ownsRow_form hown
    have hb2 := (Below.refl w1.heap.size w1).alloc (Nat.le_refl _) (.cells #[.slice adl pls.length capl] 41)
    have hpr : ProgR (w1.alloc (.cells #[.slice adl pls.length capl] 41)) w1.heap.size w.heap.size pls (.slice adl pls.length capl) cs := ⟨heap_alloc_new w1 _, own_later hown hb2, (keeps_later hb2).lines _ _ hlines⟩
    have hsz := hb1.size
    have HFT := hide hft
    clear hR hown hlines hft
    go_wp2_with fail
    refine (progTidy_r _ _ _ _ _ _ hpr hlen (unhide HFT)).mono ?_
    rintro e w3 ⟨hb3, rfl⟩
    have HF := hide (hb1.trans ((hb2.mono (B' := w.heap.size) hsz).trans (hb3.mono (B' := w.heap.size) (by simp; omega))))
    clear hb1 hb2 hpr hb3
    go_wp2_with fail
    go_ret3
    exact ⟨unhide HF, 0, 0, pls, unhide HR, Or.inr ⟨rfl, rfl, rfl⟩⟩

end Go.Proofs.YtopeochnoefgcaaDoor

