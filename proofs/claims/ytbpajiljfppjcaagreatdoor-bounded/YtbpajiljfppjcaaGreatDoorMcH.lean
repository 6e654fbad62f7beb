/- The machine: what a line comes to; a value set. -/
import Derived.Test.YtbpajiljfppjcaaGreatDoorMcF
namespace Go.Proofs.YtbpajiljfppjcaaGreatDoor
open Go.RowKit
attribute [local go_sem ↓] Go.wp_at_zero Go.wp_at_succ

set_option maxHeartbeats 1000000 in
theorem otherwise_any (w : World) (P B : Nat) (pls : List Rt.PL) (lk : Rt.Lks) (lv : Value) (cs : List (List Value)) (n : Int) (h : ProgM w P B pls lk lv cs) :
    Calls Tryz.prog 124 #[.pointer (some ⟨P, 0, none⟩), .int .i64 n] w fun e w' => e = .returned (.int .i64 (Rt.otherwise lk n)) ∧ Below w.heap.size w w' := by
  go_enter Tryz.func124, Tryz.ntmps124
  go_wp2_with fail
  refine (Line_m _ _ _ _ _ _ _ n h).mono ?_
  rintro e w1 ⟨a0, a1, a2, a3, k0, k1, k2, k3, rfl, _, _, hb⟩
  have HO := hide (show Rt.otherwise lk n = if 0 < (Rt.lkAt lk n).1 then wrap64 ((Rt.lkAt lk n).1 + 1) else wrap64 ((Rt.lkAt lk n).2 + 1) from rfl)
  generalize (Rt.lkAt lk n).1 = xe at *
  generalize (Rt.lkAt lk n).2 = xf at *
  generalize Rt.lineAtP pls n = pl at *
  have hbF := hb.alloc hb.size (.cells #[.slice a0 pl.toks.length k0, .int .i64 pl.form.kind, .string pl.form.name, .int .i64 pl.form.cells, .slice a1 pl.form.params.length k1, .slice a2 pl.form.index.length k2, .slice a3 pl.form.values.length k3, .int .i64 pl.depth, .int .i64 pl.opener, .int .i64 xe, .int .i64 xf, .int .i64 pl.proc] 122)
  have HB := hide hbF
  clear h hb hbF
  by_cases hx : 0 < xe
  · have HE := hide ((unhide HO).trans (if_pos hx))
    clear HO
    go_wp2_with fail
    go_ret
    exact ⟨by rw [unhide HE]; rfl, unhide HB⟩
  · have HE := hide ((unhide HO).trans (if_neg hx))
    clear HO
    go_wp2_with fail
    go_ret
    exact ⟨by rw [unhide HE]; rfl, unhide HB⟩

/-- The end of an else's block lies behind the else. -/
def LkFwd (pls : List Rt.PL) (lk : Rt.Lks) : Prop := ∀ (n : Nat) (p : Rt.PL), pls[n]? = some p → p.form.kind = 6 → (n : Int) ≤ (Rt.lkAt lk p.opener).2 ∧ (Rt.lkAt lk p.opener).2 ≤ 200
namespace Rt
/-- More fuel than lines changes nothing. -/
theorem goOn_step (pls : List PL) (lk : Lks) (f : Nat) (n : Int) : goOn pls lk (f + 1) n = if 0 < n ∧ n < pls.length then (if isStopP pls (lnAt pls n) = true then n else if (lnAt pls n).form.kind = 4 ∧ (formAt pls (lnAt pls n).opener).kind = 7 then (lnAt pls n).opener else if (lnAt pls n).form.kind = 6 then goOn pls lk f (wrap64 ((lkAt lk (lnAt pls n).opener).2 + 1)) else goOn pls lk f (wrap64 (n + 1))) else 0 := rfl
end Rt
set_option maxHeartbeats 2000000 in
set_option maxRecDepth 100000 in
theorem goOn_any (w : World) (P B : Nat) (pls : List Rt.PL) (lk : Rt.Lks) (lv : Value) (cs : List (List Value)) (n : Int) (h : ProgM w P B pls lk lv cs) (hlen : pls.length ≤ 101) (hfw : LkFwd pls lk) (hn : -9223372036854775808 ≤ n ∧ n ≤ 9223372036854775807) :
    Calls Tryz.prog 70 #[.pointer (some ⟨P, 0, none⟩), .int .i64 n] w fun e w' => e = .returned (.int .i64 (Rt.goOn pls lk 102 n)) ∧ Below w.heap.size w w' := by
  obtain ⟨ad, cap, hlv, cP⟩ := h.lvForm
  have HH := hide h
  have HFW := hide hfw
  clear h hfw
  go_enter Tryz.func70, Tryz.ntmps70
  go_wp2_with fail
  go_loopw [1, 5, 6] (fun i _ _ wr => ∃ (j : Int) (f : Nat), i = .int .i64 j ∧ -9223372036854775808 ≤ j ∧ j ≤ 9223372036854775807 ∧ (pls.length : Int) < f + max j 0 + 1 ∧ Rt.goOn pls lk f j = Rt.goOn pls lk 102 n ∧ Below w.heap.size w wr)
    (fun i _ _ _ => (pls.length + 1 - max (intOf i) 0).toNat)
  case atStart => exact ⟨n, 102, rfl, hn.1, hn.2, by omega, rfl, Below.refl _ _⟩
  case round =>
    obtain ⟨j, f, rfl, hj1, hj2, hf, hT, hbe⟩ := hrel
    have hpr := (unhide HH).later hbe
    have cP' := cell_later hbe cP
    have HT := hide hT
    have HF := hide hf
    clear hT hf cP
    by_cases hin : 0 < j ∧ j < pls.length
    · obtain ⟨k, rfl⟩ := Int.eq_ofNat_of_zero_le (show 0 ≤ j by omega)
      have hlt : k < pls.length := by omega
      have hlt' : (k : Int) < (pls.length : Int) := by omega
      have hk0 : (0 : Int) < (k : Int) := hin.1
      have hk0' : (0 : Int) ≤ (k : Int) := by omega
      obtain ⟨f', rfl⟩ : ∃ f', f = f' + 1 := ⟨f - 1, by have := unhide HF; omega⟩
      obtain ⟨g, cap', a0, a1, a2, a3, e0, e1, e2, e3, xe, xf, hlv', hglt, ⟨d0, d1, d2, d3, d4, d5, d6, d7, d8, d9, d10, d11⟩, _, _⟩ := hpr.at hlt
      have hlv2 := hlv.symm.trans hlv'
      injection hlv2 with e1 _ e2
      subst e1 e2
      have HST := hide ((unhide HT).symm.trans (Rt.goOn_step pls lk f' k))
      have hln : Rt.lnAt pls (k : Int) = pls[k] := Rt.lineAtP_in hlt
      rw [hln, if_pos hin] at HST
      have hfwk := unhide HFW k pls[k] (List.getElem?_eq_getElem hlt)

      clear hlv' hln hin HT
      have HPI : Hid (Rt.lineAtP pls (k : Int) = pls[k]) := hide (Rt.lineAtP_in hlt)
      generalize pls[k] = p at *
      have hbA := (Below.refl wr.heap.size wr).alloc (Nat.le_refl _) (.cells #[.slice a0 p.toks.length e0, .int .i64 p.form.kind, .string p.form.name, .int .i64 p.form.cells, .slice a1 p.form.params.length e1, .slice a2 p.form.index.length e2, .slice a3 p.form.values.length e3, .int .i64 p.depth, .int .i64 p.opener, .int .i64 xe, .int .i64 xf, .int .i64 p.proc] 122)
      have bA := heap_alloc_new wr (.cells #[.slice a0 p.toks.length e0, .int .i64 p.form.kind, .string p.form.name, .int .i64 p.form.cells, .slice a1 p.form.params.length e1, .slice a2 p.form.index.length e2, .slice a3 p.form.values.length e3, .int .i64 p.depth, .int .i64 p.opener, .int .i64 xe, .int .i64 xf, .int .i64 p.proc] 122)
      have hprA := hpr.later hbA
      have hbeA := hbe.trans (hbA.mono (B' := w.heap.size) hbe.size)
      clear hpr hbe hbA
      go_wp2_with fail
      refine (isStop_m _ _ _ _ _ _ _ (k : Int) hprA).mono ?_
      rintro e w2 ⟨rfl, hb2⟩
      rw [unhide HPI]
      have hpr2 := hprA.later hb2
      have hbe2 := hbeA.trans (hb2.mono (B' := w.heap.size) hbeA.size)
      have bA2 := block_later bA hb2
      clear hprA hbeA hb2 bA
      cases hst : Rt.isStopP pls p with
      | true =>
        have HE := hide ((unhide HST).trans (if_pos hst))
        have HB := hide hbe2
        clear HST hst hpr2 hbe2 bA2 hfwk
        go_wp2_with fail
        go_ret
        exact ⟨by rw [unhide HE]; rfl, unhide HB⟩
      | false =>
        have HS2 := hide ((unhide HST).trans (if_neg (by rw [hst]; simp)))
        clear HST hst
        have q1 := cell_of_block bA2 1 (by simp)
        have q8 := cell_of_block bA2 8 (by simp)
        simp only [List.getElem_toArray, List.getElem_cons_succ, List.getElem_cons_zero] at q1 q8
        go_wp2_with fail
        refine (Line_m _ _ _ _ _ _ _ p.opener hpr2).mono ?_
        rintro e w3 ⟨b0, b1, b2, b3, f0, f1, f2, f3, rfl, _, _, hb3⟩
        have HFo := hide (Rt.lineAtP_form pls p.opener)
        generalize Rt.lineAtP pls p.opener = po at *
        generalize HLK1 : (Rt.lkAt lk p.opener).1 = ye at *
        generalize HLK2 : (Rt.lkAt lk p.opener).2 = yf at *
        have hb4 := (Below.refl w3.heap.size w3).alloc (Nat.le_refl _) (.cells #[.slice b0 po.toks.length f0, .int .i64 po.form.kind, .string po.form.name, .int .i64 po.form.cells, .slice b1 po.form.params.length f1, .slice b2 po.form.index.length f2, .slice b3 po.form.values.length f3, .int .i64 po.depth, .int .i64 po.opener, .int .i64 ye, .int .i64 yf, .int .i64 po.proc] 122)
        have bB4 := heap_alloc_new w3 (.cells #[.slice b0 po.toks.length f0, .int .i64 po.form.kind, .string po.form.name, .int .i64 po.form.cells, .slice b1 po.form.params.length f1, .slice b2 po.form.index.length f2, .slice b3 po.form.values.length f3, .int .i64 po.depth, .int .i64 po.opener, .int .i64 ye, .int .i64 yf, .int .i64 po.proc] 122)
        have bA4 := block_later (block_later bA2 hb3) hb4
        have r1 := cell_of_block bA4 1 (by simp)
        have r8 := cell_of_block bA4 8 (by simp)
        simp only [List.getElem_toArray, List.getElem_cons_succ, List.getElem_cons_zero] at r1 r8
        have hbe4 := (hbe2.trans (hb3.mono (B' := w.heap.size) hbe2.size)).trans (hb4.mono (B' := w.heap.size) (by have := hbe2.size; have := hb3.size; omega))
        have HB := hide hbe4
        have hLne : ¬ wr.heap.size = w3.heap.size := by have := block_lt (block_later bA2 hb3); omega
        clear hpr2 hbe2 bA2 hb3 hb4 bB4 bA4 hbe4 q1 q8
        generalize p.opener = op at *
        generalize p.form.kind = kx at *
        have HKO := hide (show (Rt.formAt pls op).kind = po.form.kind by rw [unhide HFo])
        rw [unhide HKO] at HS2
        generalize po.form.kind = ko at *
        by_cases h4 : kx = 4
        · subst h4
          by_cases h7 : ko = 7
          · subst h7
            have HE := hide ((unhide HS2).trans (if_pos ⟨rfl, rfl⟩))
            clear HS2 hfwk
            go_wp2_with fail
            go_ret
            exact ⟨by rw [unhide HE]; rfl, unhide HB⟩
          · have b7 : (ko == 7) = false := by rw [beq_eq_false_iff_ne]; exact h7
            have HE := hide (((unhide HS2).trans (if_neg (fun e => h7 e.2))).trans (if_neg (by omega)))
            have hwk : IntKind.i64.wrap ((k : Int) + 1) = (k : Int) + 1 := by rw [IntWalk.i64_left, IntWalk.wrap64_in _ (by omega)]
            clear HS2 hfwk h7
            go_wp2_with fail
            go_roundw
            case rel =>
              have hf := unhide HF
              refine ⟨(k : Int) + 1, f', by go_num, by omega, by omega, by omega, ?_, unhide HB⟩
              have := unhide HE
              rw [IntWalk.wrap64_in _ (by omega)] at this
              exact this.symm
            case measure => simp [intOf]; omega
        · have b4 : (kx == 4) = false := by rw [beq_eq_false_iff_ne]; exact h4
          by_cases h6 : kx = 6
          · subst h6
            have hfw2 := hfwk rfl
            have HE := hide (((unhide HS2).trans (if_neg (fun e => h4 e.1))).trans (if_pos rfl))
            have hwk : IntKind.i64.wrap (yf + 1) = yf + 1 := by rw [IntWalk.i64_left, IntWalk.wrap64_in _ (by omega)]
            clear HS2 hfwk
            go_wp2_with fail
            go_roundw
            case rel =>
              have hf := unhide HF
              refine ⟨yf + 1, f', by go_num, by omega, by omega, by omega, ?_, unhide HB⟩
              have := unhide HE
              rw [IntWalk.wrap64_in _ (by omega)] at this
              exact this.symm
            case measure => simp [intOf]; omega
          · have b6 : (kx == 6) = false := by rw [beq_eq_false_iff_ne]; exact h6
            have HE := hide (((unhide HS2).trans (if_neg (fun e => h4 e.1))).trans (if_neg h6))
            have hwk : IntKind.i64.wrap ((k : Int) + 1) = (k : Int) + 1 := by rw [IntWalk.i64_left, IntWalk.wrap64_in _ (by omega)]
            clear HS2 hfwk h4 h6
            go_wp2_with fail
            go_roundw
            case rel =>
              have hf := unhide HF
              refine ⟨(k : Int) + 1, f', by go_num, by omega, by omega, by omega, ?_, unhide HB⟩
              have := unhide HE
              rw [IntWalk.wrap64_in _ (by omega)] at this
              exact this.symm
            case measure => simp [intOf]; omega
    · have HE : Hid (Rt.goOn pls lk 102 n = 0) := by
        refine hide ?_
        rw [← unhide HT]
        cases f with
        | zero => rfl
        | succ f => rw [Rt.goOn_step, if_neg hin]
      have HB := hide hbe
      clear hpr hbe HT HF
      by_cases hj : 0 < j
      · have hj' : ¬ j < (pls.length : Int) := fun e => hin ⟨hj, e⟩
        clear hin
        go_wp2_with fail
        go_ret
        exact ⟨by rw [unhide HE]; rfl, unhide HB⟩
      · clear hin
        go_wp2_with fail
        go_ret
        exact ⟨by rw [unhide HE]; rfl, unhide HB⟩
end Go.Proofs.YtbpajiljfppjcaaGreatDoor

namespace Go.Proofs.YtbpajiljfppjcaaGreatDoor
open Go.RowKit
attribute [local go_sem ↓] Go.wp_at_zero Go.wp_at_succ

/-- The blocks of the machine's rows. -/
def blkX (X : McX) : List Nat := ([X.iv, X.fv, X.vv, X.ov] ++ (X.fps ++ X.vps)).filterMap Value.ownBlock
theorem zip_blks : ∀ (a : List Value) (b : List (List Int)), a.length = b.length → blks (List.zipWith iRow a b) = a.filterMap Value.ownBlock
  | [], [], _ => rfl
  | [], _ :: _, h => by simp at h
  | _ :: _, [], h => by simp at h
  | x :: a, y :: b, h => by
    rw [List.zipWith_cons_cons, blks_cons, zip_blks a b (by simpa using h), List.filterMap_cons]
    show (match x.ownBlock with | none => _ | some g => _) = _
    cases x.ownBlock <;> rfl
theorem McS.blks {w : World} {M B : Nat} {ty : TypeId} {tail : List Value} {S : Rt.Src} {m : Rt.Mc} {X : McX} (h : McS w M B ty tail S m X) : blks (rowsOf S.input X m) = blkX X := by
  unfold rowsOf blkX
  rw [blks_app, blks_app, zip_blks _ _ (by simp [h.fl]), zip_blks _ _ h.vl, List.filterMap_append, List.filterMap_append]
  rfl
/-- The machine behind a call: what it is, what else stays. -/
structure Aft (M B : Nat) (ty : TypeId) (tail : List Value) (S : Rt.Src) (X X' : McX) (m' : Rt.Mc) (w w' : World) : Prop where
  mc : McS w' M B ty tail S m' X'
  frm : Frm w w' (M :: blkX X)
  grow : Grows w (blkX X) (blkX X')
  lt : M < w.heap.size
theorem Aft.start {M B : Nat} {ty : TypeId} {tail : List Value} {S : Rt.Src} {m : Rt.Mc} {X : McX} {w w' : World} (h : McS w M B ty tail S m X) (hb : Below w.heap.size w w') : Aft M B ty tail S X X m w w' := ⟨h.later hb, Frm.of_below _ hb, Grows.refl _ _, block_lt h.block⟩
theorem Aft.below {M B : Nat} {ty : TypeId} {tail : List Value} {S : Rt.Src} {m : Rt.Mc} {X X' : McX} {w w1 w2 : World} (h : Aft M B ty tail S X X' m w w1) (hb : Below w1.heap.size w1 w2) : Aft M B ty tail S X X' m w w2 :=
  ⟨h.mc.later hb, h.frm.trans (Frm.of_below [] hb) (fun _ h => by cases h), h.grow, h.lt⟩
theorem Aft.put {M B : Nat} {ty : TypeId} {tail : List Value} {S : Rt.Src} {m m2 : Rt.Mc} {X X' : McX} {w w1 w2 : World} (h : Aft M B ty tail S X X' m w w1) (hp : PutP M B ty tail S m m2 X' w1 w2) : Aft M B ty tail S X X' m2 w w2 := by
  refine ⟨hp.1, h.frm.trans hp.2 ?_, h.grow, h.lt⟩
  rw [h.mc.blks]
  intro k hk
  rcases h.grow k hk with h' | h'
  · exact Or.inl (List.mem_cons_of_mem _ h')
  · exact Or.inr h'
theorem Aft.aside {M B : Nat} {ty : TypeId} {tail : List Value} {S : Rt.Src} {m : Rt.Mc} {X X' : McX} {w w' : World} (h : Aft M B ty tail S X X' m w w') {N : Nat} {cs : Array Value} {t : TypeId} (hN : w'.heap[N]? = some (.cells cs t (0, 0))) (hlt : w.heap.size ≤ N) (ht : ¬ PTy t ∧ t ≠ 3 ∧ t ≠ 124 ∧ t ≠ 22) (i : Nat) (v : Value) : Aft M B ty tail S X X' m w (w'.setCell ⟨N, i, none⟩ v) := by
  have hlt2 := h.lt
  refine ⟨h.mc.aside hN (by omega) ht i v, ⟨h.frm.os, h.frm.tape, h.frm.output, Nat.le_trans h.frm.size (by simp [World.setCell]), fun k hk hn => ?_⟩, h.grow, h.lt⟩
  rw [Below.heap_setCell w' ⟨N, i, none⟩ v k (by show k ≠ N; omega)]
  exact h.frm.block k hk hn
abbrev W3 (w : World) (N : Nat) (a b c : Value) : World := ((w.setCell ⟨N, 0, none⟩ a).setCell ⟨N, 1, none⟩ b).setCell ⟨N, 2, none⟩ c
theorem Aft.three {M B : Nat} {ty : TypeId} {tail : List Value} {S : Rt.Src} {m : Rt.Mc} {X X' : McX} {w w' : World} (h : Aft M B ty tail S X X' m w w') {N : Nat} {cs : Array Value} {t : TypeId} (hN : w'.heap[N]? = some (.cells cs t (0, 0))) (hlt : w.heap.size ≤ N) (ht : ¬ PTy t ∧ t ≠ 3 ∧ t ≠ 124 ∧ t ≠ 22) (a b c : Value) : Aft M B ty tail S X X' m w (W3 w' N a b c) := by
  have n1 := set_block hN 0 a
  have n2 := set_block n1 1 b
  exact ((h.aside hN hlt ht 0 a).aside n1 hlt ht 1 b).aside n2 hlt ht 2 c

def recsCells (rs : List Rt.Rec) : List Value := rs.flatMap Rt.recCells
/-- What a line comes to. -/
def OutP (M B : Nat) (ty : TypeId) (tail : List Value) (S : Rt.Src) (X : McX) (o : Rt.Out) (w : World) (e : Ending) (w' : World) : Prop :=
  ∃ rv X', e = .returned (.agg #[.int .i64 o.fin, .int .i64 o.next, rv]) ∧ Aft M B ty tail S X X' o.m w w' ∧ w'.ownsRow w.heap.size 133 5 rv o.recs.length (recsCells o.recs)
/-- A form, as a value. -/
abbrev fmA (fm : Rt.PForm) (a1 a2 a3 : Option Addr) (c1 c2 c3 : Nat) : Array Value := #[.int .i64 fm.kind, .string fm.name, .int .i64 fm.cells, .slice a1 fm.params.length c1, .slice a2 fm.index.length c2, .slice a3 fm.values.length c3]
theorem three_cells {w : World} {N : Nat} {t : TypeId} {v0 v1 v2 : Value} (h : w.heap[N]? = some (.cells #[v0, v1, v2] t (0, 0))) :
    w.cell? ⟨N, 0, none⟩ = some v0 ∧ w.cell? ⟨N, 1, none⟩ = some v1 ∧ w.cell? ⟨N, 2, none⟩ = some v2 :=
  ⟨cell_of_block h 0 (by simp), cell_of_block h 1 (by simp), cell_of_block h 2 (by simp)⟩
theorem form_later {w w' : World} {BB : Nat} {v : Array Value} {fm : Rt.PForm} (h : FormV w BB v fm) (hb : Below w.heap.size w w') : FormV w' BB v fm := (keeps_later (B := BB) hb).form h

theorem W3_size (w : World) (N : Nat) (a b c : Value) : (W3 w N a b c).heap.size = w.heap.size := by simp [World.setCell]
theorem rec_new (n : Nat) (w : World) (B R : Nat) (cs : Array Value) (hB : B ≤ w.heap.size) (a b c : Value) (hn : cs.size = n * 5) (h1 : n ≤ 1000) : ((W3 w R a b c).alloc (.cells cs 133)).ownsRow B 133 5 (.slice (some ⟨w.heap.size, 0, none⟩) n n) n cs.toList := by
  have hq := heap_alloc_new (W3 w R a b c) (.cells cs 133)
  rw [W3_size] at hq
  refine ⟨by simp [hn], Or.inr ⟨w.heap.size, n, cs, rfl, hB, hq, Nat.le_refl _, by unfold maxLen; omega, hn, ?_⟩⟩
  exact List.take_of_length_le (by simp [hn])
theorem W3_block {w : World} {R : Nat} {x y z : Value} {t : TypeId} (h : w.heap[R]? = some (.cells #[x, y, z] t (0, 0))) (a b c : Value) : (W3 w R a b c).heap[R]? = some (.cells #[a, b, c] t (0, 0)) := by
  have := set_block (set_block (set_block h 0 a) 1 b) 2 c
  simpa using this
theorem put_line (m : Rt.Mc) (s : Rt.Spot) (v : Int) : (Rt.putS m s v).line = m.line := by
  unfold Rt.putS
  split
  · split <;> rfl
  · rfl
theorem W3_other (w : World) (N : Nat) (a b c : Value) (k : Nat) (hk : k ≠ N) : (W3 w N a b c).heap[k]? = w.heap[k]? := by
  simp only [W3]
  repeat rw [Below.heap_setCell _ _ _ _ hk]
/-- A row of records that is new. -/
theorem rec_row {w : World} {B q R : Nat} (n : Nat) {cs : Array Value} (hq : w.heap[q]? = some (.cells cs 133 (0, 0))) (hne : q ≠ R) (hB : B ≤ q) (a b c : Value) (hn : cs.size = n * 5) (h1 : n ≤ 1000) : (W3 w R a b c).ownsRow B 133 5 (.slice (some ⟨q, 0, none⟩) n n) n cs.toList := by
  refine ⟨by simp [hn], Or.inr ⟨q, n, cs, rfl, hB, by rw [W3_other _ _ _ _ _ _ hne]; exact hq, Nat.le_refl _, by unfold maxLen; omega, hn, ?_⟩⟩
  exact List.take_of_length_le (by simp [hn])
set_option maxHeartbeats 2000000 in
theorem setName_any (w : World) (M B : Nat) (ty : TypeId) (tail : List Value) (S : Rt.Src) (m : Rt.Mc) (X : McX) (BB : Nat) (fm : Rt.PForm) (a1 a2 a3 : Option Addr) (c1 c2 c3 : Nat) (h : McS w M B ty tail S m X) (hm : Mok S m) (hf : FormV w BB (fmA fm a1 a2 a3 c1 c2 c3) fm) (hsm : Rt.Small fm) (hops : ∀ o ∈ fm.values, o.length ≤ 900) (hk : fm.kind = 8) :
    Calls Tryz.prog 95 #[.pointer (some ⟨M, 0, none⟩), .agg (fmA fm a1 a2 a3 c1 c2 c3)] w (OutP M B ty tail S X (Rt.perform S m fm) w) := by
  have hbA := ((Below.refl w.heap.size w).alloc (Nat.le_refl _) (.cells (fmA fm a1 a2 a3 c1 c2 c3) 120)).alloc (by simp) (.cells #[.int .i64 0, .int .i64 0, .slice none 0 0] 128)
  have bF := block_alloc (heap_alloc_new w (.cells (fmA fm a1 a2 a3 c1 c2 c3) 120)) (.cells #[.int .i64 0, .int .i64 0, .slice none 0 0] 128)
  have bR := alloc2_plain w (.cells (fmA fm a1 a2 a3 c1 c2 c3) 120) (.cells #[.int .i64 0, .int .i64 0, .slice none 0 0] 128)
  have hA := h.later hbA
  have hfA := form_later hf hbA
  have HP := hide (show Rt.perform S m fm = if (Rt.valueF S m fm).2 = 0 then ⟨0, wrap64 (m.line + 1), [Rt.stay m.line, Rt.stored m (Rt.varS S m fm.name)], Rt.putS m (Rt.varS S m fm.name) (Rt.valueF S m fm).1⟩ else Rt.ended m (Rt.valueF S m fm).2 by unfold Rt.perform; simp only; rw [if_pos hk])
  have HH := hide h
  clear h hf hk
  go_enter Tryz.func95, Tryz.ntmps95
  go_wp2_with fail
  refine (value_any _ M B ty tail S m X BB fm a1 a2 a3 c1 c2 c3 hA hm hfA hsm hops).mono ?_
  rintro e w1 ⟨rfl, hb1⟩
  have hB1 := hbA.trans (hb1.mono (B' := w.heap.size) (by simp; omega))
  have bF1 := block_later bF hb1
  have bR1 := block_later bR hb1
  have k1 := cell_of_block bF1 1 (by simp)
  simp at k1
  have h1 := hA.later hb1
  clear hA hfA hbA bF bR hb1
  generalize Rt.valueF S m fm = v at *
  obtain ⟨v1, v2⟩ := v
  simp only at HP
  by_cases hv : v2 = 0
  · subst hv
    replace HP := hide ((unhide HP).trans (if_pos rfl))
    go_wp2_with fail
    refine (mvar_any _ M B ty tail S m X fm.name h1 hm).mono ?_
    rintro e w2 ⟨rfl, hb2⟩
    have hB2 := hB1.trans (hb2.mono (B' := w.heap.size) hB1.size)
    have h2 := h1.later hb2
    have bR2 := block_later bR1 hb2
    clear h1 hb2 hB1 bF1 bR1 k1
    have hb3 := (Below.refl w2.heap.size w2).alloc (Nat.le_refl _) (.cells #[.int .i64 (Rt.varS S m fm.name).line, .int .i64 (Rt.varS S m fm.name).cell] 131)
    have h3 := h2.later hb3
    have hB3 := hB2.trans (hb3.mono (B' := w.heap.size) hB2.size)
    have bR3 := block_later bR2 hb3
    have bT3 := heap_alloc_new w2 (.cells #[.int .i64 (Rt.varS S m fm.name).line, .int .i64 (Rt.varS S m fm.name).cell] 131)
    clear h2 hb3 hB2 bR2
    generalize Rt.varS S m fm.name = sp at *
    go_wp2_with fail
    refine (store_any _ M B ty tail S m X sp v1 h3 hm).mono ?_
    rintro e w4 ⟨rfl, hp4⟩
    have hA4 := (Aft.start (unhide HH) hB3).put hp4
    have bR4 := (hp4.2.block _ (block_lt bR3) (rows_not h3.own bR3 (by decide))).trans bR3
    clear h3 hB3 bR3 bT3 hp4
    have HRc := hide (show Rt.stored m sp = ⟨4, 0, sp, Rt.getS m sp⟩ from rfl)
    generalize Rt.getS m sp = old at *
    have hb5 := (Below.refl w4.heap.size w4).alloc (Nat.le_refl _) (.cells #[.int .i64 4, .int .i64 0, .int .i64 sp.line, .int .i64 sp.cell, .int .i64 old] 133)
    have hA5 := hA4.below hb5
    have bR5 := block_later bR4 hb5
    have bO5 := heap_alloc_new w4 (.cells #[.int .i64 4, .int .i64 0, .int .i64 sp.line, .int .i64 sp.cell, .int .i64 old] 133)
    have c6 := hA5.mc.c6
    have HL := hide (show (Rt.putS m sp v1).line = m.line from put_line m sp v1)
    rw [unhide HL] at c6
    have HA5 := hide (And.intro hA5 bR5)
    obtain ⟨p0, p1, p2, p3, p4⟩ := five_cells bO5
    clear hA4 hA5 bR4 bR5 hb5 bO5
    go_wp2_with fail
    generalize w4.alloc (.cells #[.int .i64 4, .int .i64 0, .int .i64 sp.line, .int .i64 sp.cell, .int .i64 old] 133) = w5 at *
    generalize w4.heap.size = O at *
    go_region_held3 (fun w' => w'.cell? ⟨M, 6, none⟩ = some (.int .i64 m.line) ∧ w'.cell? ⟨O, 0, none⟩ = some (.int .i64 4) ∧ w'.cell? ⟨O, 1, none⟩ = some (.int .i64 0) ∧ w'.cell? ⟨O, 2, none⟩ = some (.int .i64 sp.line) ∧ w'.cell? ⟨O, 3, none⟩ = some (.int .i64 sp.cell) ∧ w'.cell? ⟨O, 4, none⟩ = some (.int .i64 old)) (go_keep) (fail)
    obtain ⟨hA5, bR5⟩ := unhide HA5
    have hb6 := ((Below.refl w5.heap.size w5).alloc (Nat.le_refl _) (.cells #[.int .i64 1, .int .i64 m.line, .int .i64 0, .int .i64 0, .int .i64 0, .int .i64 4, .int .i64 0, .int .i64 sp.line, .int .i64 sp.cell, .int .i64 old] 133)).drew
    have bQ : (w5.alloc (.cells #[.int .i64 1, .int .i64 m.line, .int .i64 0, .int .i64 0, .int .i64 0, .int .i64 4, .int .i64 0, .int .i64 sp.line, .int .i64 sp.cell, .int .i64 old] 133)).drew.heap[w5.heap.size]? = _ := heap_alloc_new w5 (.cells #[.int .i64 1, .int .i64 m.line, .int .i64 0, .int .i64 0, .int .i64 0, .int .i64 4, .int .i64 0, .int .i64 sp.line, .int .i64 sp.cell, .int .i64 old] 133)
    have hA6 := hA5.below hb6
    have bR6 := block_later bR5 hb6
    have c6' := hA6.mc.c6
    rw [unhide HL] at c6'
    have hQ := hA5.frm.size
    have hQlt := block_lt bQ
    have hRlt := block_lt bR5
    clear hA5 bR5 hb6 HA5 c6 p0 p1 p2 p3 p4
    generalize (w5.alloc (.cells #[.int .i64 1, .int .i64 m.line, .int .i64 0, .int .i64 0, .int .i64 0, .int .i64 4, .int .i64 0, .int .i64 sp.line, .int .i64 sp.cell, .int .i64 old] 133)).drew = w6 at *
    generalize w5.heap.size = q at *
    obtain ⟨r0, r1, r2⟩ := three_cells bR6
    have z := free_of_block bR6
    have HF := hide (fun a b c => And.intro (hA6.three bR6 (by omega) (by unfold PTy; decide) a b c) (rec_row 2 bQ (show q ≠ w.heap.size + 1 by omega) hQ a b c rfl (by omega)))
    clear hA6 bR6 bQ
    go_wp2_with fail
    refine bodyPost_ret (v := .agg #[.int .i64 0, .int .i64 (wrap64 (m.line + 1)), .slice (some ⟨q, 0, none⟩) 2 2]) ?_ rfl ⟨_, _, by rw [unhide HP], by rw [unhide HP]; exact (unhide HF _ _ _).1, by rw [unhide HP, unhide HRc]; exact (unhide HF _ _ _).2⟩
    simp [results, Tryz.results95, go_sem, r0, r1, r2]
  · replace HP := hide ((unhide HP).trans (if_neg hv))
    have bv : (v2 != 0) = true := by simpa using hv
    obtain ⟨r0, r1, r2⟩ := three_cells bR1
    have z := free_of_block bR1
    have HF := hide (fun a b c => (Aft.start (unhide HH) hB1).three bR1 (by omega) (by unfold PTy; decide) a b c)
    clear h1 hB1 bF1 bR1 k1 hv hm hops hsm
    go_wp2_with fail
    refine bodyPost_ret (v := .agg #[.int .i64 v2, .int .i64 0, .slice none 0 0]) ?_ rfl ⟨_, _, by rw [unhide HP]; rfl, by rw [unhide HP]; exact unhide HF _ _ _, by rw [unhide HP]; exact World.ownsRow_nil _ _ _ _⟩
    simp [results, Tryz.results95, go_sem, r0, r1, r2]
end Go.Proofs.YtbpajiljfppjcaaGreatDoor

