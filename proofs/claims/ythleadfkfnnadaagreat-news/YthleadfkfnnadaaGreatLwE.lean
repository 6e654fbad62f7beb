/- The law: scripts of runs. -/
import Derived.Test.YthleadfkfnnadaaGreatMcD
import Derived.Test.YthleadfkfnnadaaGreatLwB
namespace Go.Proofs.YthleadfkfnnadaaGreat
open Go.RowKit
attribute [local go_sem ↓] Go.wp_at_zero Go.wp_at_succ
def LkFwd (pls : List Rt.PL) (lk : Rt.Lks) : Prop := ∀ (n : Nat) (p : Rt.PL), pls[n]? = some p → p.form.kind = 6 → (n : Int) ≤ (Rt.lkAt lk p.opener).2 ∧ (Rt.lkAt lk p.opener).2 ≤ 200
namespace Rt
theorem goOn_step (pls : List PL) (lk : Lks) (f : Nat) (n : Int) : goOn pls lk (f + 1) n = if 0 < n ∧ n < pls.length then (if isStopP pls (lnAt pls n) = true then n else if (lnAt pls n).form.kind = 4 ∧ (formAt pls (lnAt pls n).opener).kind = 7 then (lnAt pls n).opener else if (lnAt pls n).form.kind = 6 then goOn pls lk f (wrap64 ((lkAt lk (lnAt pls n).opener).2 + 1)) else goOn pls lk f (wrap64 (n + 1))) else 0 := rfl
end Rt
set_option maxHeartbeats 2000000 in
set_option maxRecDepth 100000 in
theorem goOn_any (w : World) (P B : Nat) (pls : List Rt.PL) (lk : Rt.Lks) (lv : Value) (cs : List (List Value)) (n : Int) (h : ProgM w P B pls lk lv cs) (hlen : pls.length ≤ 101) (hfw : LkFwd pls lk) (hn : -9223372036854775808 ≤ n ∧ n ≤ 9223372036854775807) :
    Calls Tryz.prog 92 #[.pointer (some ⟨P, 0, none⟩), .int .i64 n] w fun e w' => e = .returned (.int .i64 (Rt.goOn pls lk 102 n)) ∧ Below w.heap.size w w' := by
  obtain ⟨ad, cap, hlv, cP⟩ := h.lvForm
  have HH := hide h
  have HFW := hide hfw
  clear h hfw
  go_enter Tryz.func92, Tryz.ntmps92
  go_wp2_with fail
  go_loopw [1, 5, 6] (fun i _ _ wr => ∃ (j : Int) (f : Nat), i = .int .i64 j ∧ -9223372036854775808 ≤ j ∧ j ≤ 9223372036854775807 ∧ (pls.length : Int) < f + max j 0 + 1 ∧ Rt.goOn pls lk f j = Rt.goOn pls lk 102 n ∧ Below w.heap.size w wr)
    (fun i _ _ _ => (pls.length + 1 - max (intOf i) 0).toNat)
  case atStart => exact ⟨n, 102, rfl, hn.1, hn.2, by omega, rfl, Below.refl _ _⟩
  case round =>
    obtain ⟨j, f, rfl, hj1, hj2, hf, hT, hbe⟩ := hrel
    have hpr := (unhide HH).later hbe
    have cP' := cell_later hbe cP
    have HT := hide hT
    have HF := hide hf
    clear hT hf cP
    by_cases hin : 0 < j ∧ j < pls.length
    · obtain ⟨k, rfl⟩ := Int.eq_ofNat_of_zero_le (show 0 ≤ j by omega)
      have hlt : k < pls.length := by omega
      have hlt' : (k : Int) < (pls.length : Int) := by omega
      have hk0 : (0 : Int) < (k : Int) := hin.1
      have hk0' : (0 : Int) ≤ (k : Int) := by omega
      obtain ⟨f', rfl⟩ : ∃ f', f = f' + 1 := ⟨f - 1, by have := unhide HF; omega⟩
      obtain ⟨g, cap', a0, a1, a2, a3, e0, e1, e2, e3, xe, xf, hlv', hglt, ⟨d0, d1, d2, d3, d4, d5, d6, d7, d8, d9, d10, d11⟩, _, _⟩ := hpr.at hlt
      have hlv2 := hlv.symm.trans hlv'
      injection hlv2 with e1 _ e2
      subst e1 e2
      have HST := hide ((unhide HT).symm.trans (Rt.goOn_step pls lk f' k))
      have hln : Rt.lnAt pls (k : Int) = pls[k] := Rt.lineAtP_in hlt
      rw [hln, if_pos hin] at HST
      have hfwk := unhide HFW k pls[k] (List.getElem?_eq_getElem hlt)

      clear hlv' hln hin HT
      have HPI : Hid (Rt.lineAtP pls (k : Int) = pls[k]) := hide (Rt.lineAtP_in hlt)
      generalize pls[k] = p at *
      have hbA := (Below.refl wr.heap.size wr).alloc (Nat.le_refl _) (.cells #[.slice a0 p.toks.length e0, .int .i64 p.form.kind, .string p.form.name, .int .i64 p.form.cells, .slice a1 p.form.params.length e1, .slice a2 p.form.index.length e2, .slice a3 p.form.values.length e3, .int .i64 p.depth, .int .i64 p.opener, .int .i64 xe, .int .i64 xf, .int .i64 p.proc] 145)
      have bA := heap_alloc_new wr (.cells #[.slice a0 p.toks.length e0, .int .i64 p.form.kind, .string p.form.name, .int .i64 p.form.cells, .slice a1 p.form.params.length e1, .slice a2 p.form.index.length e2, .slice a3 p.form.values.length e3, .int .i64 p.depth, .int .i64 p.opener, .int .i64 xe, .int .i64 xf, .int .i64 p.proc] 145)
      have hprA := hpr.later hbA
      have hbeA := hbe.trans (hbA.mono (B' := w.heap.size) hbe.size)
      clear hpr hbe hbA
      go_wp2_with fail
      refine (isStop_m _ _ _ _ _ _ _ (k : Int) hprA).mono ?_
      rintro e w2 ⟨rfl, hb2⟩
      rw [unhide HPI]
      have hpr2 := hprA.later hb2
      have hbe2 := hbeA.trans (hb2.mono (B' := w.heap.size) hbeA.size)
      have bA2 := block_later bA hb2
      clear hprA hbeA hb2 bA
      cases hst : Rt.isStopP pls p with
      | true =>
        have HE := hide ((unhide HST).trans (if_pos hst))
        have HB := hide hbe2
        clear HST hst hpr2 hbe2 bA2 hfwk
        go_wp2_with fail
        go_ret
        exact ⟨by rw [unhide HE]; rfl, unhide HB⟩
      | false =>
        have HS2 := hide ((unhide HST).trans (if_neg (by rw [hst]; simp)))
        clear HST hst
        have q1 := cell_of_block bA2 1 (by simp)
        have q8 := cell_of_block bA2 8 (by simp)
        simp only [List.getElem_toArray, List.getElem_cons_succ, List.getElem_cons_zero] at q1 q8
        go_wp2_with fail
        refine (Line_m _ _ _ _ _ _ _ p.opener hpr2).mono ?_
        rintro e w3 ⟨b0, b1, b2, b3, f0, f1, f2, f3, rfl, _, _, hb3⟩
        have HFo := hide (Rt.lineAtP_form pls p.opener)
        generalize Rt.lineAtP pls p.opener = po at *
        generalize HLK1 : (Rt.lkAt lk p.opener).1 = ye at *
        generalize HLK2 : (Rt.lkAt lk p.opener).2 = yf at *
        have hb4 := (Below.refl w3.heap.size w3).alloc (Nat.le_refl _) (.cells #[.slice b0 po.toks.length f0, .int .i64 po.form.kind, .string po.form.name, .int .i64 po.form.cells, .slice b1 po.form.params.length f1, .slice b2 po.form.index.length f2, .slice b3 po.form.values.length f3, .int .i64 po.depth, .int .i64 po.opener, .int .i64 ye, .int .i64 yf, .int .i64 po.proc] 145)
        have bB4 := heap_alloc_new w3 (.cells #[.slice b0 po.toks.length f0, .int .i64 po.form.kind, .string po.form.name, .int .i64 po.form.cells, .slice b1 po.form.params.length f1, .slice b2 po.form.index.length f2, .slice b3 po.form.values.length f3, .int .i64 po.depth, .int .i64 po.opener, .int .i64 ye, .int .i64 yf, .int .i64 po.proc] 145)
        have bA4 := block_later (block_later bA2 hb3) hb4
        have r1 := cell_of_block bA4 1 (by simp)
        have r8 := cell_of_block bA4 8 (by simp)
        simp only [List.getElem_toArray, List.getElem_cons_succ, List.getElem_cons_zero] at r1 r8
        have hbe4 := (hbe2.trans (hb3.mono (B' := w.heap.size) hbe2.size)).trans (hb4.mono (B' := w.heap.size) (by have := hbe2.size; have := hb3.size; omega))
        have HB := hide hbe4
        have hLne : ¬ wr.heap.size = w3.heap.size := by have := block_lt (block_later bA2 hb3); omega
        clear hpr2 hbe2 bA2 hb3 hb4 bB4 bA4 hbe4 q1 q8
        generalize p.opener = op at *
        generalize p.form.kind = kx at *
        have HKO := hide (show (Rt.formAt pls op).kind = po.form.kind by rw [unhide HFo])
        rw [unhide HKO] at HS2
        generalize po.form.kind = ko at *
        by_cases h4 : kx = 4
        · subst h4
          by_cases h7 : ko = 7
          · subst h7
            have HE := hide ((unhide HS2).trans (if_pos ⟨rfl, rfl⟩))
            clear HS2 hfwk
            go_wp2_with fail
            go_ret
            exact ⟨by rw [unhide HE]; rfl, unhide HB⟩
          · have b7 : (ko == 7) = false := by rw [beq_eq_false_iff_ne]; exact h7
            have HE := hide (((unhide HS2).trans (if_neg (fun e => h7 e.2))).trans (if_neg (by omega)))
            have hwk : IntKind.i64.wrap ((k : Int) + 1) = (k : Int) + 1 := by rw [IntWalk.i64_left, IntWalk.wrap64_in _ (by omega)]
            clear HS2 hfwk h7
            go_wp2_with fail
            go_roundw
            case rel =>
              have hf := unhide HF
              refine ⟨(k : Int) + 1, f', by go_num, by omega, by omega, by omega, ?_, unhide HB⟩
              have := unhide HE
              rw [IntWalk.wrap64_in _ (by omega)] at this
              exact this.symm
            case measure => simp [intOf]; omega
        · have b4 : (kx == 4) = false := by rw [beq_eq_false_iff_ne]; exact h4
          by_cases h6 : kx = 6
          · subst h6
            have hfw2 := hfwk rfl
            have HE := hide (((unhide HS2).trans (if_neg (fun e => h4 e.1))).trans (if_pos rfl))
            have hwk : IntKind.i64.wrap (yf + 1) = yf + 1 := by rw [IntWalk.i64_left, IntWalk.wrap64_in _ (by omega)]
            clear HS2 hfwk
            go_wp2_with fail
            go_roundw
            case rel =>
              have hf := unhide HF
              refine ⟨yf + 1, f', by go_num, by omega, by omega, by omega, ?_, unhide HB⟩
              have := unhide HE
              rw [IntWalk.wrap64_in _ (by omega)] at this
              exact this.symm
            case measure => simp [intOf]; omega
          · have b6 : (kx == 6) = false := by rw [beq_eq_false_iff_ne]; exact h6
            have HE := hide (((unhide HS2).trans (if_neg (fun e => h4 e.1))).trans (if_neg h6))
            have hwk : IntKind.i64.wrap ((k : Int) + 1) = (k : Int) + 1 := by rw [IntWalk.i64_left, IntWalk.wrap64_in _ (by omega)]
            clear HS2 hfwk h4 h6
            go_wp2_with fail
            go_roundw
            case rel =>
              have hf := unhide HF
              refine ⟨(k : Int) + 1, f', by go_num, by omega, by omega, by omega, ?_, unhide HB⟩
              have := unhide HE
              rw [IntWalk.wrap64_in _ (by omega)] at this
              exact this.symm
            case measure => simp [intOf]; omega
    · have HE : Hid (Rt.goOn pls lk 102 n = 0) := by
        refine hide ?_
        rw [← unhide HT]
        cases f with
        | zero => rfl
        | succ f => rw [Rt.goOn_step, if_neg hin]
      have HB := hide hbe
      clear hpr hbe HT HF
      by_cases hj : 0 < j
      · have hj' : ¬ j < (pls.length : Int) := fun e => hin ⟨hj, e⟩
        clear hin
        go_wp2_with fail
        go_ret
        exact ⟨by rw [unhide HE]; rfl, unhide HB⟩
      · clear hin
        go_wp2_with fail
        go_ret
        exact ⟨by rw [unhide HE]; rfl, unhide HB⟩
def blkX (X : McX) : List Nat := ([X.iv, X.fv, X.vv, X.ov] ++ (X.fps ++ X.vps)).filterMap Value.ownBlock
theorem zip_blks : ∀ (a : List Value) (b : List (List Int)), a.length = b.length → blks (List.zipWith iRow a b) = a.filterMap Value.ownBlock
  | [], [], _ => rfl
  | [], _ :: _, h => by simp at h
  | _ :: _, [], h => by simp at h
  | x :: a, y :: b, h => by
    rw [List.zipWith_cons_cons, blks_cons, zip_blks a b (by simpa using h), List.filterMap_cons]
    show (match x.ownBlock with | none => _ | some g => _) = _
    cases x.ownBlock <;> rfl
theorem McS.blks {w : World} {M B : Nat} {ty : TypeId} {tail : List Value} {S : Rt.Src} {m : Rt.Mc} {X : McX} (h : McS w M B ty tail S m X) : blks (rowsOf S.input X m) = blkX X := by
  unfold rowsOf blkX
  rw [blks_app, blks_app, zip_blks _ _ (by simp [h.fl]), zip_blks _ _ h.vl, List.filterMap_append, List.filterMap_append]
  rfl
structure Aft (M B : Nat) (ty : TypeId) (tail : List Value) (S : Rt.Src) (X X' : McX) (m' : Rt.Mc) (w w' : World) : Prop where
  mc : McS w' M B ty tail S m' X'
  frm : Frm w w' (M :: blkX X)
  grow : Grows w (blkX X) (blkX X')
  lt : M < w.heap.size
theorem Aft.start {M B : Nat} {ty : TypeId} {tail : List Value} {S : Rt.Src} {m : Rt.Mc} {X : McX} {w w' : World} (h : McS w M B ty tail S m X) (hb : Below w.heap.size w w') : Aft M B ty tail S X X m w w' := ⟨h.later hb, Frm.of_below _ hb, Grows.refl _ _, block_lt h.block⟩
def recsCells (rs : List Rt.Rec) : List Value := rs.flatMap Rt.recCells
abbrev fmA (fm : Rt.PForm) (a1 a2 a3 : Option Addr) (c1 c2 c3 : Nat) : Array Value := #[.int .i64 fm.kind, .string fm.name, .int .i64 fm.cells, .slice a1 fm.params.length c1, .slice a2 fm.index.length c2, .slice a3 fm.values.length c3]
theorem three_cells {w : World} {N : Nat} {t : TypeId} {v0 v1 v2 : Value} (h : w.heap[N]? = some (.cells #[v0, v1, v2] t (0, 0))) :
    w.cell? ⟨N, 0, none⟩ = some v0 ∧ w.cell? ⟨N, 1, none⟩ = some v1 ∧ w.cell? ⟨N, 2, none⟩ = some v2 :=
  ⟨cell_of_block h 0 (by simp), cell_of_block h 1 (by simp), cell_of_block h 2 (by simp)⟩
end Go.Proofs.YthleadfkfnnadaaGreat
namespace Go.Proofs.YthleadfkfnnadaaGreat
open Go.RowKit
structure OpE where
  kind : Int
  a : Int
  b : Int
  c : Int
  s : ByteArray
  v : Value
  l : List Int
def opV (o : OpE) : Value := .agg #[.int .i64 o.kind, .int .i64 o.a, .int .i64 o.b, .int .i64 o.c, .string o.s, o.v]
structure ScrE (w : World) (v : Value) (ops : List OpE) : Prop where
  cells : ∃ ad cap, v = .slice ad ops.length cap ∧ (ops = [] ∨ ∃ g o, ad = some ⟨g, o, none⟩ ∧ ∀ j (h : j < ops.length), w.cell? ⟨g, o + j * 6, none⟩ = some (.int .i64 ops[j].kind) ∧ w.cell? ⟨g, o + j * 6 + 1, none⟩ = some (.int .i64 ops[j].a) ∧ w.cell? ⟨g, o + j * 6 + 2, none⟩ = some (.int .i64 ops[j].b) ∧
    w.cell? ⟨g, o + j * 6 + 3, none⟩ = some (.int .i64 ops[j].c) ∧ w.cell? ⟨g, o + j * 6 + 4, none⟩ = some (.string ops[j].s) ∧ w.cell? ⟨g, o + j * 6 + 5, none⟩ = some ops[j].v)
  str : ∀ op ∈ ops, op.s.size ≤ maxLen
  lst : ∀ op ∈ ops, Ints w op.v op.l ∧ op.l.length ≤ 17592186044416
  rng : ∀ op ∈ ops, (-9223372036854775808 ≤ op.a ∧ op.a ≤ 9223372036854775807) ∧ (-9223372036854775808 ≤ op.b ∧ op.b ≤ 9223372036854775807) ∧ (-9223372036854775808 ≤ op.c ∧ op.c ≤ 9223372036854775807)
def KindsR (w : World) (kg : Nat) (ks : List Int) : Prop := ∀ j (h : j < ks.length), w.cell? ⟨kg, j, none⟩ = some (.int .i64 ks[j])
structure Plays (w0 : World) (S : Nat) (ops : List OpE) (ks : List Int) (I : World → Nat → Prop) : Prop where
  later : ∀ w w' k, I w k → Below w.heap.size w w' → I w' k
  skip : ∀ w k, k < ops.length → I w k → I w (k + 1)
  lt : ∀ w k, I w k → S < w.heap.size
  step : ∀ w k (hk : k < ops.length), ops[k].kind ∈ ks → I w k → Below S w0 w → Calls Tryz.prog 10 #[.pointer (some ⟨S, 0, none⟩), opV ops[k]] w fun e w' => e = .returned (.bool true) ∧ Below S w w' ∧ I w' (k + 1)
  looks : ∀ w k, k ≤ ops.length → I w k → Calls Tryz.prog 11 #[.pointer (some ⟨S, 0, none⟩)] w fun e w' => e = .returned (.bool true) ∧ Below w.heap.size w w'
set_option maxHeartbeats 4000000 in
set_option maxRecDepth 100000 in
theorem plays_any (w : World) (v : Value) (ops : List OpE) (ks : List Int) (kg : Nat) (I : World → Nat → Prop) (h : ScrE w v ops) (hk : KindsR w kg ks) (hkl : ks.length ≤ 100) (hlen : ops.length ≤ 140737488355328)
    (h0 : ∀ w', w'.heap[w.heap.size]? = some (.cells #[.slice none 0 0, .slice none 0 0] 30 (0, 0)) → w'.heap.size = w.heap.size + 1 → I w' 0) (hP : Plays w w.heap.size ops ks I) :
    Calls Tryz.prog 9 #[v, .slice (some ⟨kg, 0, none⟩) ks.length ks.length] w fun e w' => e = .returned (.bool true) ∧ Below w.heap.size w w' := by
  have HH := hide h
  have HK := hide hk
  have HPP := hide hP
  obtain ⟨ad, cap, rfl, _⟩ := h.cells
  have HA := hide (h0 _ (heap_alloc_new w (.cells #[.slice none 0 0, .slice none 0 0] 30)) (by simp))
  clear h hk hP h0
  go_enter Tryz.func9, Tryz.ntmps9
  go_wp2
  go_loopw [6] (fun i wr => ∃ (k : Nat), k ≤ ops.length ∧ i = .int .i64 k ∧ I wr k ∧ Below w.heap.size w wr) (fun i _ => ops.length - (intOf i).toNat)
  case atStart => exact ⟨0, Nat.zero_le _, rfl, unhide HA, (Below.refl _ _).alloc (Nat.le_refl _) _⟩
  case round =>
    obtain ⟨k, hkl2, rfl, hL, hbe⟩ := hrel
    have HL := hide (And.intro hL hbe)
    clear hL hbe
    by_cases hlt : k < ops.length
    · have hlt' : (k : Int) < (ops.length : Int) := by omega
      have hk0 : (0 : Int) ≤ (k : Int) := by omega
      obtain ⟨ad', cap', he, hcells⟩ := (unhide HH).cells
      simp at he
      obtain ⟨rfl, rfl⟩ := he
      rcases hcells with hnil | ⟨g, o, hado, hcells⟩
      · rw [hnil] at hlt; simp at hlt
      subst hado
      have HC : Hid (∀ w', Below w.heap.size w w' → w'.cell? ⟨g, o + k * 6, none⟩ = some (.int .i64 ops[k].kind) ∧ w'.cell? ⟨g, o + k * 6 + 1, none⟩ = some (.int .i64 ops[k].a) ∧ w'.cell? ⟨g, o + k * 6 + 2, none⟩ = some (.int .i64 ops[k].b) ∧ w'.cell? ⟨g, o + k * 6 + 3, none⟩ = some (.int .i64 ops[k].c) ∧ w'.cell? ⟨g, o + k * 6 + 4, none⟩ = some (.string ops[k].s) ∧ w'.cell? ⟨g, o + k * 6 + 5, none⟩ = some ops[k].v) := hide (fun w' hb =>
        let ⟨h0, h1, h2, h3, h4, h5⟩ := hcells k hlt; ⟨cell_later hb h0, cell_later hb h1, cell_later hb h2, cell_later hb h3, cell_later hb h4, cell_later hb h5⟩)
      have HST := hide (show ∀ w', ops[k].kind ∈ ks → I w' k → Below w.heap.size w w' → _ from fun w' h1 h2 h3 => (unhide HPP).step w' k hlt h1 h2 h3)
      have hov : opV ops[k] = .agg #[.int .i64 ops[k].kind, .int .i64 ops[k].a, .int .i64 ops[k].b, .int .i64 ops[k].c, .string ops[k].s, ops[k].v] := rfl
      rw [hov] at HST
      clear hcells hov
      generalize ops[k].kind = kd at *
      generalize ops[k].a = oa at *
      generalize ops[k].b = ob at *
      generalize ops[k].c = oc at *
      generalize ops[k].s = os at *
      generalize ops[k].v = ol at *
      go_wp2_with fail
      go_loopw [7, 8] (fun inb j wr2 => ∃ q : Nat, q ≤ ks.length ∧ j = .int .i64 q ∧ inb = .bool ((ks.take q).any (fun x => kd == x)) ∧ I wr2 k ∧ Below w.heap.size w wr2) (fun _ j _ => ks.length - (intOf j).toNat)
      case atStart => exact ⟨0, Nat.zero_le _, rfl, by simp, (unhide HL).1, (unhide HL).2⟩
      case round =>
        obtain ⟨q, hq, rfl, rfl, hL2, hbe2⟩ := hrel
        obtain ⟨c0, c1, c2, c3, c4, c5⟩ := unhide HC _ hbe2
        have HL2 := hide (And.intro hL2 hbe2)
        by_cases hql : q < ks.length
        · have hql' : (q : Int) < (ks.length : Int) := by omega
          have hq0 : (0 : Int) ≤ (q : Int) := by omega
          have cK := cell_later hbe2 (unhide HK q hql)
          have HT := hide (show ((ks.take (q + 1)).any (fun x => kd == x)) = (((ks.take q).any (fun x => kd == x)) || (kd == ks[q])) by rw [List.take_add_one, List.getElem?_eq_getElem hql, List.any_append, Option.toList_some, List.any_cons, List.any_nil, Bool.or_false])
          clear hL2 hbe2 c1 c2 c3 c4 c5
          generalize ks[q] = kx at *
          generalize (ks.take q).any (fun x => kd == x) = ib at *
          cases ib with
          | true =>
            go_wp2_with fail
            go_region
            go_wp2_with fail
            go_roundw
            case rel => exact ⟨q + 1, by omega, by go_num, by rw [unhide HT]; first | rfl | simp, (unhide HPP).later _ _ _ (unhide HL2).1 (below_to_drew _), (unhide HL2).2.trans ((below_to_drew _).mono (unhide HL2).2.size)⟩
            case measure => simp [intOf]; omega
          | false =>
            go_wp2_with fail
            go_region_held3 (fun w' => w'.cell? ⟨kg, q, none⟩ = some (.int .i64 kx) ∧ w'.cell? ⟨g, o + k * 6, none⟩ = some (.int .i64 kd)) (go_keep) (fail)
            go_wp2_with fail
            go_roundw
            case rel => exact ⟨q + 1, by omega, by go_num, by rw [unhide HT]; first | rfl | simp, (unhide HPP).later _ _ _ (unhide HL2).1 (below_to_drew _), (unhide HL2).2.trans ((below_to_drew _).mono (unhide HL2).2.size)⟩
            case measure => simp [intOf]; omega
        · have hql' : ¬ (q : Int) < (ks.length : Int) := by omega
          have hqe : ks.take q = ks := List.take_of_length_le (by omega)
          rw [hqe]
          cases hz : ks.any (fun x => kd == x) with
          | false =>
            clear hL2 hbe2 c0 c1 c2 c3 c4 c5 hqe
            go_wp2_with fail
            go_roundw
            case rel => exact ⟨k + 1, by omega, by go_num, (unhide HPP).skip _ k hlt (unhide HL2).1, (unhide HL2).2⟩
            case measure => simp [intOf]; omega
          | true =>
            have HM := hide (show kd ∈ ks by simpa using hz)
            clear hL2 hbe2 hz hqe
            go_wp2_with fail
            refine (unhide HST _ (unhide HM) (unhide HL2).1 (unhide HL2).2).mono ?_
            rintro e w3 ⟨rfl, hb3, hI3⟩
            have HL3 := hide (And.intro hI3 ((unhide HL2).2.trans hb3))
            clear hI3 hb3 c0 c1 c2 c3 c4 c5
            go_wp2_with fail
            refine ((unhide HPP).looks _ (k + 1) (by omega) (unhide HL3).1).mono ?_
            rintro e w4 ⟨rfl, hb4⟩
            have HL4 := hide (And.intro ((unhide HPP).later _ _ _ (unhide HL3).1 hb4) ((unhide HL3).2.trans (hb4.mono (unhide HL3).2.size)))
            clear hb4
            go_wp2_with fail
            go_roundw
            case rel => exact ⟨k + 1, by omega, by go_num, (unhide HL4).1, (unhide HL4).2⟩
            case measure => simp [intOf]; omega
    · have hlt' : ¬ (k : Int) < (ops.length : Int) := by omega
      go_wp2_with fail
      go_ret
      exact ⟨rfl, (unhide HL).2⟩
theorem ScrE.later {w w' : World} {v : Value} {ops : List OpE} (h : ScrE w v ops) (hb : Below w.heap.size w w') : ScrE w' v ops := by
  obtain ⟨⟨ad, cap, rfl, h⟩, h2, h3, h4⟩ := h
  refine ⟨⟨ad, cap, rfl, ?_⟩, h2, fun op ho => ⟨(h3 op ho).1.later hb, (h3 op ho).2⟩, h4⟩
  rcases h with h | ⟨g, o, rfl, h⟩
  · exact Or.inl h
  · exact Or.inr ⟨g, o, rfl, fun j hj => let ⟨h0, h1, h2, h3, h4, h5⟩ := h j hj; ⟨cell_later hb h0, cell_later hb h1, cell_later hb h2, cell_later hb h3, cell_later hb h4, cell_later hb h5⟩⟩
end Go.Proofs.YthleadfkfnnadaaGreat
