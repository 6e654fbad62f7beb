/- The document's answer: a run. -/
import Derived.Test.YthleadfkfnnadaaGreatCuA
import Derived.Test.YthleadfkfnnadaaGreatLawC
import Derived.Test.YthleadfkfnnadaaGreatRgN
import Derived.Test.YthleadfkfnnadaaGreatRnC
import Derived.Test.YthleadfkfnnadaaGreatPlE
import Derived.Test.YthleadfkfnnadaaGreatRefW
import Derived.Test.YthleadfkfnnadaaGreatRefO
import Derived.Test.YthleadfkfnnadaaGreatLwB
import Derived.Test.YthleadfkfnnadaaGreatLwE
namespace Go.Proofs.YthleadfkfnnadaaGreat
open Go.RowKit
attribute [local go_sem ↓] Go.wp_at_zero Go.wp_at_succ
theorem below7 {B N : Nat} {w w1 : World} (h : Below B w w1) (hN : B ≤ N) (a b c d e f g : Value) : Below B w (W7 w1 N a b c d e f g) := below_one (below_one (below_one (below_one (below_one (below_one (below_one h hN _ _) hN _ _) hN _ _) hN _ _) hN _ _) hN _ _) hN _ _
section
variable {C : Nat} {pls : List Rt.PL} {ls : List (List ByteArray)} {S : Rt.Src} {cap : Int} {len n low : Nat} {mk : List Bool} {Y : CuX}
set_option maxHeartbeats 1000000 in
set_option maxRecDepth 100000 in
theorem place_ref (w : World) (h : CurG w C pls ls S cap len n low mk Y) (hn : n ≤ len) :
    Calls Tryz.prog 41 #[.pointer (some ⟨C, 0, none⟩)] w fun e w' => Below w.heap.size w w' ∧ ∃ X, Y.xs[n]? = some X ∧ PlQ w 0 (plN pls S n) X ∧ e = .returned (.agg (plA X.fv X.vv X.cv X.ov (plN pls S n))) := by
  obtain ⟨g, c, X, hX, htv, hq, hc⟩ := h.cells hn
  obtain ⟨c0, c1, c2, c3, c4, c5, c6, c7⟩ := eight_cells h.block
  rw [htv] at c3
  have t0 := hc 0 (by omega)
  have t1 := hc 1 (by omega)
  have t2 := hc 2 (by omega)
  have t3 := hc 3 (by omega)
  have t4 := hc 4 (by omega)
  have t5 := hc 5 (by omega)
  have t6 := hc 6 (by omega)
  obtain ⟨xa, xc, ya, yc, za, zc, oa, oc, f1, f2, f3, f4⟩ := hq.forms
  have hpa : plA X.fv X.vv X.cv X.ov (plN pls S n) = #[.slice xa (plN pls S n).frames.length xc, .slice ya (plN pls S n).vars.length yc, .slice za (plN pls S n).cells.length zc, .int .i64 (plN pls S n).read, .slice oa (plN pls S n).out.length oc, .int .i64 (plN pls S n).line, .int .i64 (plN pls S n).fin] := by rw [f1, f2, f3, f4]; rfl
  have HX := hide (And.intro hX (And.intro hq hpa))
  have hn0 : (0 : Int) ≤ (n : Int) := by omega
  have hn1 : (n : Int) < (len : Int) + 1 := by omega
  simp only [hpa, List.getElem_toArray, List.getElem_cons_zero, List.getElem_cons_succ, Nat.add_zero] at t0 t1 t2 t3 t4 t5 t6
  have hCl := block_lt h.block
  have hgl : g < w.heap.size := (h.tr.lt g (by rw [htv]; rfl)).2
  have m1 : ¬ C = w.heap.size := by omega
  have m2 : ¬ w.heap.size = C := by omega
  have m3 : ¬ g = w.heap.size := by omega
  have m4 : ¬ w.heap.size = g := by omega
  have hn2 := heap_alloc_new w (.cells #[.slice none 0 0, .slice none 0 0, .slice none 0 0, .int .i64 0, .slice none 0 0, .int .i64 0, .int .i64 0] 72)
  have hb2 := (Below.refl w.heap.size w).alloc (Nat.le_refl _) (.cells #[.slice none 0 0, .slice none 0 0, .slice none 0 0, .int .i64 0, .slice none 0 0, .int .i64 0, .int .i64 0] 72)
  clear h hc hX hq htv hpa f1 f2 f3 f4
  generalize plN pls S n = p at *
  go_enter Tryz.func41, Tryz.ntmps41
  go_wp2_with fail
  have z2 := free_of_block hn2
  obtain ⟨r0, r1, r2, r3, r4, r5, r6⟩ := seven hn2
  have e3 := cell_later hb2 c3
  have e5 := cell_later hb2 c5
  have u0 := cell_later hb2 t0
  have u1 := cell_later hb2 t1
  have u2 := cell_later hb2 t2
  have u3 := cell_later hb2 t3
  have u4 := cell_later hb2 t4
  have u5 := cell_later hb2 t5
  have u6 := cell_later hb2 t6
  have HW := hide (And.intro hb2 hn2)
  clear c0 c1 c2 c3 c4 c5 c6 c7 t0 t1 t2 t3 t4 t5 t6 hb2 hn2
  generalize w.alloc (.cells #[.slice none 0 0, .slice none 0 0, .slice none 0 0, .int .i64 0, .slice none 0 0, .int .i64 0, .int .i64 0] 72) = wz at *
  go_region_held3 (fun w' => w'.cell? ⟨C, 3, none⟩ = some (.slice (some ⟨g, 0, none⟩) (len + 1) c) ∧ w'.cell? ⟨C, 5, none⟩ = some (.int .i64 n) ∧ w'.cell? ⟨g, n * 7, none⟩ = some (.slice xa p.frames.length xc) ∧ w'.cell? ⟨g, n * 7 + 1, none⟩ = some (.slice ya p.vars.length yc) ∧ w'.cell? ⟨g, n * 7 + 2, none⟩ = some (.slice za p.cells.length zc) ∧ w'.cell? ⟨g, n * 7 + 3, none⟩ = some (.int .i64 p.read) ∧ w'.cell? ⟨g, n * 7 + 4, none⟩ = some (.slice oa p.out.length oc) ∧ w'.cell? ⟨g, n * 7 + 5, none⟩ = some (.int .i64 p.line) ∧ w'.cell? ⟨g, n * 7 + 6, none⟩ = some (.int .i64 p.fin)) (go_keep) (fail)
  go_wp2_with fail
  refine bodyPost_ret (v := .agg #[.slice xa p.frames.length xc, .slice ya p.vars.length yc, .slice za p.cells.length zc, .int .i64 p.read, .slice oa p.out.length oc, .int .i64 p.line, .int .i64 p.fin]) ?_ rfl ?_
  · simp [results, Tryz.results41, go_sem, r0, r1, r2, r3, r4, r5, r6]
  · obtain ⟨h1, h2, h3⟩ := unhide HX
    have hb := below7 (unhide HW).1 (Nat.le_refl _) (.slice xa p.frames.length xc) (.slice ya p.vars.length yc) (.slice za p.cells.length zc) (.int .i64 p.read) (.slice oa p.out.length oc) (.int .i64 p.line) (.int .i64 p.fin)
    exact ⟨hb.trans ((below_to_drew _).mono hb.size), X, h1, h2, by rw [h3]⟩
theorem recs_le (S : Rt.Src) (lo : Nat) : ∀ k j, (Rt.recsOf S lo k).length ≤ (Rt.recsOf S lo (k + j)).length
  | _, 0 => Nat.le_refl _
  | k, j + 1 => by
    rw [show k + (j + 1) = (k + j) + 1 from rfl, Rt.recsOf, List.length_append]
    have := recs_le S lo k j
    omega
set_option maxHeartbeats 1000000 in
set_option maxRecDepth 100000 in
theorem holds_ref (w : World) (h : CurG w C pls ls S cap len n low mk Y) (hn : n ≤ len) (hlo : low ≤ n) (hl : len < 4611686018427387904) (hr : (Rt.recsOf S low (n - low)).length ≤ 1000000) :
    Calls Tryz.prog 104 #[.pointer (some ⟨C, 0, none⟩)] w fun e w' => e = .returned (.int .i64 ((Rt.recsOf S low (n - low)).length : Nat)) ∧ Below w.heap.size w w' := by
  have HH := hide h
  obtain ⟨c0, c1, c2, c3, c4, c5, c6, c7⟩ := eight_cells h.block
  obtain ⟨rad, rcap, hrv⟩ := ownsRow_form h.rcs
  rw [hrv] at c4
  clear h c0 c1 c2 c3 c7
  go_enter Tryz.func104, Tryz.ntmps104
  go_wp2_with fail
  go_loopw [3, 4] (fun a i wr => ∃ k : Nat, low + k ≤ n ∧ i = .int .i64 ((low + k : Nat) : Int) ∧ a = .int .i64 ((Rt.recsOf S low k).length : Nat) ∧ Below w.heap.size w wr) (fun _ i _ => n + 1 - (intOf i).toNat)
  case atStart => exact ⟨0, by omega, rfl, rfl, Below.refl _ _⟩
  case round =>
    obtain ⟨k, hk, rfl, rfl, hbe⟩ := hrel
    have d4 := cell_later hbe c4
    have d5 := cell_later hbe c5
    have HB := hide hbe
    by_cases hlt : low + k < n
    · have hlt' : ((low + k : Nat) : Int) < (n : Int) := by omega
      have hk0 : (0 : Int) ≤ ((low + k : Nat) : Int) := by omega
      have hkl : ((low + k : Nat) : Int) < (len : Int) := by omega
      obtain ⟨g, cc, e, _, _, r⟩ := own_cell (own_later (unhide HH).rcs hbe) (j := low + k) (u := .int .i64 ((Rt.recsAt S (low + k)).length : Nat)) (by
        rw [intsV, recL, List.getElem?_map, List.getElem?_map, List.getElem?_range (by omega)]; rfl)
      rw [hrv] at e
      injection e with e1 _ e3
      subst e1 e3
      have hsum : (Rt.recsOf S low k).length + (Rt.recsAt S (low + k)).length = (Rt.recsOf S low (k + 1)).length := by rw [Rt.recsOf, List.length_append]
      have hle := recs_le S low (k + 1) (n - low - (k + 1))
      rw [show k + 1 + (n - low - (k + 1)) = n - low by omega] at hle
      have hw1 : wrap64 (((Rt.recsOf S low k).length : Int) + ((Rt.recsAt S (low + k)).length : Int)) = ((Rt.recsOf S low (k + 1)).length : Nat) := by
        rw [show ((Rt.recsOf S low k).length : Int) + ((Rt.recsAt S (low + k)).length : Int) = ((Rt.recsOf S low (k + 1)).length : Nat) by omega]
        exact IntWalk.wrap64_in _ ⟨by omega, by omega⟩
      have HS := hide hw1
      clear hsum hle hw1 hbe
      generalize hA : (Rt.recsOf S low k).length = A at *
      generalize hD : (Rt.recsAt S (low + k)).length = D at *
      clear hA hD
      go_wp2_with fail
      go_roundw
      case rel => exact ⟨k + 1, by omega, by go_num, by rw [unhide HS], unhide HB⟩
      case measure => simp [intOf]; omega
    · have hlt' : ¬ ((low + k : Nat) : Int) < (n : Int) := by omega
      have hke : k = n - low := by omega
      subst hke
      go_wp2_with fail
      go_ret
      exact ⟨rfl, unhide HB⟩
set_option maxHeartbeats 1000000 in
set_option maxRecDepth 100000 in
theorem cheld_ref (w : World) (h : CurG w C pls ls S cap len n low mk Y) (hn : n ≤ len) (hlo : low ≤ n) (hl : len < 4611686018427387904) (hr : (Rt.recsOf S low (n - low)).length ≤ 1000000) :
    Calls Tryz.prog 62 #[.pointer (some ⟨C, 0, none⟩)] w fun e w' => e = .returned (.tuple #[.int .i64 (low : Int), .int .i64 ((Rt.recsOf S low (n - low)).length : Nat)]) ∧ Below w.heap.size w w' := by
  have HC := hide (holds_ref w h hn hlo hl hr)
  obtain ⟨c0, c1, c2, c3, c4, c5, c6, c7⟩ := eight_cells h.block
  clear h c0 c1 c2 c3 c4 c5 c7
  generalize (Rt.recsOf S low (n - low)).length = R at *
  go_enter Tryz.func62, Tryz.ntmps62
  go_wp2_with fail
  refine (unhide HC).mono ?_
  rintro e w1 ⟨rfl, hb1⟩
  have d6 := cell_later hb1 c6
  have HB := hide hb1
  clear hb1 c6
  go_wp2_with fail
  refine bodyPost_ret (v := .tuple #[.int .i64 (low : Int), .int .i64 (R : Int)]) ?_ rfl ⟨rfl, unhide HB⟩
  simp [results, Tryz.results62, go_sem]
set_option maxHeartbeats 1000000 in
set_option maxRecDepth 100000 in
theorem cmark_out (w : World) (h : CurG w C pls ls S cap len n low mk Y) (l : Int) (hl : l < 1 ∨ (ls.length : Int) < l) :
    Calls Tryz.prog 64 #[.pointer (some ⟨C, 0, none⟩), .int .i64 l] w fun e w' => e = .returned (.tuple #[.bool false, .int .i64 8]) ∧ Below w.heap.size w w' := by
  obtain ⟨c0, c1, c2, c3, c4, c5, c6, c7⟩ := eight_cells h.block
  have cS := h.src.top
  clear h c1 c2 c3 c4 c5 c6 c7
  by_cases h1 : l < 1
  · go_enter Tryz.func64, Tryz.ntmps64
    go_wp2_with fail
    refine bodyPost_ret (v := .tuple #[.bool false, .int .i64 8]) ?_ rfl ⟨rfl, Below.refl _ _⟩
    simp [results, Tryz.results64, go_sem]
  · have h2 : (ls.length : Int) < l := by omega
    go_enter Tryz.func64, Tryz.ntmps64
    go_wp2_with fail
    refine bodyPost_ret (v := .tuple #[.bool false, .int .i64 8]) ?_ rfl ⟨rfl, Below.refl _ _⟩
    simp [results, Tryz.results64, go_sem]
set_option maxHeartbeats 1000000 in
set_option maxRecDepth 100000 in
theorem cmark_none (w : World) (h : CurG w C pls ls S cap len n low mk Y) (hL : ls.length ≤ 100) (hnest : Rf.nested ls = 0) (l : Nat) (hl : l < ls.length) (hs : Rf.stopB ls l ls[l] = false) :
    Calls Tryz.prog 64 #[.pointer (some ⟨C, 0, none⟩), .int .i64 ((l : Int) + 1)] w fun e w' => e = .returned (.tuple #[.bool false, .int .i64 8]) ∧ Below w.heap.size w w' := by
  obtain ⟨c0, c1, c2, c3, c4, c5, c6, c7⟩ := eight_cells h.block
  have cS := h.src.top
  have HC := hide (stop_ref w Y.sb Y.sg Y.sc ls l h.src hl hL hnest)
  rw [hs] at HC
  have h1 : ¬ (l : Int) + 1 < 1 := by omega
  have h2 : ¬ (ls.length : Int) < (l : Int) + 1 := by omega
  clear h c1 c2 c3 c4 c5 c6 c7
  go_enter Tryz.func64, Tryz.ntmps64
  go_wp2_with fail
  refine (unhide HC).mono ?_
  rintro e w1 ⟨rfl, hb1⟩
  have HB := hide hb1
  clear hb1
  go_wp2_with fail
  refine bodyPost_ret (v := .tuple #[.bool false, .int .i64 8]) ?_ rfl ⟨rfl, unhide HB⟩
  simp [results, Tryz.results64, go_sem]
structure CAft (C : Nat) (pls : List Rt.PL) (ls : List (List ByteArray)) (S : Rt.Src) (cap : Int) (len n low : Nat) (mk : List Bool) (Y Y' : CuX) (w w' : World) : Prop where
  cur : CurG w' C pls ls S cap len n low mk Y'
  frm : Frm w w' (cuM C Y)
  own : ∀ k ∈ cuL pls S C Y', k ∈ cuL pls S C Y ∨ w.heap.size ≤ k
theorem CurG.marked {w : World} (h : CurG w C pls ls S cap len n low mk Y) {g c : Nat} (hg : Y.mv = .slice (some ⟨g, 0, none⟩) mk.length c) (l : Nat) (b : Bool) : CAft C pls ls S cap len n low (mk.set l b) Y Y w (w.setCell ⟨g, l, none⟩ (.bool b)) := by
  have hgo : Y.mv.ownBlock = some g := by rw [hg]; rfl
  have hst := h.mks
  rw [hg] at hst
  obtain ⟨bc, hbc⟩ := own_blk hst rfl
  have hst := (hst.stored l (.bool b)).1
  have hty : TyAt w g 4 := ⟨bc, hbc⟩
  have hot : ∀ k, k ≠ g → (w.setCell ⟨g, l, none⟩ (.bool b)).heap[k]? = w.heap[k]? := fun k hk => Below.heap_setCell w ⟨g, l, none⟩ _ k hk
  have hne : ∀ {t : TypeId} {z m : Nat} {v : Value} {xs : List Value}, w.ownsRow 0 t z v m xs → t ≠ 4 → ∀ q, v.ownBlock = some q → q ≠ g := fun hr ht q hq e => by
    obtain ⟨cc, hcc⟩ := own_blk hr hq
    rw [e, hbc] at hcc
    injection hcc with hcc
    injection hcc with _ hcc
    exact ht hcc.symm
  refine ⟨⟨(hot C (fun e => ?_)).trans h.block, h.src.stay (fun k t ht hk => hot k (fun e => hk.ne hty (by rcases ht with rfl | rfl | rfl <;> decide) e)), own_same h.inp (fun q hq => hot q (hne h.inp (by decide) q hq)), own_same h.tr (fun q hq => hot q (hne h.tr (by decide) q hq)), h.xl, fun i hi => ?_, own_same h.rcs (fun q hq => hot q (hne h.rcs (by decide) q hq)), ?_, h.far⟩, ⟨rfl, rfl, rfl, by simp [World.setCell], fun k _ hn => hot k (fun e => hn ?_)⟩, fun k hk => Or.inl hk⟩
  · rw [← e, h.block] at hbc
    injection hbc with hbc
    injection hbc with _ hbc
    exact absurd hbc (by decide)
  · have hq := h.plq i hi
    refine ⟨⟨fun r hr => own_same (hq.own.rows r hr) (fun q hq2 => hot q (hne (hq.own.rows r hr) (by rcases plRows_ty hr with e | e | e <;> rw [e] <;> decide) q hq2)), hq.own.apart⟩, hq.fl, hq.cl, hq.new⟩
  · rw [List.length_set, List.map_set, hg]
    exact hst
  · rw [e]
    exact List.mem_cons_of_mem _ (List.mem_append_right _ (mem_tol hgo))
set_option maxHeartbeats 1000000 in
set_option maxRecDepth 100000 in
theorem cmark_stop (w : World) (h : CurG w C pls ls S cap len n low mk Y) (hL : ls.length ≤ 100) (hnest : Rf.nested ls = 0) (l : Nat) (hl : l < ls.length) (hs : Rf.stopB ls l ls[l] = true) (hm : mk.length = ls.length + 1) (b : Bool) (hb : mk[l + 1]? = some b) :
    Calls Tryz.prog 64 #[.pointer (some ⟨C, 0, none⟩), .int .i64 ((l : Int) + 1)] w fun e w' => e = .returned (.tuple #[.bool (!b), .int .i64 0]) ∧ CAft C pls ls S cap len n low (mk.set (l + 1) (!b)) Y Y w w' := by
  have HH := hide h
  obtain ⟨c0, c1, c2, c3, c4, c5, c6, c7⟩ := eight_cells h.block
  have cS := h.src.top
  have HC := hide (stop_ref w Y.sb Y.sg Y.sc ls l h.src hl hL hnest)
  rw [hs] at HC
  obtain ⟨g, c, hg, _, _, cM⟩ := own_cell h.mks (j := l + 1) (u := .bool b) (by rw [List.getElem?_map, hb]; rfl)
  rw [hg] at c7
  have h1 : ¬ (l : Int) + 1 < 1 := by omega
  have h2 : ¬ (ls.length : Int) < (l : Int) + 1 := by omega
  have h3 : (l : Int) + 1 < (mk.length : Int) := by omega
  have h4 : (0 : Int) ≤ (l : Int) + 1 := by omega
  obtain ⟨bc, hbc⟩ := own_blk h.mks (g := g) (by rw [hg]; rfl)
  have HM := hide (show ∀ w1, Below w.heap.size w w1 → _ from fun w1 hb1 => (h.later hb1).marked hg (l + 1) (!b))
  have hCg := (TyAt.intro h.block).ne (TyAt.intro hbc) (by decide)
  have hgC := Ne.symm hCg
  have HBC := hide hbc
  clear h c1 c2 c3 c4 c5 c6 hbc hm hg hs hb
  generalize mk.length = ml at *
  go_enter Tryz.func64, Tryz.ntmps64
  go_wp2_with fail
  refine (unhide HC).mono ?_
  rintro e w1 ⟨rfl, hb1⟩
  have HA := hide (unhide HM w1 hb1)
  have d0 := cell_later hb1 c0
  have d7 := cell_later hb1 c7
  have dM := cell_later hb1 cM
  have zM := free_of_block (block_later (unhide HBC) hb1) (l + 1)
  have HB := hide hb1
  clear hb1 c0 c7 cM
  go_wp2_with fail
  go_region
  go_wp2_with fail
  refine bodyPost_ret (v := .tuple #[.bool (!b), .int .i64 0]) ?_ rfl ⟨rfl, ?_⟩
  · simp [results, Tryz.results64, go_sem]
  · have h1 := unhide HA
    have h2 := below_to_drew (w1.setCell ⟨g, l + 1, none⟩ (.bool (!b)))
    exact ⟨h1.cur.later h2, ((Frm.of_below _ (unhide HB)).trans h1.frm (Grows.refl _ _)).trans (Frm.of_below _ h2) (Grows.refl _ _), fun k hk => Or.inl hk⟩
end
end Go.Proofs.YthleadfkfnnadaaGreat
namespace Go.Proofs.YthleadfkfnnadaaGreat
open Go.RowKit
namespace Rf
open Rt
end Rf
open Rf Rt
theorem lit_eq (l : List UInt8) : ((⟨l.toArray⟩ : ByteArray).toList == l) = true := by rw [toList_lit]; simp
namespace Rf
open Rt
end Rf
open Rf Rt
end Go.Proofs.YthleadfkfnnadaaGreat
namespace Go.Proofs.YthleadfkfnnadaaGreat
open Go.RowKit
attribute [local go_sem ↓] Go.wp_at_zero Go.wp_at_succ
theorem Rt.read_ok {s : ByteArray} (h : (Rt.readS s).1 = 0) : Rt.readS s = (0, 0, (Rt.readS s).2.2) := by
  refine Prod.ext h (Prod.ext ?_ rfl)
  unfold Rt.readS Rt.readForms Rt.readNest Rt.readNames at h ⊢
  repeat' split
  all_goals first | rfl | (exfalso; simp_all)
end Go.Proofs.YthleadfkfnnadaaGreat
namespace Go.Proofs.YthleadfkfnnadaaGreat
open Go.RowKit
set_option maxHeartbeats 1000000 in
set_option maxRecDepth 100000 in
theorem given_ref (s : ByteArray) (iv : Value) (inp : List Int) (w : World) (hs : s.size ≤ maxLen) (hi : Ints w iv inp) :
    Calls Tryz.prog 53 #[.string s, iv] w fun e w' => (100 < inp.length ∧ e = .returned (.tuple #[.pointer none, .int .i64 1, .int .i64 0]) ∧ w' = w) ∨ (inp.length ≤ 100 ∧ ReadRP s w e w') := by
  obtain ⟨iad, icap, rfl⟩ := hi.form
  clear hi
  by_cases hl : 100 < inp.length
  · have hl' : (100 : Int) < (inp.length : Int) := by omega
    go_enter Tryz.func53, Tryz.ntmps53
    go_wp2_with fail
    go_ret3
    exact Or.inl ⟨hl, rfl, rfl⟩
  · have hl' : ¬ (100 : Int) < (inp.length : Int) := by omega
    go_enter Tryz.func53, Tryz.ntmps53
    go_wp2_with fail
    refine (Read_ref s _ hs).mono ?_
    rintro e w1 ⟨hb, (⟨h1, rfl⟩ | ⟨h1, h2, h3, h4, h5, S, g, cap, rfl, h6⟩)⟩
    · go_wp2_with fail
      go_ret3
      exact Or.inr ⟨by omega, hb, Or.inl ⟨h1, rfl⟩⟩
    · go_wp2_with fail
      go_ret3
      exact Or.inr ⟨by omega, hb, Or.inr ⟨h1, h2, h3, h4, h5, S, g, cap, rfl, h6⟩⟩
end Go.Proofs.YthleadfkfnnadaaGreat
