/- Single steps as places of the run; the calls of a session at a place. -/
import Derived.Test.YthleadfkfnnadaaGreatRgP
import Derived.Test.YthleadfkfnnadaaGreatCuA
import Derived.Test.YthleadfkfnnadaaGreatProg0
namespace Go.Proofs.YthleadfkfnnadaaGreat
open Go.RowKit
attribute [local go_sem ↓] Go.wp_at_zero Go.wp_at_succ
noncomputable def newA (s : ByteArray) (inp : List Int) (cap : Int) : Int × Int :=
  if 100 < inp.length then (1, 0) else if ¬ (Rt.readS s).1 = 0 then ((Rt.readS s).1, (Rt.readS s).2.1) else if cap < 5 ∨ 500 < cap then (6, 0) else (0, 0)
set_option maxHeartbeats 1000000 in
set_option maxRecDepth 100000 in
theorem cnew_refused (s : ByteArray) (iv : Value) (inp : List Int) (cap : Int) (w : World) (hs : s.size ≤ maxLen) (hi : Ints w iv inp) (er ln : Int) (h : (100 < inp.length ∧ er = 1 ∧ ln = 0) ∨ (inp.length ≤ 100 ∧ ¬ er = 0 ∧ (Rf.readR s).1 = er ∧ (Rf.readR s).2.1 = ln)) :
    Calls Tryz.prog 31 #[.string s, iv, .int .i64 cap] w fun e w' => e = .returned (.tuple #[.pointer none, .int .i64 er, .int .i64 ln]) ∧ Below w.heap.size w w' := by
  have HI := hide hi
  obtain ⟨iad, icap, rfl⟩ := hi.form
  have her : (er != 0) = true := by rcases h with ⟨_, rfl, _⟩ | ⟨_, h, _⟩ <;> simp_all
  have HH := hide h
  clear h hi
  go_enter Tryz.func31, Tryz.ntmps31
  go_wp2_with fail
  refine (given_ref s _ inp _ hs (unhide HI)).mono ?_
  rintro e w1 hcase
  have he : e = .returned (.tuple #[.pointer none, .int .i64 er, .int .i64 ln]) ∧ Below w.heap.size w w1 := by
    rcases unhide HH with ⟨h1, h2, h3⟩ | ⟨h1, h2, h3, h4⟩
    · subst h2 h3
      rcases hcase with ⟨_, he, rfl⟩ | ⟨h, _⟩
      · exact ⟨he, Below.refl _ _⟩
      · omega
    · rcases hcase with ⟨h, _⟩ | ⟨_, hb, hc⟩
      · omega
      · rw [h3, h4] at hc
        rcases hc with ⟨_, he⟩ | ⟨h0, _⟩
        · exact ⟨he, hb⟩
        · exact absurd h0 h2
  obtain ⟨rfl, hb⟩ := he
  clear hcase
  go_wp2_with fail
  go_ret3
  exact ⟨rfl, hb⟩
set_option maxHeartbeats 1000000 in
set_option maxRecDepth 100000 in
theorem cnew_cap (s : ByteArray) (iv : Value) (inp : List Int) (cap : Int) (w : World) (hs : s.size ≤ maxLen) (hi : Ints w iv inp) (hR : (Rf.readR s).1 = 0) (hl : inp.length ≤ 100) (hc : cap < 5 ∨ 500 < cap) :
    Calls Tryz.prog 31 #[.string s, iv, .int .i64 cap] w fun e w' => e = .returned (.tuple #[.pointer none, .int .i64 6, .int .i64 0]) ∧ Below w.heap.size w w' := by
  have HI := hide hi
  obtain ⟨iad, icap, rfl⟩ := hi.form
  clear hi
  go_enter Tryz.func31, Tryz.ntmps31
  go_wp2_with fail
  refine (given_ref s _ inp _ hs (unhide HI)).mono ?_
  rintro e w1 (⟨h, _⟩ | ⟨_, hb, (⟨h0, _⟩ | ⟨_, _, _, _, _, S, g, gc, rfl, _⟩)⟩)
  · omega
  · exact absurd hR h0
  by_cases hz : cap < 5
  · go_wp2_with fail
    go_ret3
    exact ⟨rfl, hb⟩
  · have hz2 : 500 < cap := by omega
    go_wp2_with fail
    go_ret3
    exact ⟨rfl, hb⟩
theorem SrcG.aside {w : World} {S g cap N i : Nat} {t : TypeId} {ls : List (List ByteArray)} (h : SrcG w S g cap ls) (hN : TyAt w N t) (ht : ¬ STy t) (v : Value) : SrcG (w.setCell ⟨N, i, none⟩ v) S g cap ls :=
  h.stay (fun k _ hu hk => Below.heap_setCell w ⟨N, i, none⟩ v k (fun e => hk.ne hN (fun e2 => ht (e2 ▸ hu)) e))
theorem made_bools (w : World) (n : Nat) (hn : n ≤ 1000) : (w.alloc (.cells (madeCells #[.bool false] n) 4)).ownsRow w.heap.size 4 1 (.slice (some ⟨w.heap.size, 0, none⟩) n n) n ((List.replicate n false).map Value.bool) := by
  rw [List.map_replicate, ← made_rep]
  exact ⟨by simp [madeCells], Or.inr ⟨_, _, _, rfl, Nat.le_refl _, heap_alloc_new w _, Nat.le_refl _, by unfold maxLen; omega, by simp [madeCells], by rw [List.take_of_length_le (by simp [madeCells])]⟩⟩
theorem cur_made {w w6 : World} {C Sb g gcap B : Nat} {cap : Int} {pls : List Rt.PL} {ls : List (List ByteArray)} {S : Rt.Src} {X : PlX} {iv tv : Value} (hC : w6.heap[C]? = some (.cells #[.pointer (some ⟨Sb, 0, none⟩), iv, .int .i64 cap, .slice none 0 0, .slice none 0 0, .int .i64 0, .int .i64 0, .slice none 0 0] 109 (0, 0)))
    (hG : SrcG w6 Sb g gcap ls) (hI : w6.ownsRow B 3 1 iv S.input.length (intsV S.input)) (hQ : PlQ w6 B (plN pls S 0) X) (hT : w6.ownsRow B 72 7 tv 1 (plA X.fv X.vv X.cv X.ov (plN pls S 0)).toList) (hb : Below B w w6) (hBC : B ≤ C) (hl : ls.length ≤ 100) :
    CurG (((w6.setCell ⟨C, 3, none⟩ tv).setCell ⟨C, 7, none⟩ (.slice (some ⟨w6.heap.size, 0, none⟩) (ls.length + 1) (ls.length + 1))).alloc (.cells (madeCells #[.bool false] (ls.length + 1)) 4)) C pls ls S cap 0 0 0 (List.replicate (ls.length + 1) false) ⟨Sb, g, gcap, iv, tv, .slice none 0 0, .slice (some ⟨w6.heap.size, 0, none⟩) (ls.length + 1) (ls.length + 1), [X]⟩ ∧
    Below B w (((w6.setCell ⟨C, 3, none⟩ tv).setCell ⟨C, 7, none⟩ (.slice (some ⟨w6.heap.size, 0, none⟩) (ls.length + 1) (ls.length + 1))).alloc (.cells (madeCells #[.bool false] (ls.length + 1)) 4)) ∧ ∀ k ∈ cuL pls S C ⟨Sb, g, gcap, iv, tv, .slice none 0 0, .slice (some ⟨w6.heap.size, 0, none⟩) (ls.length + 1) (ls.length + 1), [X]⟩, B ≤ k := by
  have hClt := block_lt hC
  have hb8 := below_one (below_one hb hBC 3 tv) hBC 7 (.slice (some ⟨w6.heap.size, 0, none⟩) (ls.length + 1) (ls.length + 1))
  have hC8 := set_block (set_block hC 3 tv) 7 (.slice (some ⟨w6.heap.size, 0, none⟩) (ls.length + 1) (ls.length + 1))
  have hG8 := (hG.aside (i := 3) (TyAt.intro hC) (by unfold STy; decide) tv).aside (i := 7) (TyAt.intro (set_block hC 3 tv)) (by unfold STy; decide) (.slice (some ⟨w6.heap.size, 0, none⟩) (ls.length + 1) (ls.length + 1))
  have hot : ∀ k, k ≠ C → ((w6.setCell ⟨C, 3, none⟩ tv).setCell ⟨C, 7, none⟩ (.slice (some ⟨w6.heap.size, 0, none⟩) (ls.length + 1) (ls.length + 1))).heap[k]? = w6.heap[k]? := fun k hk => (Below.heap_setCell _ ⟨C, 7, none⟩ _ k hk).trans (Below.heap_setCell _ ⟨C, 3, none⟩ _ k hk)
  have hs8 : ((w6.setCell ⟨C, 3, none⟩ tv).setCell ⟨C, 7, none⟩ (.slice (some ⟨w6.heap.size, 0, none⟩) (ls.length + 1) (ls.length + 1))).heap.size = w6.heap.size := by simp [World.setCell]
  have hne : ∀ {B : Nat} {t : TypeId} {z m : Nat} {v : Value} {xs : List Value}, w6.ownsRow B t z v m xs → t ≠ 109 → ∀ q, v.ownBlock = some q → q ≠ C := fun hr ht q hq e => by
    obtain ⟨cc, hcc⟩ := own_blk hr hq
    rw [e, hC] at hcc
    injection hcc with hcc
    injection hcc with _ hcc
    exact ht hcc.symm
  generalize (w6.setCell ⟨C, 3, none⟩ tv).setCell ⟨C, 7, none⟩ (.slice (some ⟨w6.heap.size, 0, none⟩) (ls.length + 1) (ls.length + 1)) = w8 at *
  have hnew := made_bools w8 (ls.length + 1) (by omega)
  have hbn := (Below.refl w8.heap.size w8).alloc (Nat.le_refl _) (.cells (madeCells #[.bool false] (ls.length + 1)) 4)
  rw [hs8] at hnew
  refine ⟨⟨by have := block_later hC8 hbn; simpa [cuA] using this, hG8.later hbn, own_zero (own_later (own_same hI (fun q hq => hot q (hne hI (by decide) q hq))) hbn), ?_, rfl, fun i hi => ?_, World.ownsRow_nil _ _ _ _, by rw [List.length_replicate]; exact own_zero hnew, fun q hq => by simp [Value.ownBlock] at hq⟩, hb8.trans (hbn.mono (by rw [hs8]; omega)), ?_⟩
  · have := own_zero (own_later (own_same hT (fun q hq => hot q (hne hT (by decide) q hq))) hbn)
    simpa [trC] using this
  · have h0 : i = 0 := by simp at hi; omega
    subst h0
    refine PlQ.later (w := w8) ⟨⟨fun r hr => own_same (hQ.own.rows r hr) (fun q hq => hot q (hne (hQ.own.rows r hr) (by rcases plRows_ty hr with e | e | e <;> rw [e] <;> decide) q hq)), hQ.own.apart⟩, hQ.fl, hQ.cl, fun _ _ => Nat.zero_le _⟩ hbn
  · intro k hk
    have ot : ∀ {o : Option Nat} {g : Nat}, g ∈ o.toList → o = some g := fun hg => by simpa using hg
    rcases List.mem_append.mp hk with hk | hk
    · rcases List.mem_cons.mp hk with rfl | hk
      · exact hBC
      · rcases List.mem_append.mp hk with hk | hk
        · rcases List.mem_append.mp hk with hk | hk
          · exact (hT.lt k (ot hk)).1
          · simp [Value.ownBlock] at hk
        · have := ot hk
          simp [Value.ownBlock] at this
          omega
    · rcases List.mem_append.mp hk with hk | hk
      · exact (hI.lt k (ot hk)).1
      · obtain ⟨j, hj, hg⟩ := in_cuP hk
        have h0 : j = 0 := by simp at hj; omega
        subst h0
        exact hQ.new k hg
theorem Tryz.infoPlace : (Tryz.prog.info? 72).map (fun i => (i.zero, i.size, i.bytes)) = some (some (.agg #[.slice none 0 0, .slice none 0 0, .slice none 0 0, .int .i64 0, .slice none 0 0, .int .i64 0, .int .i64 0]), 7, 120) := by kernel_rfl
theorem Tryz.infoBoolC : (Tryz.prog.info? 4).map (fun i => (i.zero, i.size, i.bytes)) = some (some (.bool false), 1, 1) := by kernel_rfl
abbrev zCu (S : Nat) (cap : Int) : Array Value := #[.pointer (some ⟨S, 0, none⟩), .slice none 0 0, .int .i64 cap, .slice none 0 0, .slice none 0 0, .int .i64 0, .int .i64 0, .slice none 0 0]
set_option maxHeartbeats 4000000 in
set_option maxRecDepth 100000 in
theorem cnew_right (s : ByteArray) (iv : Value) (inp : List Int) (cap : Int) (w : World) (pls : List Rt.PL) (hs : s.size ≤ maxLen) (hi : Ints w iv inp) (hR : Rt.readS s = (0, 0, pls)) (hl : inp.length ≤ 100) (hc : 5 ≤ cap ∧ cap ≤ 500) (ls : List (List ByteArray)) (hls : (Rf.readR s).2.2 = ls) (S : Rt.Src) (hS : srcOf s pls inp = S) :
    Calls Tryz.prog 31 #[.string s, iv, .int .i64 cap] w fun e w' => Below w.heap.size w w' ∧ ∃ C Y, e = .returned (.tuple #[.pointer (some ⟨C, 0, none⟩), .int .i64 0, .int .i64 0]) ∧ CurG w' C pls ls S cap 0 0 0 (List.replicate (ls.length + 1) false) Y ∧ Lawful ls ∧ ∀ k ∈ cuL pls S C Y, w.heap.size ≤ k := by
  have HI := hide hi
  obtain ⟨iad, icap, rfl⟩ := hi.form
  have hR1 : (Rf.readR s).1 = 0 := by rw [← (Rf.read_eq s).1, hR]
  have hc1 : ¬ cap < 5 := by omega
  have hc2 : ¬ 500 < cap := by omega
  clear hi
  go_enter Tryz.func31, Tryz.ntmps31
  go_wp2_with fail
  refine (given_ref s _ inp _ hs (unhide HI)).mono ?_
  rintro e w1 (⟨h, _⟩ | ⟨_, hb1, (⟨h0, _⟩ | ⟨_, _, hlin, _, hl100, Sb, g, gcap, rfl, hG⟩)⟩)
  · omega
  · exact absurd hR1 h0
  have hC := Rf.ctx_of inp hR (hlin.lawful hl100)
  rw [hls] at hG hl100
  rw [hls, hS] at hC
  generalize (Rt.rForms 0 (Rt.lines s) [Rt.zPL]).2.drop 1 = ps at *
  obtain ⟨hF0, D, hD, hDl, hP0⟩ := Rf.first_fine hC
  have HCC := hide hC
  have hin : S.input = inp := by rw [← hS]; rfl
  clear hls hS
  have hbA := (Below.refl w1.heap.size w1).alloc (Nat.le_refl _) (.cells (zCu Sb cap) 109)
  have hnA := heap_alloc_new w1 (.cells (zCu Sb cap) 109)
  have HG := hide (And.intro hG (And.intro hb1 (And.intro hbA hnA)))
  clear hG hb1 hC hlin hF0 hR1 hR hbA hnA
  go_wp2_with fail
  refine (ints_ref _ _ inp ((unhide HI).later ((unhide HG).2.1.trans ((unhide HG).2.2.1.mono (B' := w.heap.size) (unhide HG).2.1.size))) (by omega)).mono ?_
  generalize w1.alloc (.cells (zCu Sb cap) 109) = wa at *
  rintro e w2 ⟨hb2, iv2, rfl, hown2⟩
  obtain ⟨ia2, ic2, rfl⟩ := ownsRow_form hown2
  have hsa := (unhide HG).2.2.1.size
  have hbw2 := (unhide HG).2.2.1.trans (hb2.mono (B' := w1.heap.size) hsa)
  have hC2 := block_later (unhide HG).2.2.2 hb2
  have hClt := block_lt hC2
  have hG2 := (unhide HG).1.later hbw2
  obtain ⟨c0, c1, c2, c3, c4, c5, c6, c7⟩ := eight_cells hC2
  have z2 := free_of_block hC2
  have hC3 := set_block hC2 1 (.slice ia2 inp.length ic2)
  have hG3 := hG2.aside (N := w1.heap.size) (i := 1) (TyAt.intro hC2) (by unfold STy; decide) (.slice ia2 inp.length ic2)
  have hb3 := below_one hbw2 (Nat.le_refl _) 1 (.slice ia2 inp.length ic2)
  have hown3 := own_same (w' := w2.setCell ⟨w1.heap.size, 1, none⟩ (.slice ia2 inp.length ic2)) hown2 (fun q hq => Below.heap_setCell w2 ⟨w1.heap.size, 1, none⟩ _ q (by
    show q ≠ w1.heap.size
    have h1 := (hown2.lt q hq).1
    have h2 := block_lt (unhide HG).2.2.2
    omega))
  have hs3 : (w2.setCell ⟨w1.heap.size, 1, none⟩ (.slice ia2 inp.length ic2)).heap.size = w2.heap.size := by simp [World.setCell]
  have HX3 := hide (And.intro hC3 (And.intro hG3 (And.intro hb3 hown3)))
  have c3' := cell_of_block hC3 3 (by simp)
  simp at c3'
  clear hb2 hown2 hbw2 hC2 hG2 hC3 hG3 hb3 hown3
  obtain ⟨j0, hj0, hy0, hy1, hy2⟩ := info_parts Tryz.infoPlace
  obtain ⟨b0, hb0, hx0, hx1, hx2⟩ := info_parts Tryz.infoBoolC
  go_wp2_with fail
  generalize w2.setCell ⟨w1.heap.size, 1, none⟩ (.slice ia2 inp.length ic2) = w3 at *
  clear c0 c1 c2 c3 c4 c5 c6 c7 z2
  go_region_law (first
    | (refine step_append_lies _ (by rfl) _ _ _ (by rfl) 0 72 j0 _ 7 120 Tryz.underlying106 hj0 hy0 hy1 hy2 rfl (by decide) _ 0 [] (by rfl) (World.ownsRow_nil _ _ _ _) ⟨w4.heap.size, 0, none⟩ 1 1 [.slice xa (Rf.firstPl ls D (Rf.cellN pls)).frames.length xc, .slice ya (Rf.firstPl ls D (Rf.cellN pls)).vars.length yc, .slice za (Rf.firstPl ls D (Rf.cellN pls)).cells.length zc, .int .i64 (Rf.firstPl ls D (Rf.cellN pls)).read, .slice oa (Rf.firstPl ls D (Rf.cellN pls)).out.length oc, .int .i64 (Rf.firstPl ls D (Rf.cellN pls)).line, .int .i64 (Rf.firstPl ls D (Rf.cellN pls)).fin] (by rfl) (by rfl) (World.news_of_block (fr := (0, 0)) (heap_alloc_new w4 _)) (by simp [Value.oneCell']) (by omega) (by unfold maxLen; omega) (by omega) (Nat.zero_le _) (w4.heap.size + 1) (by simp) ?_; intro g' cap' w6 hown6 hgrow hat hlt6; have bC := (hgrow.block w1.heap.size (by have := block_lt (unhide HX4).2.2; simp; omega) (by simp [Value.ownBlock])).trans (block_alloc (unhide HX4).2.2 _); have d3 : w6.cell? ⟨w1.heap.size, 3, none⟩ = some (.slice none 0 0) := (by have := cell_of_block bC 3 (by simp); simpa using this); have e3 := free_of_block bC 3)
    | (go_simp; go_wp2_with (go_at_call 54; refine (first_ref _ Sb g gcap D ls (Rf.cellN pls) ((unhide HX3).2.1.later (below_to_drew _)) (unhide HCC).law (unhide HCC).both.nested hD hDl (fun k hk => (Rf.arr_line (unhide HCC) hk).1) (fun k hk => (Rf.arr_line (unhide HCC) hk).2)).mono ?_; rintro e w4 ⟨hb4', fv, vv, cv, ov, rfl, hW4⟩; have hb4 := below_of_drew hb4'; obtain ⟨_, _, fps, cps, hQ4⟩ := hW4; obtain ⟨xa, xc, ya, yc, za, zc, oa, oc, f1, f2, f3, f4⟩ := hQ4.forms; simp only at f1 f2 f3 f4; subst f1 f2 f3 f4; have c4 := cell_later hb4 c3'; have hC4 := block_later (unhide HX3).1 hb4; have z4 := free_of_block hC4; have l4 := block_lt hC4; have n4 : ¬ w1.heap.size = w4.heap.size := (by omega); have HX4 := hide (And.intro hb4 (And.intro hQ4 hC4)); clear hb4' hb4 hQ4 hC4; unfold plA)))
  all_goals
    obtain ⟨hb4, hQ4, hC4⟩ := unhide HX4
    obtain ⟨hC3, hG3, hb3, hown3⟩ := unhide HX3
    have hb6 : Below w4.heap.size w4 w6 := ⟨hgrow.os, hgrow.tape, hgrow.output, Nat.le_trans (by simp) hgrow.size, fun k hk => (hgrow.block k (by simp; omega) (by simp [Value.ownBlock])).trans (heap_alloc_old _ _ hk)⟩
    have hg' : g' = w4.heap.size + 1 := by rcases hat with h | h; simp [Value.ownBlock] at h; exact h
    have hsz := (unhide HG).2.1.size
    have hs4 := hb4.size
    have hs3' := hb3.size
    have hb46 := hb4.trans (hb6.mono (B' := w3.heap.size) hs4)
    have hbW : Below w.heap.size w w6 := (unhide HG).2.1.trans ((hb3.mono (B' := w.heap.size) hsz).trans (hb46.mono (B' := w.heap.size) (by omega)))
    have hfin := cur_made (pls := pls) (S := S) (B := w.heap.size) (w := w) (cap := cap) (C := w1.heap.size) (iv := .slice ia2 inp.length ic2) (tv := .slice (some ⟨g', 0, none⟩) 1 cap') (X := ⟨_, _, _, _, fps, cps⟩) (by simpa using bC) (hG3.later hb46) (by rw [hin]; exact ownsRow_mono (own_later hown3 hb46) (by omega)) (by have := (hQ4.later hb6).mono (B' := w.heap.size) (by show w.heap.size ≤ w3.heap.size; omega); rw [← hP0] at this; exact this) (by have := ownsRow_base hown6 (b' := w.heap.size) (fun q hq => by simp [Value.ownBlock] at hq; omega); rw [← hP0] at this; exact this) hbW hsz (by omega)
    have cS := (hG3.later hb46).top
    have nS := (TyAt.intro bC).ne (hG3.later hb46).ty.1 (by decide)
    have nS' := Ne.symm nS
    have c7 : w6.cell? ⟨w1.heap.size, 7, none⟩ = some (.slice none 0 0) := by have := cell_of_block bC 7 (by simp); simpa using this
    have e7 := free_of_block bC 7
    have l6 := block_lt bC
    have n6 : ¬ w1.heap.size = w6.heap.size := by omega
    have hmk := fun W => run_make_row (P := Tryz.prog) 107 4 b0 (.bool false) Tryz.underlying107 hb0 hx0 hx1 rfl .i64 .i64 (ls.length + 1) (by rw [hx2]; omega) (by omega) W
    rw [show ((ls.length + 1 : Nat) : Int) = (ls.length : Int) + 1 from rfl] at hmk
    have hlw : IntKind.i64.wrap ((ls.length : Int) + 1) = (ls.length : Int) + 1 := IntWalk.i64_in _ ⟨by omega, by omega⟩
    have HFin := hide hfin
    clear hb4 hQ4 hC4 hC3 hG3 hb3 hown3 hb6 hg' hb46 hbW hfin hgrow hat hlt6 hown6 bC d3 e3 c4 z4 l4 n4 HX4
    go_wp2_with fail
    go_ret3
    exact ⟨(unhide HFin).2.1, _, _, rfl, (unhide HFin).1, (unhide HCC).law, (unhide HFin).2.2⟩
theorem newA_cases (s : ByteArray) (inp : List Int) (cap : Int) : (100 < inp.length ∧ newA s inp cap = (1, 0)) ∨ (inp.length ≤ 100 ∧ ¬ (Rt.readS s).1 = 0 ∧ newA s inp cap = ((Rt.readS s).1, (Rt.readS s).2.1)) ∨ (inp.length ≤ 100 ∧ Rt.readS s = (0, 0, (Rt.readS s).2.2) ∧ (cap < 5 ∨ 500 < cap) ∧ newA s inp cap = (6, 0)) ∨ (inp.length ≤ 100 ∧ Rt.readS s = (0, 0, (Rt.readS s).2.2) ∧ (5 ≤ cap ∧ cap ≤ 500) ∧ newA s inp cap = (0, 0)) := by
  unfold newA
  by_cases hl : 100 < inp.length
  · exact Or.inl ⟨hl, if_pos hl⟩
  · rw [if_neg hl]
    by_cases h0 : (Rt.readS s).1 = 0
    · rw [if_neg (not_not_intro h0)]
      by_cases hc : cap < 5 ∨ 500 < cap
      · exact Or.inr (Or.inr (Or.inl ⟨by omega, Rt.read_ok h0, hc, if_pos hc⟩))
      · exact Or.inr (Or.inr (Or.inr ⟨by omega, Rt.read_ok h0, by omega, if_neg hc⟩))
    · exact Or.inr (Or.inl ⟨by omega, h0, if_pos h0⟩)
namespace Rt
def seFirst (S : Src) : Se := ⟨firstM S, [], 0, 0, List.replicate 101 false⟩
end Rt
def SNewP (S : Rt.Src) (cap : Int) (w : World) (e : Ending) (w' : World) : Prop :=
  Below w.heap.size w w' ∧ ∃ P B X, e = .returned (.tuple #[.pointer (some ⟨P, 0, none⟩), .int .i64 0, .int .i64 0]) ∧ w.heap.size ≤ P ∧ (∀ k ∈ blkX X, w.heap.size ≤ k) ∧ SesS w' P B S cap (Rt.seFirst S) X (.slice none 0 0)
theorem jnew_any (cap : Int) (w : World) : Calls Tryz.prog 57 #[.int .i64 cap] w fun e w' => e = .returned (.agg #[.int .i64 cap, .slice none 0 0, .int .i64 0]) ∧ Below w.heap.size w w' := by
  go_enter Tryz.func57, Tryz.ntmps57
  go_wp2_with fail
  have E := three_cells (heap_alloc_new w (.cells #[.int .i64 cap, .slice none 0 0, .int .i64 0] 101))
  refine bodyPost_ret (v := .agg #[.int .i64 cap, .slice none 0 0, .int .i64 0]) ?_ rfl ⟨rfl, (Below.refl _ _).alloc (Nat.le_refl _) _⟩
  revert E
  generalize w.alloc (.cells #[.int .i64 cap, .slice none 0 0, .int .i64 0] 101) = wz
  intro E
  simp [results, Tryz.results57, go_sem, E.1, E.2.1, E.2.2]
theorem ses_cells (v0 v1 v2 v3 v4 v5 v6 v7 v8 v9 v10 : Value) : (((((((((((Tryz.zeroCells105.setIfInBounds 0 v0).setIfInBounds 1 v1).setIfInBounds 2 v2).setIfInBounds 3 v3).setIfInBounds 4 v4).setIfInBounds 5 v5).setIfInBounds 6 v6).setIfInBounds 7 v7).setIfInBounds 8 v8).setIfInBounds 9 v9).setIfInBounds 10 v10) = (#[v0, v1, v2, v3, v4, v5, v6, v7] ++ ([v8, v9, v10, .int .i64 0] ++ (List.replicate 101 false).map Value.bool).toArray : Array Value) := by kernel_rfl
set_option maxHeartbeats 1000000 in
set_option maxRecDepth 100000 in
theorem snew_any (s : ByteArray) (iv : Value) (inp : List Int) (cap : Int) (w : World) (pls : List Rt.PL) (hs : s.size ≤ maxLen) (hi : Ints w iv inp) (hR : Rt.readS s = (0, 0, pls)) (hl : inp.length ≤ 100) (hc : 5 ≤ cap ∧ cap ≤ 500) :
    Calls Tryz.prog 30 #[.string s, iv, .int .i64 cap] w (SNewP (srcOf s pls inp) cap w) := by
  have hfit := fit_of hR
  have HI := hide hi
  have hc1 : ¬ cap < 5 := by omega
  have hc2 : ¬ 500 < cap := by omega
  obtain ⟨iad, icap, rfl, _⟩ := hi
  go_enter Tryz.func30, Tryz.ntmps30
  go_wp2_with fail
  refine (new_any s _ inp _ hs (unhide HI) (fun p hp => by rw [hR] at hp; injection hp with _ hp; injection hp with _ hp; rw [← hp]; exact hfit)).mono ?_
  rintro e w1 ⟨hb1, hcase⟩
  rcases hcase with ⟨hlt, _⟩ | ⟨_, er, ln, pls', hR', hcc⟩
  · exact absurd hlt (by omega)
  rw [hR] at hR'
  injection hR' with e1 hR'
  injection hR' with e2 e3
  subst e1 e2 e3
  rcases hcc with ⟨h0, _⟩ | ⟨_, _, hlen, M0, X, rfl, hM0, hblk, hmc⟩
  · exact absurd rfl h0
  obtain ⟨la, lc, ia, ic, fa, fc, va, vc, oa, oc, q1, q2, q3, q4, q5⟩ := hmc.shape
  generalize hm0 : Rt.firstM (srcOf s pls inp) = m0 at *
  have hcells : mcCells X m0 [] = #[.slice la pls.length lc, .slice ia inp.length ic, .slice fa m0.frames.length fc, .slice va m0.values.length vc, .int .i64 m0.taken, .slice oa m0.output.length oc, .int .i64 m0.line, .int .i64 m0.fin] := by
    simp only [mcCells, q1, q2, q3, q4, q5, srcOf, List.length_map]
    rfl
  rw [hcells]
  have HX := hide (And.intro hb1 (And.intro hblk (And.intro hmc (And.intro hcells hm0))))
  clear hb1 hblk hmc hcells hm0 q1 q2 q3 q4 q5 hR hfit
  go_wp2_with fail
  have hbA := (Below.refl w1.heap.size w1).alloc (Nat.le_refl _) (.cells #[.slice la pls.length lc, .slice ia inp.length ic, .slice fa m0.frames.length fc, .slice va m0.values.length vc, .int .i64 m0.taken, .slice oa m0.output.length oc, .int .i64 m0.line, .int .i64 m0.fin] 90)
  refine (jnew_any cap _).mono ?_
  rintro e w2 ⟨rfl, hb2⟩
  have bm := block_later (heap_alloc_new w1 (.cells #[.slice la pls.length lc, .slice ia inp.length ic, .slice fa m0.frames.length fc, .slice va m0.values.length vc, .int .i64 m0.taken, .slice oa m0.output.length oc, .int .i64 m0.line, .int .i64 m0.fin] 90)) hb2
  obtain ⟨y0, y1, y2, y3, y4, y5, y6, y7⟩ := eight_cells bm
  have hlt2 := block_lt bm
  have hn1 : ¬ w1.heap.size = w2.heap.size := by omega
  have HB2 := hide (hbA.trans (hb2.mono (B' := w1.heap.size) (by simp)))
  clear hbA hb2 bm
  go_wp2_with fail
  have hcl : (((((((((((Tryz.zeroCells105.setIfInBounds 0 (.slice la pls.length lc)).setIfInBounds 1 (.slice ia inp.length ic)).setIfInBounds 2 (.slice fa m0.frames.length fc)).setIfInBounds 3 (.slice va m0.values.length vc)).setIfInBounds 4 (.int .i64 m0.taken)).setIfInBounds 5 (.slice oa m0.output.length oc)).setIfInBounds 6 (.int .i64 m0.line)).setIfInBounds 7 (.int .i64 m0.fin)).setIfInBounds 8 (.int .i64 cap)).setIfInBounds 9 (.slice none 0 0)).setIfInBounds 10 (.int .i64 0)) = mcCells X m0 (tailS cap (.slice none 0 0) 0 0 (List.replicate 101 false)) := by
    rw [ses_cells]
    have := (unhide HX).2.2.2.1
    have e : (mcCells X m0 (tailS cap (.slice none 0 0) 0 0 (List.replicate 101 false))) = mcCells X m0 [] ++ (tailS cap (.slice none 0 0) 0 0 (List.replicate 101 false)).toArray := by
      unfold mcCells
      rw [List.append_nil, List.append_toArray]
    rw [e, this]
    simp [tailS]
  rw [hcl]
  obtain ⟨hb1, hblk, hmc, _, hm0⟩ := unhide HX
  have hb3 := ((Below.refl w2.heap.size w2).alloc (Nat.le_refl _) (.cells #[.int .i64 cap, .slice none 0 0, .int .i64 0] 101)).alloc (by simp) (.cells (mcCells X m0 (tailS cap (.slice none 0 0) 0 0 (List.replicate 101 false))) 105)
  have bS := alloc2_plain w2 (.cells #[.int .i64 cap, .slice none 0 0, .int .i64 0] 101) (.cells (mcCells X m0 (tailS cap (.slice none 0 0) 0 0 (List.replicate 101 false))) 105)
  have hbF := (unhide HB2).trans (hb3.mono (B' := w1.heap.size) (unhide HB2).size)
  have hm3 := hmc.moved hbF bS (by unfold TyOk; decide)
  refine bodyPost_ret (v := .tuple #[.pointer (some ⟨w2.heap.size + 1, 0, none⟩), .int .i64 0, .int .i64 0]) ?_ rfl ⟨hb1.trans (hbF.mono (B' := w.heap.size) hb1.size), _, _, X, rfl, by have := (unhide HB2).size; have := hb1.size; omega, hblk, ⟨by rw [Rt.seFirst, hm0]; exact hm3, World.ownsRow_nil _ _ _ _⟩⟩
  simp [results, Tryz.results30, go_sem]
theorem low_any (w : World) (P B : Nat) (S : Rt.Src) (cap : Int) (s : Rt.Se) (X : McX) (jv : Value) (h : SesS w P B S cap s X jv) : Calls Tryz.prog 102 #[.pointer (some ⟨P, 8, none⟩)] w fun e w' => e = .returned (.int .i64 s.low) ∧ w' = w := by
  have k10 := h.jrS.k10
  clear h
  go_enter Tryz.func102, Tryz.ntmps102
  go_wp2_with fail
  go_ret
  exact ⟨rfl, rfl⟩
structure Plc (S : Rt.Src) : Prop where
  good : Good S
  call : Call4 S
  first : KeepG S (Rt.firstM S)
end Go.Proofs.YthleadfkfnnadaaGreat
namespace Go.Proofs.YthleadfkfnnadaaGreat
open Go.RowKit
namespace Rt
def Fit (pl : PL) : Prop := pl.toks.length ≤ 1000 ∧ (∀ t ∈ pl.toks, t.text.size ≤ 40000) ∧ pl.depth ≤ 1000
end Rt
end Go.Proofs.YthleadfkfnnadaaGreat
namespace Go.Proofs.YthleadfkfnnadaaGreat
open Go.RowKit
attribute [local go_sem ↓] Go.wp_at_zero Go.wp_at_succ
def ownL (P : Nat) (X : McX) (jv : Value) : List Nat := P :: blkX X ++ jv.ownBlock.toList
theorem not_ownL {P : Nat} {X : McX} {jv : Value} {k : Nat} (h : k ∉ ownL P X jv) : k ∉ P :: blkX X ∧ jv.ownBlock ≠ some k := by
  unfold ownL at h
  simp only [List.cons_append, List.mem_cons, List.mem_append, Option.mem_toList, not_or] at h
  exact ⟨by simp only [List.mem_cons, not_or]; exact ⟨h.1, h.2.1⟩, h.2.2⟩
theorem in_ownL {P : Nat} {X : McX} {jv : Value} {k : Nat} (h : k ∈ ownL P X jv) : k = P ∨ k ∈ blkX X ∨ jv.ownBlock = some k := by
  unfold ownL at h
  simpa only [List.cons_append, List.mem_cons, List.mem_append, Option.mem_toList] using h
theorem ownL_in {P : Nat} {X : McX} {jv : Value} {k : Nat} (h : k = P ∨ k ∈ blkX X ∨ jv.ownBlock = some k) : k ∈ ownL P X jv := by
  unfold ownL
  simpa only [List.cons_append, List.mem_cons, List.mem_append, Option.mem_toList] using h
section
variable {w w' : World} {P B : Nat} {S : Rt.Src} {cap : Int} {s s' : Rt.Se} {X X' : McX} {jv jv' : Value}
theorem SAft.kept (h : SAft P B S cap X X' jv jv' s' w w') {k : Nat} (hk : k < w.heap.size) (hn : k ∉ ownL P X jv) : w'.heap[k]? = w.heap[k]? := h.frm.block k hk (not_ownL hn).1 (not_ownL hn).2
theorem SAft.owns (h : SAft P B S cap X X' jv jv' s' w w') {k : Nat} (hk : k ∈ ownL P X' jv') : k ∈ ownL P X jv ∨ w.heap.size ≤ k := by
  rcases in_ownL hk with e | e | e
  · exact Or.inl (ownL_in (Or.inl e))
  · rcases h.grow k e with e | e
    · exact Or.inl (ownL_in (Or.inr (Or.inl e)))
    · exact Or.inr e
  · rcases h.jg k e with e | e
    · exact Or.inl (ownL_in (Or.inr (Or.inr e)))
    · exact Or.inr e
theorem SesS.own_lt (h : SesS w P B S cap s X jv) {k : Nat} (hk : k ∈ ownL P X jv) : k < w.heap.size := by
  rcases in_ownL hk with e | e | e
  · rw [e]; exact block_lt h.mc.block
  · rw [← h.mc.blks] at e
    exact h.mc.own.lt k e
  · obtain ⟨c, hc⟩ := own_blk h.jr e
    exact block_lt hc
end
def replyN (S : Rt.Src) (rs : Int) (k n : Nat) : Array Value := #[.int .i64 rs, .int .i64 (k : Int), .int .i64 (Rt.atM S n).fin, .int .i64 (Rt.atM S n).line, .int .i64 ((Rt.atM S n).frames.length : Int), .int .i64 (n : Int)]
structure Sess (w : World) (P B : Nat) (S : Rt.Src) (cap : Int) (n low : Nat) (mk : List Bool) (X : McX) (jv : Value) : Prop where
  ses : SesS w P B S cap (Rt.seAt S n low mk) X jv
  ok : Rt.SeOk S cap n low
structure Cst (S : Rt.Src) (cap : Int) (mk : List Bool) : Prop where
  plc : Plc S
  lo : 5 ≤ cap
  hi : cap ≤ 500
  mks : mk.length = 101
section
variable {w : World} {P B : Nat} {S : Rt.Src} {cap : Int} {n low : Nat} {mk : List Bool} {X : McX} {jv : Value}
theorem Sess.later {w' : World} (h : Sess w P B S cap n low mk X jv) (hb : Below w.heap.size w w') : Sess w' P B S cap n low mk X jv := ⟨h.ses.later hb, h.ok⟩
theorem Sess.whereS (h : Sess w P B S cap n low mk X jv) : Calls Tryz.prog 59 #[.pointer (some ⟨P, 0, none⟩)] w fun e w' => e = .returned (.agg (replyN S 0 0 n)) ∧ Below w.heap.size w w' := where_any w P B S cap _ X jv h.ses
end
end Go.Proofs.YthleadfkfnnadaaGreat
