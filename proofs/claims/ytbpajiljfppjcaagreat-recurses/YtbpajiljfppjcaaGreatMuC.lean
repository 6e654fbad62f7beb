/- A step is taken back: a frame comes back, and its parameters. -/
import Derived.Test.YtbpajiljfppjcaaGreatSeA
import Derived.Test.YtbpajiljfppjcaaGreatJrC
namespace Go.Proofs.YtbpajiljfppjcaaGreat
open Go.RowKit
attribute [local go_sem ↓] Go.wp_at_zero Go.wp_at_succ

/-- A number less. -/
theorem McS.outPop {w w1 : World} {M B : Nat} {ty : TypeId} {tail : List Value} {S : Rt.Src} {m : Rt.Mc} {X : McX} (h : McS w M B ty tail S m X) (o : List Int) (x : Int) (ho : m.output = o ++ [x]) (g cap : Nat) (hv : X.ov = .slice (some ⟨g, 0, none⟩) (o.length + 1) cap) (hb : Below w.heap.size w w1) :
    McS (w1.setCell ⟨M, 5, none⟩ (.slice (some ⟨g, 0, none⟩) o.length cap)) M B ty tail S { m with output := o } { X with ov := .slice (some ⟨g, 0, none⟩) o.length cap } ∧ Frm w (w1.setCell ⟨M, 5, none⟩ (.slice (some ⟨g, 0, none⟩) o.length cap)) (M :: blkX X) ∧ Grows w (blkX X) (blkX { X with ov := .slice (some ⟨g, 0, none⟩) o.length cap }) := by
  have hkeep : ∀ k, k < w.heap.size → X.ov.ownBlock ≠ some k → w1.heap[k]? = w.heap[k]? := fun k hk _ => hb.block k hk
  have hk : ∀ (k : Nat) (x : Obj), w.heap[k]? = some x → (∃ c t, x = Obj.cells c t (0, 0) ∧ PTy t) → w1.heap[k]? = some x := fun k x hx _ => (hb.block k (block_lt hx)).trans hx
  have hrow : w1.ownsRow 0 3 1 (.slice (some ⟨g, 0, none⟩) o.length cap) o.length (intsV o) := by
    have h1 := own_later h.out hb
    rw [ho, hv, List.length_append, List.length_singleton, intsV, List.map_append] at h1
    exact own_cut h1 (by omega) (by simp [intsV])
  have hrows : rowsOf S.input X m = [iRow X.iv S.input, ⟨68, 2, X.fv, m.frames.length, fCells X.fps m.frames⟩, ⟨24, 1, X.vv, m.values.length, X.vps⟩] ++ iRow X.ov m.output :: (List.zipWith iRow X.fps (m.frames.map Rt.Fm.params) ++ List.zipWith iRow X.vps m.values) := rfl
  have hown := h.own.later hb
  rw [hrows] at hown
  obtain ⟨o1, o2⟩ := Own.swap (w' := w1) hown (r' := iRow (.slice (some ⟨g, 0, none⟩) o.length cap) o) (fun _ _ _ => rfl) hrow (fun k hk => Or.inl (by show X.ov.ownBlock = some k; rw [hv]; exact hk))
  have hmc := h.step (w1 := w1) (m' := { m with output := o }) (X' := { X with ov := .slice (some ⟨g, 0, none⟩) o.length cap }) hb.size (hb.block M (block_lt h.block)) hk 5 (.slice (some ⟨g, 0, none⟩) o.length cap) (by simp [mcCells]) o1 rfl rfl h.fl h.vl
  refine ⟨hmc, Frm.setM (Frm.of_below _ hb) _ _, ?_⟩
  rw [← h.blks, ← hmc.blks]
  intro k hk3
  rcases o2 k hk3 with hk4 | hk4
  · exact Or.inl hk4
  · exact Or.inr (Nat.le_trans hb.size hk4)
set_option maxHeartbeats 1000000 in
theorem dropPrinted_any (w : World) (M B : Nat) (ty : TypeId) (tail : List Value) (S : Rt.Src) (m : Rt.Mc) (X : McX) (h : McS w M B ty tail S m X) (hol : m.output.length ≤ 1000) :
    Calls Tryz.prog 83 #[.pointer (some ⟨M, 0, none⟩)] w fun e w' => e = .returned (.tuple #[]) ∧ ∃ X', Aft M B ty tail S X X' { m with output := m.output.dropLast } w w' := by
  by_cases h0 : m.output = []
  · have c5 := h.c5
    obtain ⟨oad, ocap, hov⟩ := ownsRow_form h.out
    rw [hov, h0] at c5
    have HF := hide (show Aft M B ty tail S X X { m with output := m.output.dropLast } w w by
      have e : m.output.dropLast = m.output := by rw [h0]; rfl
      rw [e]
      exact Aft.start h (Below.refl _ _))
    clear h hov
    go_enter Tryz.func83, Tryz.ntmps83
    go_wp2_with fail
    go_end0
    exact ⟨rfl, _, unhide HF⟩
  · obtain ⟨o, x, ho⟩ : ∃ o x, m.output = o ++ [x] := ⟨m.output.dropLast, m.output.getLast h0, (List.dropLast_concat_getLast h0).symm⟩
    obtain ⟨g, cap, hov, hcap⟩ : ∃ g cap, X.ov = .slice (some ⟨g, 0, none⟩) (o.length + 1) cap ∧ o.length + 1 ≤ cap := by
      have h1 := h.out
      rw [ho, List.length_append, List.length_singleton] at h1
      rcases h1.2 with ⟨e, e2⟩ | ⟨g, cap, cur, e, _, _, e3, _⟩
      · simp at e2
      · exact ⟨g, cap, e, e3⟩
    have c5 := h.c5
    rw [hov] at c5
    have f5 := h.fz 5
    have hl : o.length + 1 ≤ 1000 := by rw [ho] at hol; simpa using hol
    have hw2 : IntKind.i64.wrap ((o.length : Int) + 1 - 1) = (o.length : Int) := by rw [IntWalk.i64_left, IntWalk.wrap64_in _ (by omega)]; omega
    have hw3 : IntKind.i64.wrap (o.length : Int) = (o.length : Int) := by rw [IntWalk.i64_left, IntWalk.wrap64_in _ (by omega)]
    have i0 : (0 : Int) < (o.length : Int) + 1 := by omega
    have i1 : (0 : Int) ≤ (o.length : Int) := by omega
    have i2 : (o.length : Int) ≤ (cap : Int) := by omega
    have hMlt := block_lt h.block
    have hF0 := h.outPop (w1 := w.drew) o x ho g cap hov (below_to_drew w)
    have HF := hide (show Aft M B ty tail S X _ { m with output := m.output.dropLast } w _ from ⟨by rw [ho, List.dropLast_concat]; exact hF0.1, hF0.2.1, hF0.2.2, hMlt⟩)
    clear h hov hF0 h0
    go_enter Tryz.func83, Tryz.ntmps83
    go_wp2_with fail
    go_region_law (fail)
    all_goals
      go_wp2_with fail
      go_end0
      exact ⟨rfl, _, unhide HF⟩
end Go.Proofs.YtbpajiljfppjcaaGreat

namespace Go.Proofs.YtbpajiljfppjcaaGreat
open Go.RowKit
attribute [local go_sem ↓] Go.wp_at_zero Go.wp_at_succ

theorem fCells_set (vs : List Value) (fs : List Rt.Fm) (v v' : Value) (f f' : Rt.Fm) (hl : vs.length = fs.length) (hc : f'.call = f.call) : (fCells (vs ++ [v]) (fs ++ [f])).set (fs.length * 2) v' = fCells (vs ++ [v']) (fs ++ [f']) := by
  rw [fCells_snoc _ _ _ _ hl, fCells_snoc _ _ _ _ hl, hc]
  have h1 := fCells_len vs fs hl
  rw [List.set_append_right _ _ (by omega), h1, Nat.sub_self]
  rfl
/-- One parameter more in the last frame. -/
theorem McS.parPush {w wx w1 : World} {M B : Nat} {ty : TypeId} {tail : List Value} {S : Rt.Src} {m : Rt.Mc} {X : McX} (h : McS w M B ty tail S m X) (fs : List Rt.Fm) (f : Rt.Fm) (hf : m.frames = fs ++ [f]) (g cap : Nat) (hv : X.fv = .slice (some ⟨g, 0, none⟩) (fs.length + 1) cap) (fps : List Value) (pv : Value) (hfps : X.fps = fps ++ [pv]) (hb : Below w.heap.size w wx) (hg : wx.grownBy w1 pv.ownBlock) (x : Int) (pv' : Value)
    (hown : w1.ownsRow 0 3 1 pv' (f.params.length + 1) (intsV (f.params ++ [x]))) (hat : ∀ k, pv'.ownBlock = some k → pv.ownBlock = some k ∨ w.heap.size ≤ k) :
    McS (w1.setCell ⟨g, fs.length * 2, none⟩ pv') M B ty tail S { m with frames := fs ++ [⟨f.params ++ [x], f.call⟩] } { X with fps := fps ++ [pv'] } ∧ Frm w (w1.setCell ⟨g, fs.length * 2, none⟩ pv') (M :: blkX X) ∧ Grows w (blkX X) (blkX { X with fps := fps ++ [pv'] }) ∧ w1.cell? ⟨g, fs.length * 2, none⟩ = some pv ∧ w1.frozen? ⟨g, fs.length * 2, none⟩ = false ∧ w1.heap[M]? = w.heap[M]? := by
  have hl : fps.length = fs.length := by
    have := h.fl
    rw [hf, hfps] at this
    simpa using this
  have hkeep : ∀ k, k < w.heap.size → pv.ownBlock ≠ some k → w1.heap[k]? = w.heap[k]? := fun k hk hv => (hg.block k (Nat.lt_of_lt_of_le hk hb.size) (Ne.symm hv)).trans (hb.block k hk)
  have hzip : List.zipWith iRow X.fps (m.frames.map Rt.Fm.params) = List.zipWith iRow fps (fs.map Rt.Fm.params) ++ [iRow pv f.params] := by
    rw [hf, hfps, List.map_append, List.zipWith_append (by rw [List.length_map]; exact hl)]; rfl
  have hre : rowsOf S.input X m = ([iRow X.iv S.input, frameRow X m, ⟨24, 1, X.vv, m.values.length, X.vps⟩, iRow X.ov m.output] ++ List.zipWith iRow fps (fs.map Rt.Fm.params)) ++ iRow pv f.params :: List.zipWith iRow X.vps m.values := by
    rw [rows_frame, hzip]
    simp
  have ho0 := h.own
  rw [hre] at ho0
  obtain ⟨o1, o2⟩ := Own.swap (w' := w1) ho0 (r' := iRow pv' (f.params ++ [x])) hkeep (by show World.ownsRow _ 0 3 1 _ (f.params ++ [x]).length _; rw [List.length_append]; exact hown) hat
  have hre2 : ([iRow X.iv S.input, frameRow X m, ⟨24, 1, X.vv, m.values.length, X.vps⟩, iRow X.ov m.output] ++ List.zipWith iRow fps (fs.map Rt.Fm.params)) ++ iRow pv' (f.params ++ [x]) :: List.zipWith iRow X.vps m.values = [iRow X.iv S.input] ++ frameRow X m :: ([⟨24, 1, X.vv, m.values.length, X.vps⟩, iRow X.ov m.output] ++ (List.zipWith iRow fps (fs.map Rt.Fm.params) ++ iRow pv' (f.params ++ [x]) :: List.zipWith iRow X.vps m.values)) := by simp
  have o1' := o1
  rw [hre2] at o1'
  have hfrow : w1.ownsRow 0 68 2 (.slice (some ⟨g, 0, none⟩) (fs.length + 1) cap) (fs.length + 1) (fCells (fps ++ [pv]) (fs ++ [f])) := by
    have := o1'.rows (frameRow X m) (by simp)
    have e : (frameRow X m) = ⟨68, 2, .slice (some ⟨g, 0, none⟩) (fs.length + 1) cap, fs.length + 1, fCells (fps ++ [pv]) (fs ++ [f])⟩ := by
      unfold frameRow
      rw [hv, hf, hfps, List.length_append, List.length_singleton]
    rw [e] at this
    exact this
  have hst := (hfrow.stored (fs.length * 2) pv').1
  rw [fCells_set fps fs pv pv' f ⟨f.params ++ [x], f.call⟩ hl rfl] at hst
  obtain ⟨p1, p2⟩ := Own.swap (w' := w1.setCell ⟨g, fs.length * 2, none⟩ pv') o1' (r' := ⟨68, 2, .slice (some ⟨g, 0, none⟩) (fs.length + 1) cap, fs.length + 1, fCells (fps ++ [pv']) (fs ++ [⟨f.params ++ [x], f.call⟩])⟩) (fun k _ hk => Below.heap_setCell w1 ⟨g, fs.length * 2, none⟩ pv' k (fun e => hk (by show X.fv.ownBlock = some k; rw [hv, show k = g from e]; rfl))) hst (fun k hk => Or.inl (by show X.fv.ownBlock = some k; rw [hv]; exact hk))
  have hrows' : rowsOf S.input { X with fps := fps ++ [pv'] } { m with frames := fs ++ [⟨f.params ++ [x], f.call⟩] } = [iRow X.iv S.input] ++ ⟨68, 2, .slice (some ⟨g, 0, none⟩) (fs.length + 1) cap, fs.length + 1, fCells (fps ++ [pv']) (fs ++ [⟨f.params ++ [x], f.call⟩])⟩ :: ([⟨24, 1, X.vv, m.values.length, X.vps⟩, iRow X.ov m.output] ++ (List.zipWith iRow fps (fs.map Rt.Fm.params) ++ iRow pv' (f.params ++ [x]) :: List.zipWith iRow X.vps m.values)) := by
    unfold rowsOf
    have e : List.zipWith iRow (fps ++ [pv']) ((fs ++ [(⟨f.params ++ [x], f.call⟩ : Rt.Fm)]).map Rt.Fm.params) = List.zipWith iRow fps (fs.map Rt.Fm.params) ++ [iRow pv' (f.params ++ [x])] := by
      rw [List.map_append, List.zipWith_append (by rw [List.length_map]; exact hl)]; rfl
    simp only [e, hv, List.length_append, List.length_singleton]
    simp
  have hMg : M ≠ g := fun e => h.frameNe (by rw [hv, e]; rfl)
  have hMp : pv.ownBlock ≠ some M := fun e => by
    have := ho0.rows (iRow pv f.params) (by simp)
    obtain ⟨c, hc⟩ := own_blk this e
    rw [h.block] at hc
    injection hc with hc
    injection hc with _ hc
    exact h.ty.1 hc
  have hgb : ∃ c, w.heap[g]? = some (.cells c 68 (0, 0)) := own_blk h.frames (by rw [hv]; rfl)
  have hot : ∀ k, k ≠ g → (w1.setCell ⟨g, fs.length * 2, none⟩ pv').heap[k]? = w1.heap[k]? := fun k hk => Below.heap_setCell w1 ⟨g, fs.length * 2, none⟩ pv' k hk
  have hmc := h.next (w' := w1.setCell ⟨g, fs.length * 2, none⟩ pv') (tail' := tail) (m' := { m with frames := fs ++ [⟨f.params ++ [x], f.call⟩] }) (X' := { X with fps := fps ++ [pv'] }) (by rw [hot M hMg, hkeep M (block_lt h.block) hMp]; exact h.block) (Nat.le_trans (Nat.le_trans hb.size hg.size) (by simp [World.setCell])) (by
    intro k y hy hne hp
    have hkg : k ≠ g := fun e => by
      obtain ⟨c, hc⟩ := hgb
      rw [e, hc] at hy
      injection hy with hy
      obtain ⟨c', t', e2, hp⟩ := hp
      rw [← hy] at e2
      injection e2 with _ e2
      rw [← e2] at hp
      exact absurd hp (by unfold PTy; decide)
    rw [hot k hkg, hkeep k (block_lt hy) (fun e => by
      have := ho0.rows (iRow pv f.params) (by simp)
      obtain ⟨c, hc⟩ := own_blk this e
      rw [hy] at hc
      injection hc with hc
      obtain ⟨c', t', e2, hp⟩ := hp
      rw [hc] at e2
      injection e2 with _ e2
      have e3 : (iRow pv f.params).t = 3 := rfl
      rw [← e2, e3] at hp
      exact absurd hp (by unfold PTy; decide))]
    exact hy) (by rw [hrows']; exact p1) rfl rfl (by simp [hl]) h.vl
  have hgX : g ∈ blkX X := by rw [← h.blks]; exact mem_blks (r := frameRow X m) (by rw [rows_frame]; simp) (by show X.fv.ownBlock = some g; rw [hv]; rfl)
  refine ⟨hmc, ⟨hg.os.trans hb.os, hg.tape.trans hb.tape, hg.output.trans hb.output, Nat.le_trans (Nat.le_trans hb.size hg.size) (by simp [World.setCell]), fun k hk hn => ?_⟩, ?_, ?_, hfrow.frozenAt _, hkeep M (block_lt h.block) hMp⟩
  · rw [hot k (fun e => hn (List.mem_cons_of_mem _ (by rw [e]; exact hgX)))]
    exact hkeep k hk (fun e => hn (List.mem_cons_of_mem _ (by rw [← h.blks, hre]; exact mem_blks (r := iRow pv f.params) (by simp) e)))
  · rw [← h.blks, ← hmc.blks, hrows']
    intro k hk3
    rcases p2 k hk3 with hk4 | hk4
    · rw [← hre2] at hk4
      rcases o2 k hk4 with hk5 | hk5
      · rw [hre]; exact Or.inl hk5
      · exact Or.inr hk5
    · exact Or.inr (Nat.le_trans (Nat.le_trans hb.size hg.size) hk4)
  · obtain ⟨g', c', he, _, _, hc⟩ := own_cell hfrow (j := fs.length * 2) (u := pv) (by rw [fCells_snoc _ _ _ _ hl, List.getElem?_append_right (Nat.le_of_eq (fCells_len _ _ hl)), fCells_len _ _ hl, Nat.sub_self]; rfl)
    simp at he
    obtain ⟨rfl, rfl⟩ := he
    exact hc
set_option maxHeartbeats 2000000 in
set_option maxRecDepth 100000 in
theorem addParam_any (w : World) (M B : Nat) (ty : TypeId) (tail : List Value) (S : Rt.Src) (m : Rt.Mc) (X : McX) (h : McS w M B ty tail S m X) (hm : Mok S m) (x : Int) (fs : List Rt.Fm) (f : Rt.Fm) (hf : m.frames = fs ++ [f]) (hfp : f.params.length ≤ 900) :
    Calls Tryz.prog 84 #[.pointer (some ⟨M, 0, none⟩), .int .i64 x] w fun e w' => e = .returned (.tuple #[]) ∧ ∃ X', Aft M B ty tail S X X' { m with frames := fs ++ [⟨f.params ++ [x], f.call⟩] } w w' := by
  obtain ⟨i0, hi0, hz0, hz1, hz2⟩ := info_parts Tryz.infoIntK
  have hfl := hm.frames
  have hlen : m.frames.length = fs.length + 1 := by rw [hf]; simp
  obtain ⟨g, cap, hfv, hcap⟩ : ∃ g cap, X.fv = .slice (some ⟨g, 0, none⟩) (fs.length + 1) cap ∧ fs.length + 1 ≤ cap := by
    have h1 := h.frames
    rw [hlen] at h1
    rcases h1.2 with ⟨e, e2⟩ | ⟨g, cap, cur, e, _, _, e3, _⟩
    · simp at e2
    · exact ⟨g, cap, e, e3⟩
  obtain ⟨fps, pv, hfps⟩ : ∃ fps pv, X.fps = fps ++ [pv] := by
    have hne : X.fps ≠ [] := by intro e; have := h.fl; rw [e, hlen] at this; simp at this
    exact ⟨X.fps.dropLast, X.fps.getLast hne, (List.dropLast_concat_getLast hne).symm⟩
  have hl : fps.length = fs.length := by have := h.fl; rw [hlen, hfps] at this; simpa using this
  have hpar := h.parRow fs.length (by omega)
  have hfi : m.frames[fs.length]'(by omega) = f := by simp [hf]
  have hpi : X.fps[fs.length]'(by rw [hfps]; simp [hl]) = pv := by simp [hfps, ← hl]
  rw [hfi, hpi] at hpar
  obtain ⟨pad, pcap, rfl⟩ := ownsRow_form hpar
  have k0 : w.cell? ⟨g, fs.length * 2, none⟩ = some (.slice pad f.params.length pcap) := by
    obtain ⟨g', c', he, _, _, hc⟩ := own_cell h.frames (fCells_get X.fps m.frames h.fl fs.length (by omega)).1
    rw [hfv] at he
    simp at he
    obtain ⟨rfl, _⟩ := he
    rw [hpi] at hc
    exact hc
  have hglt : g < w.heap.size := by
    have := (h.frames.lt g (by rw [hfv]; rfl)).2
    exact this
  have k0a : (w.alloc (Obj.cells #[.int .i64 x] 3)).cell? ⟨g, fs.length * 2, none⟩ = some (.slice pad f.params.length pcap) := (World.cell?_alloc_past _ _ _ hglt).trans k0
  have c2 := h.c2
  rw [hfv] at c2
  have hMlt := block_lt h.block
  have hw2 : IntKind.i64.wrap ((fs.length : Int) + 1 - 1) = (fs.length : Int) := by rw [IntWalk.i64_left, IntWalk.wrap64_in _ (by omega)]; omega
  have hw3 : IntKind.i64.wrap (fs.length : Int) = (fs.length : Int) := by rw [IntWalk.i64_left, IntWalk.wrap64_in _ (by omega)]
  have i1 : (0 : Int) ≤ (fs.length : Int) := by omega
  have i2 : (fs.length : Int) < (fs.length : Int) + 1 := by omega
  have i3 : ¬ (fs.length : Int) < 0 := by omega
  have HH := hide (And.intro h (And.intro hpar (And.intro hfv (And.intro hfps hf))))
  clear h hfv hfps hf hpar hpi hfi hm hfl hlen
  go_enter Tryz.func84, Tryz.ntmps84
  go_wp2_with fail
  go_region_law
          ((refine step_append_lies _ (by rfl) _ _ _ (by rfl) 0 3 i0 _ 1 8 Tryz.underlying24 hi0 hz0 hz1 hz2 rfl (by omega) _ f.params.length (intsV f.params) (by rfl) (((unhide HH).2.1.alloc _).drew)
                ⟨w.heap.size, 0, none⟩ 1 1 [.int .i64 x] (by rfl) (by rfl)
                (World.news_of_block (cs := #[.int .i64 x]) (t := 3) (fr := (0, 0)) (heap_alloc_new w _)) (by simp [Value.oneCell'])
                (by omega) (by unfold maxLen; omega) (by omega) (Nat.zero_le _) (w.heap.size + 1) (by simp) ?_; intro g' cap' w4 hown4 hgrow hat hlt4; obtain ⟨q1, q2, q3, q4, q5, q6⟩ := (unhide HH).1.parPush fs f (unhide HH).2.2.2.2 g cap (unhide HH).2.2.1 fps _ (unhide HH).2.2.2.1 (((Below.refl _ w).alloc (Nat.le_refl _) _).drew) hgrow x (.slice (some ⟨g', 0, none⟩) (f.params.length + 1) cap') (by rw [intsV, List.map_append]; exact hown4) (fun k hk => by simp [Value.ownBlock] at hk; subst hk; rcases hat with e | e; exact Or.inl e; exact Or.inr (by omega)); have HF := hide (And.intro q1 (And.intro q2 q3)); have c24 : w4.cell? ⟨M, 2, none⟩ = some (.slice (some ⟨g, 0, none⟩) (fs.length + 1) cap) := (World.cell?_of_block (a := ⟨M, 2, none⟩) q6).trans c2; clear q1 q2 q3 q6 hown4 hgrow hat hlt4))
  all_goals
    go_wp2_with fail
    go_end0
    exact ⟨rfl, _, ⟨(unhide HF).1, (unhide HF).2.1, (unhide HF).2.2, hMlt⟩⟩
end Go.Proofs.YtbpajiljfppjcaaGreat

