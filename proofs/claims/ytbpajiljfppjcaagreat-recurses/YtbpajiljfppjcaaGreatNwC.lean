/- The machine's beginning: declare. -/
import Derived.Test.YtbpajiljfppjcaaGreatNwB
namespace Go.Proofs.YtbpajiljfppjcaaGreat
open Go.RowKit
attribute [local go_sem ↓] Go.wp_at_zero Go.wp_at_succ

/-- A line's cells more. -/
theorem McS.valPush {w wx wy w1 : World} {M B : Nat} {ty : TypeId} {tail : List Value} {S : Rt.Src} {m : Rt.Mc} {X : McX} (h : McS w M B ty tail S m X) (hb : Below w.heap.size w wx) (hby : Below wx.heap.size wx wy) (cv : Value) (zs : List Int) (hn : wx.ownsRow w.heap.size 3 1 cv zs.length (intsV zs))
    (hg : wy.grownBy w1 X.vv.ownBlock) (vv' : Value) (hown : w1.ownsRow 0 24 1 vv' (m.values.length + 1) (X.vps ++ [cv])) (hat : ∀ g, vv'.ownBlock = some g → X.vv.ownBlock = some g ∨ wx.heap.size ≤ g) :
    McS (w1.setCell ⟨M, 3, none⟩ vv') M B ty tail S { m with values := m.values ++ [zs] } { X with vv := vv', vps := X.vps ++ [cv] } ∧ Frm w (w1.setCell ⟨M, 3, none⟩ vv') (M :: blkX X) ∧ Grows w (blkX X) (blkX { X with vv := vv', vps := X.vps ++ [cv] }) := by
  have hrow := h.vals
  have hkx : ∀ k, k < wx.heap.size → X.vv.ownBlock ≠ some k → w1.heap[k]? = wx.heap[k]? := fun k hk hv => (hg.block k (Nat.lt_of_lt_of_le hk hby.size) (Ne.symm hv)).trans (hby.block k hk)
  have hkeep : ∀ k, k < w.heap.size → X.vv.ownBlock ≠ some k → w1.heap[k]? = w.heap[k]? := fun k hk hv => (hkx k (Nat.lt_of_lt_of_le hk hb.size) hv).trans (hb.block k hk)
  have hint : ∀ g, X.vv.ownBlock = some g → ∃ c, w.heap[g]? = some (.cells c 24 (0, 0)) := fun g hg => own_blk hrow hg
  have hMne : X.vv.ownBlock ≠ some M := by
    intro e
    obtain ⟨c, hc⟩ := hint M e
    rw [h.block] at hc
    injection hc with hc
    injection hc with _ hc
    exact h.ty.2.2.1 hc
  have hk : ∀ (k : Nat) (x : Obj), w.heap[k]? = some x → (∃ c t, x = Obj.cells c t (0, 0) ∧ PTy t) → w1.heap[k]? = some x := by
    intro k x hx hp
    rw [hkeep k (block_lt hx) (fun e => by
      obtain ⟨c, hc⟩ := hint k e
      rw [hx] at hc
      injection hc with hc
      obtain ⟨c', t', e2, hp⟩ := hp
      rw [hc] at e2
      injection e2 with _ e2
      rw [← e2] at hp
      exact absurd hp (by unfold PTy; decide))]
    exact hx
  have hrows : rowsOf S.input X m = [iRow X.iv S.input, ⟨68, 2, X.fv, m.frames.length, fCells X.fps m.frames⟩] ++ ⟨24, 1, X.vv, m.values.length, X.vps⟩ :: ([iRow X.ov m.output] ++ (List.zipWith iRow X.fps (m.frames.map Rt.Fm.params) ++ List.zipWith iRow X.vps m.values)) := rfl
  have ho0 := h.own.later hb
  have ho1 : Own wx (rowsOf S.input X m ++ iRow cv zs :: []) := by
    refine Own.add (A := rowsOf S.input X m) (B := []) (by rw [List.append_nil]; exact ho0) (own_zero hn) (fun g hg hm => ?_)
    rw [List.append_nil] at hm
    have h1 := h.own.lt g hm
    have h2 := (hn.lt g hg).1
    omega
  have ho2 : Own wx ([iRow X.iv S.input, ⟨68, 2, X.fv, m.frames.length, fCells X.fps m.frames⟩] ++ ⟨24, 1, X.vv, m.values.length, X.vps⟩ :: ([iRow X.ov m.output] ++ (List.zipWith iRow X.fps (m.frames.map Rt.Fm.params) ++ List.zipWith iRow X.vps m.values) ++ [iRow cv zs])) := ho1
  obtain ⟨o1, o2⟩ := Own.swap (w' := w1) ho2 (r' := ⟨24, 1, vv', m.values.length + 1, X.vps ++ [cv]⟩) hkx hown hat
  have hz : List.zipWith iRow (X.vps ++ [cv]) (m.values ++ [zs]) = List.zipWith iRow X.vps m.values ++ [iRow cv zs] := by
    rw [List.zipWith_append h.vl]; rfl
  have hrows' : rowsOf S.input { X with vv := vv', vps := X.vps ++ [cv] } { m with values := m.values ++ [zs] } = [iRow X.iv S.input, ⟨68, 2, X.fv, m.frames.length, fCells X.fps m.frames⟩] ++ ⟨24, 1, vv', m.values.length + 1, X.vps ++ [cv]⟩ :: ([iRow X.ov m.output] ++ (List.zipWith iRow X.fps (m.frames.map Rt.Fm.params) ++ List.zipWith iRow X.vps m.values) ++ [iRow cv zs]) := by
    unfold rowsOf
    simp only [hz, List.length_append, List.length_singleton, List.append_assoc, List.cons_append, List.nil_append]
  have hmc := h.step (w1 := w1) (m' := { m with values := m.values ++ [zs] }) (X' := { X with vv := vv', vps := X.vps ++ [cv] }) (Nat.le_trans (Nat.le_trans hb.size hby.size) hg.size) (hkeep M (block_lt h.block) hMne) hk 3 vv' (by simp [mcCells]) (by rw [hrows']; exact o1) rfl rfl h.fl (by simp [h.vl])
  refine ⟨hmc, ?_, ?_⟩
  · refine Frm.setM ⟨hg.os.trans (hby.os.trans hb.os), hg.tape.trans (hby.tape.trans hb.tape), hg.output.trans (hby.output.trans hb.output), Nat.le_trans (Nat.le_trans hb.size hby.size) hg.size, fun k hk2 hn => hkeep k hk2 (fun e => hn (List.mem_cons_of_mem _ ?_))⟩ _ _
    rw [← h.blks]
    exact mem_blks (r := ⟨24, 1, X.vv, m.values.length, X.vps⟩) (by rw [hrows]; simp) e
  · rw [← h.blks, ← hmc.blks, hrows']
    intro k hk3
    have hk4 := o2 k hk3
    rcases hk4 with hk4 | hk4
    · have hk4' : k ∈ Go.Proofs.YtbpajiljfppjcaaGreat.blks (rowsOf S.input X m ++ [iRow cv zs]) := hk4
      replace hk4 := hk4'
      rw [blks_app] at hk4
      rcases List.mem_append.mp hk4 with hk5 | hk5
      · exact Or.inl hk5
      · refine Or.inr ?_
        rw [blks_cons] at hk5
        cases e : (iRow cv zs).v.ownBlock with
        | none => rw [e] at hk5; simp [Go.Proofs.YtbpajiljfppjcaaGreat.blks] at hk5
        | some g =>
          rw [e] at hk5
          rcases List.mem_cons.mp hk5 with rfl | hk5
          · exact (hn.lt _ e).1
          · simp [Go.Proofs.YtbpajiljfppjcaaGreat.blks] at hk5
    · exact Or.inr (Nat.le_trans hb.size hk4)
theorem Tryz.infoSlice : (Tryz.prog.info? 24).map (fun i => (i.zero, i.size, i.bytes)) = some (some (.slice none 0 0), 1, 24) := by kernel_rfl
set_option maxHeartbeats 1000000 in
set_option maxRecDepth 100000 in
theorem declare_any (w : World) (M B : Nat) (ty : TypeId) (tail : List Value) (S : Rt.Src) (m : Rt.Mc) (X : McX) (h : McS w M B ty tail S m X) (hv : m.values = []) (hlen : S.pls.length ≤ 101) (hc : ∀ p ∈ S.pls, p.form.cells ≤ 1000) :
    Calls Tryz.prog 34 #[.pointer (some ⟨M, 0, none⟩)] w fun e w' => e = .returned (.tuple #[]) ∧ ∃ X', Aft M B ty tail S X X' { m with values := S.pls.map (fun p => Rt.zerosI p.form) } w w' := by
  obtain ⟨i0, hi0, hz0, hz1, hz2⟩ := info_parts Tryz.infoSlice
  go_enter Tryz.func34, Tryz.ntmps34
  go_wp2_with fail
  go_loopw [2, 3] (fun i _ wr => ∃ (k : Nat) (X' : McX), k ≤ S.pls.length ∧ i = .int .i64 k ∧ Aft M B ty tail S X X' { m with values := (S.pls.take k).map (fun p => Rt.zerosI p.form) } w wr)
    (fun i _ _ => S.pls.length + 1 - (intOf i).toNat)
  case atStart => exact ⟨0, X, Nat.zero_le _, rfl, by rw [List.take_zero, List.map_nil, ← hv]; exact Aft.start h (Below.refl _ _)⟩
  case round =>
    clear h
    obtain ⟨k, X', hk, rfl, hA⟩ := hrel
    obtain ⟨adl, capl, hlv, cP⟩ := hA.mc.prog.lvForm
    by_cases hlt : k < S.pls.length
    · have hlt' : (k : Int) < (S.pls.length : Int) := by omega
      have hk0 : (0 : Int) ≤ (k : Int) := by omega
      have hl1 : (S.pls.take k).length = k := by simp; omega
      have hpr := hA.mc.prog
      rw [split_at hlt] at hpr
      obtain ⟨g, cap, a0, a1, a2, a3, k0, k1, k2, k3, xe, xf, hlv2, hglt, ⟨-, t1, t2, t3, t4, t5, t6, -⟩, -, -⟩ := hpr.get
      rw [hlv] at hlv2
      injection hlv2 with e1 e2 e3
      clear e2
      subst e1 e3
      rw [hl1] at t1 t2 t3 t4 t5 t6
      have hcc := hc _ (List.getElem_mem hlt)
      have HT := hide (show (S.pls.take (k + 1)).map (fun p => Rt.zerosI p.form) = (S.pls.take k).map (fun p => Rt.zerosI p.form) ++ [Rt.zerosI (S.pls[k]).form] by rw [List.take_add_one, List.getElem?_eq_getElem hlt, List.map_append]; rfl)
      have hvl : ((S.pls.take k).map (fun p => Rt.zerosI p.form)).length = k := by rw [List.length_map, hl1]
      have c3 := hA.mc.c3
      obtain ⟨vad, vcap, hvv⟩ := ownsRow_form hA.mc.vals
      rw [hvl] at hvv
      rw [hvv] at c3
      have HA := hide hA
      have HV := hide hvv
      have HL := hide hvl
      clear hpr hA hlv hl1 hvv hvl
      generalize S.pls[k] = p at *
      go_wp2_with fail
      refine (zeros_any _ p.form a1 a2 a3 k1 k2 k3 hcc).mono ?_
      rintro e w2 ⟨hb2, rv, rfl, hrv⟩
      have c3' := cell_later hb2 c3
      have hown := own_later (unhide HA).mc.vals hb2
      rw [unhide HV, unhide HL] at hown
      have hMlt := block_lt (block_later (unhide HA).mc.block hb2)
      obtain ⟨rad, rcap, hrv2⟩ := ownsRow_form hrv
      have HRV := hide hrv
      have HB2 := hide hb2
      have HRE := hide hrv2
      clear hrv hb2 c3 cP t1 t2 t3 t4 t5 t6
      rw [hrv2]
      go_wp2_with (at_builtin; refine wpList_append_lies _ rfl _ _ 41 rfl 0 24 i0 _ 1 24 Tryz.underlying41 hi0 hz0 hz1 hz2 rfl (by decide) _ _ _ rfl (hown.alloc _) ⟨w2.heap.size, 0, none⟩ 1 1 [.slice rad (Rt.zerosI p.form).length rcap] rfl rfl (cell_one_new _ _ _) (by simp [Value.oneCell']) (by omega) (by unfold maxLen; omega) (by omega) (Nat.zero_le _) (w2.heap.size + 1) (by simp) ?_)
      intro g' cap' w4 hown4 hgrow hat hlt4
      rw [← unhide HV] at hgrow hat
      rw [← hrv2] at hown4
      have hA := unhide HA
      have hb2 := unhide HB2
      have hbN := (Below.refl w2.heap.size w2).alloc (Nat.le_refl _) (.cells #[.slice rad (Rt.zerosI p.form).length rcap] 24)
      obtain ⟨q1, q2, q3⟩ := hA.mc.valPush hb2 hbN rv (Rt.zerosI p.form) (unhide HRV) hgrow (.slice (some ⟨g', 0, none⟩) (k + 1) cap') (by show World.ownsRow _ 0 24 1 _ (((S.pls.take k).map (fun p => Rt.zerosI p.form)).length + 1) _; rw [unhide HL]; exact hown4) (fun g2 hg2 => by simp [Value.ownBlock] at hg2; subst hg2; rcases hat with h | h; exact Or.inl h; exact Or.inr (by omega))
      have hAx := hA.more q1 q2 q3
      have hne : (X'.vv).ownBlock ≠ some M := by
        intro e
        obtain ⟨c, hc⟩ := own_blk hA.mc.vals e
        rw [hA.mc.block] at hc
        injection hc with hc
        injection hc with _ hc
        exact hA.mc.ty.2.2.1 hc
      have bM4 := (hgrow.block M (Nat.lt_of_lt_of_le hMlt hbN.size) (Ne.symm hne)).trans (block_later (block_later hA.mc.block hb2) hbN)
      have d3 : w4.cell? ⟨M, 3, none⟩ = some X'.vv := by have := cell_of_block bM4 3 (by simp); simpa using this
      have z3 := free_of_block bM4 3
      have HF := hide hAx
      clear q1 q2 q3 hAx hne bM4 hA hb2 hbN hown4 hgrow hat hlt4 hown hrv2 HA HRV c3'
      go_wp2_with fail
      go_roundw
      case rel => exact ⟨k + 1, _, by omega, by go_num, by rw [unhide HT]; exact unhide HF⟩
      case measure => simp [intOf]; omega
    · have hlt' : ¬ (k : Int) < (S.pls.length : Int) := by omega
      have HF := hide hA
      clear hA hlv
      go_wp2_with fail
      go_end0
      refine ⟨rfl, X', ?_⟩
      have := unhide HF
      rw [List.take_of_length_le (by omega)] at this
      exact this
end Go.Proofs.YtbpajiljfppjcaaGreat

