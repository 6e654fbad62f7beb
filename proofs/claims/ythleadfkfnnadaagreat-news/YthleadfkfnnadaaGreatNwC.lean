/- The machine's beginning: declare. -/
import Derived.Test.YthleadfkfnnadaaGreatLwE
import Derived.Test.YthleadfkfnnadaaGreatLwB
namespace Go.Proofs.YthleadfkfnnadaaGreat
open Go.RowKit
attribute [local go_sem ↓] Go.wp_at_zero Go.wp_at_succ
def mcCells (X : McX) (m : Rt.Mc) (tail : List Value) : Array Value := ([X.lv, X.iv, X.fv, X.vv, .int .i64 m.taken, X.ov, .int .i64 m.line, .int .i64 m.fin] ++ tail).toArray
theorem McS.step {w w1 : World} {M B : Nat} {ty : TypeId} {tail : List Value} {S : Rt.Src} {m m' : Rt.Mc} {X X' : McX} (h : McS w M B ty tail S m X) (hs : w.heap.size ≤ w1.heap.size) (hM : w1.heap[M]? = w.heap[M]?)
    (hk : ∀ (k : Nat) (x : Obj), w.heap[k]? = some x → (∃ c t, x = Obj.cells c t (0, 0) ∧ PTy t) → w1.heap[k]? = some x) (i : Nat) (v : Value) (hb : (mcCells X m tail).setIfInBounds i v = mcCells X' m' tail) (ho : Own w1 (rowsOf S.input X' m')) (hl : X'.lv = X.lv) (hc : X'.cs = X.cs)
    (fl : X'.fps.length = m'.frames.length) (vl : X'.vps.length = m'.values.length) : McS (w1.setCell ⟨M, i, none⟩ v) M B ty tail S m' X' := by
  have hother : ∀ k, k ≠ M → (w1.setCell ⟨M, i, none⟩ v).heap[k]? = w1.heap[k]? := fun k hk => Below.heap_setCell w1 ⟨M, i, none⟩ _ k hk
  have hM1 : w1.heap[M]? = some (.cells (mcCells X m tail) ty (0, 0)) := hM.trans h.block
  refine h.next ?_ (by simpa [World.setCell] using hs) (fun k x hx hne hp => by rw [hother k hne]; exact hk k x hx hp) ⟨fun r hr => own_same (ho.rows r hr) (fun g hg => hother g ?_), ho.apart⟩ hl hc fl vl
  · have := set_block hM1 i v
    rw [hb] at this
    exact this
  · intro e
    obtain ⟨c, hc⟩ := own_blk (ho.rows r hr) hg
    rw [e, hM1] at hc
    injection hc with hc
    injection hc with _ hc
    have h3 := rows_ty3 hr
    rw [← hc] at h3
    rcases h3 with e | e | e
    · exact h.ty.1 e
    · exact h.ty.2.1 e
    · exact h.ty.2.2.1 e
theorem Frm.setM {w w1 : World} {M : Nat} {F : List Nat} (h : Frm w w1 (M :: F)) (i : Nat) (v : Value) : Frm w (w1.setCell ⟨M, i, none⟩ v) (M :: F) :=
  ⟨h.os, h.tape, h.output, Nat.le_trans h.size (by simp [World.setCell]), fun k hk hn => by
    rw [Below.heap_setCell w1 ⟨M, i, none⟩ v k (fun e => hn (by rw [show k = M from e]; exact List.mem_cons_self ..))]
    exact h.block k hk hn⟩
theorem Aft.more {M B : Nat} {ty : TypeId} {tail : List Value} {S : Rt.Src} {m m2 : Rt.Mc} {X X1 X2 : McX} {w w1 w2 : World} (h : Aft M B ty tail S X X1 m w w1) (hmc : McS w2 M B ty tail S m2 X2) (hf : Frm w1 w2 (M :: blkX X1)) (hg : Grows w1 (blkX X1) (blkX X2)) : Aft M B ty tail S X X2 m2 w w2 := by
  refine ⟨hmc, h.frm.trans hf ?_, h.grow.trans hg h.frm.size, h.lt⟩
  intro k hk
  rcases List.mem_cons.mp hk with rfl | hk
  · exact Or.inl (List.mem_cons_self ..)
  · rcases h.grow k hk with h' | h'
    · exact Or.inl (List.mem_cons_of_mem _ h')
    · exact Or.inr h'
theorem rows_plain (inp : List Int) (X : McX) (m m' : Rt.Mc) (h1 : m'.frames = m.frames) (h2 : m'.values = m.values) (h3 : m'.output = m.output) : rowsOf inp X m' = rowsOf inp X m := by unfold rowsOf; rw [h1, h2, h3]
theorem Aft.own {M B : Nat} {ty : TypeId} {tail : List Value} {S : Rt.Src} {m m' : Rt.Mc} {X X' : McX} {w w' : World} (h : Aft M B ty tail S X X' m w w') (i : Nat) (v : Value) (hb : (mcCells X' m tail).setIfInBounds i v = mcCells X' m' tail) (h1 : m'.frames = m.frames) (h2 : m'.values = m.values) (h3 : m'.output = m.output) : Aft M B ty tail S X X' m' w (w'.setCell ⟨M, i, none⟩ v) := by
  have hr := rows_plain S.input X' m m' h1 h2 h3
  have hmc := h.mc.step (m' := m') (X' := X') (Nat.le_refl _) rfl (fun _ _ hx _ => hx) i v hb (by rw [hr]; exact h.mc.own) rfl rfl (by rw [h1]; exact h.mc.fl) (by rw [h2]; exact h.mc.vl)
  exact ⟨hmc, h.frm.setM i v, h.grow, h.lt⟩
theorem Aft.keeps {M B : Nat} {ty : TypeId} {tail : List Value} {S : Rt.Src} {m m' : Rt.Mc} {X X' : McX} {w w' : World} (hm : McS w M B ty tail S m X) (h : Aft M B ty tail S X X' m' w w') {N : Nat} {c : Array Value} {t : TypeId} (hN : w.heap[N]? = some (.cells c t (0, 0))) (hne : N ≠ M) (ht : t ≠ 3 ∧ t ≠ 153 ∧ t ≠ 24) : w'.heap[N]? = some (.cells c t (0, 0)) := by
  refine (h.frm.block N (block_lt hN) (fun hk => ?_)).trans hN
  rcases List.mem_cons.mp hk with hk | hk
  · exact hne hk
  · rw [← hm.blks] at hk
    exact rows_not hm.own hN ht hk
theorem wrap_range (x : Int) : -9223372036854775808 ≤ wrap64 x ∧ wrap64 x ≤ 9223372036854775807 := by unfold wrap64; omega
theorem first_m (w : World) (P B : Nat) (pls : List Rt.PL) (lk : Rt.Lks) (lv : Value) (cs : List (List Value)) (h : ProgM w P B pls lk lv cs) (hlen : pls.length ≤ 101) (hfw : LkFwd pls lk) :
    Calls Tryz.prog 88 #[.pointer (some ⟨P, 0, none⟩)] w fun e w' => e = .returned (.int .i64 (Rt.goOn pls lk 102 (wrap64 (Rt.declP pls Rt.mainName + 1)))) ∧ Below w.heap.size w w' := by
  go_enter Tryz.func88, Tryz.ntmps88
  go_wp2_with fail
  refine (declaration_m _ P B pls lk lv cs Rt.mainName h hlen).mono ?_
  rintro e w1 ⟨rfl, rfl⟩
  go_wp2_with fail
  refine (goOn_any _ P B pls lk lv cs _ h hlen hfw (wrap_range _)).mono ?_
  rintro e w2 ⟨rfl, hb⟩
  have HB := hide hb
  clear hb h
  go_wp2_with fail
  go_ret
  exact ⟨rfl, unhide HB⟩
set_option maxHeartbeats 1000000 in
set_option maxRecDepth 100000 in
theorem zeros_any (w : World) (fm : Rt.PForm) (a1 a2 a3 : Option Addr) (c1 c2 c3 : Nat) (hc : fm.cells ≤ 1000) :
    Calls Tryz.prog 144 #[.agg (fmA fm a1 a2 a3 c1 c2 c3)] w fun e w' => Below w.heap.size w w' ∧ ∃ rv, e = .returned rv ∧ w'.ownsRow w.heap.size 3 1 rv (Rt.zerosI fm).length (intsV (Rt.zerosI fm)) := by
  obtain ⟨i0, hi0, hz0, hz1, hz2⟩ := info_parts Tryz.infoIntK
  obtain ⟨n, hn⟩ : ∃ n : Int, n = if fm.kind = 1 then 1 else fm.cells := ⟨_, rfl⟩
  have HZ := hide (show Rt.zerosI fm = List.replicate n.toNat 0 by rw [hn]; unfold Rt.zerosI; split <;> rfl)
  have hn1 : n ≤ 1000 := by rw [hn]; split <;> omega
  have hb0 := (Below.refl w.heap.size w).alloc (Nat.le_refl _) (.cells (fmA fm a1 a2 a3 c1 c2 c3) 143)
  generalize Rt.zerosI fm = zs at *
  by_cases hk : fm.kind = 1
  · have hk' : (fm.kind == 1) = true := by simpa using hk
    rw [if_pos hk] at hn
    subst hn
    clear hk
    go_enter Tryz.func144, Tryz.ntmps144
    go_wp2_with fail
    go_loopw [4, 5] (fun v i wr => ∃ k : Nat, (k : Int) ≤ max (1 : Int) 0 ∧ i = .int .i64 k ∧ wr.ownsRow w.heap.size 3 1 v k (intsV (List.replicate k 0)) ∧ Below w.heap.size w wr)
      (fun _ i _ => (1 : Int).toNat + 1 - (intOf i).toNat)
    case atStart => exact ⟨0, by omega, rfl, World.ownsRow_nil _ _ _ _, hb0⟩
    case round =>
      obtain ⟨k, hk, rfl, hown, hbe⟩ := hrel
      have hsz := hbe.size
      obtain ⟨adv, capv, rfl⟩ := ownsRow_form hown
      clear hb0
      by_cases hlt : (k : Int) < (1 : Int)
      · go_wp2_with (at_builtin; refine wpList_append_own _ rfl _ _ 24 rfl w.heap.size 3 i0 _ 1 8 Tryz.underlying24 hi0 hz0 hz1 hz2 rfl (by decide) _ _ _ rfl (hown.alloc _) ⟨_, 0, none⟩ 1 1 [.int .i64 0] rfl rfl (cell_one_new _ _ _) ?c2 ?c3 ?c4 ?c5 ?_)
        case c2 => intro u hu; simp at hu; rcases hu with rfl; rfl
        case c3 => unfold maxLen; omega
        case c4 => omega
        case c5 => simp; omega
        intro v' w3 hown3 hgrow _
        have hbe3 := below_append hbe hsz hown hgrow
        have HF := hide (And.intro hown3 hbe3)
        clear hown3 hbe3 hgrow hown hbe
        go_wp2_with fail
        go_roundw
        case rel =>
          obtain ⟨q2, q3⟩ := unhide HF
          exact ⟨k + 1, by omega, by go_num, by rw [List.replicate_succ', intsV, List.map_append]; exact q2, q3⟩
        case measure => simp [intOf]; omega
      · have HE : Hid (zs = List.replicate k 0) := hide (by rw [unhide HZ]; congr 1; omega)
        have HF := hide (And.intro hown hbe)
        clear hown hbe
        go_wp2_with fail
        go_ret
        exact ⟨(unhide HF).2, _, rfl, by rw [unhide HE, List.length_replicate]; exact (unhide HF).1⟩
  · have hk' : (fm.kind == 1) = false := by simpa using hk
    rw [if_neg hk] at hn
    subst hn
    clear hk
    go_enter Tryz.func144, Tryz.ntmps144
    go_wp2_with fail
    go_loopw [4, 5] (fun v i wr => ∃ k : Nat, (k : Int) ≤ max fm.cells 0 ∧ i = .int .i64 k ∧ wr.ownsRow w.heap.size 3 1 v k (intsV (List.replicate k 0)) ∧ Below w.heap.size w wr)
      (fun _ i _ => fm.cells.toNat + 1 - (intOf i).toNat)
    case atStart => exact ⟨0, by omega, rfl, World.ownsRow_nil _ _ _ _, hb0⟩
    case round =>
      obtain ⟨k, hk, rfl, hown, hbe⟩ := hrel
      have hsz := hbe.size
      obtain ⟨adv, capv, rfl⟩ := ownsRow_form hown
      clear hb0
      by_cases hlt : (k : Int) < fm.cells
      · go_wp2_with (at_builtin; refine wpList_append_own _ rfl _ _ 24 rfl w.heap.size 3 i0 _ 1 8 Tryz.underlying24 hi0 hz0 hz1 hz2 rfl (by decide) _ _ _ rfl (hown.alloc _) ⟨_, 0, none⟩ 1 1 [.int .i64 0] rfl rfl (cell_one_new _ _ _) ?c2 ?c3 ?c4 ?c5 ?_)
        case c2 => intro u hu; simp at hu; rcases hu with rfl; rfl
        case c3 => unfold maxLen; omega
        case c4 => omega
        case c5 => simp; omega
        intro v' w3 hown3 hgrow _
        have hbe3 := below_append hbe hsz hown hgrow
        have HF := hide (And.intro hown3 hbe3)
        clear hown3 hbe3 hgrow hown hbe
        go_wp2_with fail
        go_roundw
        case rel =>
          obtain ⟨q2, q3⟩ := unhide HF
          exact ⟨k + 1, by omega, by go_num, by rw [List.replicate_succ', intsV, List.map_append]; exact q2, q3⟩
        case measure => simp [intOf]; omega
      · have HE : Hid (zs = List.replicate k 0) := hide (by rw [unhide HZ]; congr 1; omega)
        have HF := hide (And.intro hown hbe)
        clear hown hbe
        go_wp2_with fail
        go_ret
        exact ⟨(unhide HF).2, _, rfl, by rw [unhide HE, List.length_replicate]; exact (unhide HF).1⟩
namespace Rt
def noTok (p : PL) : PL := { p with toks := [] }
end Rt
theorem ProgM.setT {w : World} {P B : Nat} {acc : List Rt.PL} {p : Rt.PL} {r : List Rt.PL} {lk : Rt.Lks} {g n cap : Nat} {cs : List (List Value)} (h : ProgM w P B (acc ++ p :: r) lk (.slice (some ⟨g, 0, none⟩) n cap) cs) (hP : P ≠ g) (hn : n = (acc ++ p :: r).length) :
    ∃ cs', ProgM (w.setCell ⟨g, acc.length * 12, none⟩ (.slice none 0 0)) P B (acc ++ Rt.noTok p :: r) lk (.slice (some ⟨g, 0, none⟩) n cap) cs' := by
  obtain ⟨d1, c, d2, hcs, hl, hA, hc, hC⟩ := h.lines.part
  have hother : ∀ k, k ≠ g → (w.setCell ⟨g, acc.length * 12, none⟩ (.slice none 0 0)).heap[k]? = w.heap[k]? := fun k hk => Below.heap_setCell w ⟨g, acc.length * 12, none⟩ _ k hk
  have hK : Keeps w (w.setCell ⟨g, acc.length * 12, none⟩ (.slice none 0 0)) B B := by
    intro ty size n' v xs ht' hv
    have hne := own_ne hv h.own ht'
    exact own_same hv (fun g' hg' => hother g' (fun e => hne g' hg' (by rw [e]; rfl)))
  have hlen := hc.len
  obtain ⟨tv, fv, xe, xf, hcc, h1, h2⟩ := hc
  have hc' : LineV w B (Rt.noTok p) (c.set 0 (.slice none 0 0)) := by
    obtain ⟨pv, iv, vv, vs, hfv, hr⟩ := h2
    subst hfv
    subst hcc
    exact ⟨.slice none 0 0, _, xe, xf, rfl, World.ownsRow_nil _ _ _ _, ⟨pv, iv, vv, vs, rfl, hr⟩⟩
  refine ⟨d1 ++ c.set 0 (.slice none 0 0) :: d2, ⟨?_, ?_, ?_, LinesV.join _ _ _ _ _ _ (hK.lines _ _ hA) (hK.line hc') (hK.lines _ _ hC), ?_, ?_⟩⟩
  · have := h.lt
    simpa [World.setCell] using this
  · rw [World.cell?_of_block (a := ⟨P, 0, none⟩) (hother P hP)]
    exact h.cell
  · have hown := h.own
    rw [← hn] at hown
    have e1 : cs.flatten = d1.flatten ++ c ++ d2.flatten := by rw [hcs]; simp
    rw [e1] at hown
    have := own_store1 hown 0 (.slice none 0 0) (by omega)
    rw [hl] at this
    rw [show (acc ++ Rt.noTok p :: r).length = n by rw [hn]; simp]
    simpa using this
  · intro g' n' cap' e i x hx
    injection e with e1 e2 e3
    injection e1 with e1
    injection e1 with e1
    subst e1
    obtain ⟨q1, q2⟩ := h.links g n cap rfl i x hx
    rw [cell_off (by omega), cell_off (by omega)]
    exact ⟨q1, q2⟩
  · rw [h.len]; simp
set_option maxHeartbeats 1000000 in
set_option maxRecDepth 100000 in
theorem drop_any (w : World) (P B : Nat) (pls : List Rt.PL) (lk : Rt.Lks) (lv : Value) (cs : List (List Value)) (h : ProgM w P B pls lk lv cs) (hne : lv.ownBlock ≠ some P) (hlen : pls.length ≤ 101) :
    Calls Tryz.prog 87 #[.pointer (some ⟨P, 0, none⟩)] w fun e w' => e = .returned (.tuple #[]) ∧ (∃ cs', ProgM w' P B (pls.map Rt.noTok) lk lv cs') ∧ w.grownBy w' lv.ownBlock := by
  go_enter Tryz.func87, Tryz.ntmps87
  go_wp2_with fail
  go_loopw [2] (fun i wr => ∃ (k : Nat) (cs' : List (List Value)), k ≤ pls.length ∧ i = .int .i64 k ∧ ProgM wr P B ((pls.take k).map Rt.noTok ++ pls.drop k) lk lv cs' ∧ w.grownBy wr lv.ownBlock)
    (fun i _ => pls.length + 1 - (intOf i).toNat)
  case atStart => exact ⟨0, cs, Nat.zero_le _, rfl, by simpa using h, ⟨rfl, rfl, rfl, Nat.le_refl _, fun _ _ _ => rfl⟩⟩
  case round =>
    clear h
    obtain ⟨k, cs', hk, rfl, hpr, hgr⟩ := hrel
    have hl : ((pls.take k).map Rt.noTok ++ pls.drop k).length = pls.length := by simp; omega
    obtain ⟨adl, capl, hlv, cP⟩ := hpr.lvForm
    rw [hl] at hlv cP
    by_cases hlt : k < pls.length
    · have hlt' : (k : Int) < (pls.length : Int) := by omega
      have hk0 : (0 : Int) ≤ (k : Int) := by omega
      have hs : (pls.take k).map Rt.noTok ++ pls.drop k = (pls.take k).map Rt.noTok ++ pls[k] :: pls.drop (k + 1) := by rw [List.drop_eq_getElem_cons hlt]
      have hs2 : (pls.take (k + 1)).map Rt.noTok ++ pls.drop (k + 1) = (pls.take k).map Rt.noTok ++ Rt.noTok pls[k] :: pls.drop (k + 1) := by
        rw [List.take_add_one, List.getElem?_eq_getElem hlt, List.map_append, List.append_assoc]; rfl
      rw [hs] at hpr
      have hl1 : ((pls.take k).map Rt.noTok).length = k := by simp; omega
      obtain ⟨g, cap, a0, a1, a2, a3, k0, k1, k2, k3, xe, xf, hlv2, hglt, ⟨t0, -⟩, ⟨f0, -⟩, -⟩ := hpr.get
      rw [hlv] at hlv2
      injection hlv2 with e1 e2 e3
      clear e2
      subst e1 e3
      rw [hl1] at t0 f0
      have hgP : P ≠ g := by rw [hlv] at hne; intro e; exact hne (by rw [e]; rfl)
      have hlen2 : pls.length = ((pls.take k).map Rt.noTok ++ pls[k] :: pls.drop (k + 1)).length := by rw [← hs, hl]
      have hset := (hlv ▸ hpr).setT hgP hlen2
      rw [hl1, ← hs2, ← hlv] at hset
      have HF := hide (And.intro hset (grown_more hgr (by rw [hlv]; exact set_grown wr ⟨g, k * 12, none⟩ (.slice none 0 0))))
      clear hpr hgr hset hs hs2 hl hl1 hlen2 hlv hgP
      generalize pls[k].toks.length = tl at *
      go_wp2_with fail
      go_roundw
      case rel =>
        obtain ⟨⟨cs2, q1⟩, q2⟩ := unhide HF
        exact ⟨k + 1, cs2, by omega, by go_num, q1, q2⟩
      case measure => simp [intOf]; omega
    · have hlt' : ¬ (k : Int) < (pls.length : Int) := by omega
      have he : (pls.take k).map Rt.noTok ++ pls.drop k = pls.map Rt.noTok := by rw [List.take_of_length_le (by omega), List.drop_eq_nil_of_le (by omega), List.append_nil]
      rw [he] at hpr
      have HF := hide (And.intro hpr hgr)
      clear hpr hgr he hlv hl
      go_wp2_with fail
      go_end0
      exact ⟨rfl, ⟨_, (unhide HF).1⟩, (unhide HF).2⟩
theorem McS.valPush {w wx wy w1 : World} {M B : Nat} {ty : TypeId} {tail : List Value} {S : Rt.Src} {m : Rt.Mc} {X : McX} (h : McS w M B ty tail S m X) (hb : Below w.heap.size w wx) (hby : Below wx.heap.size wx wy) (cv : Value) (zs : List Int) (hn : wx.ownsRow w.heap.size 3 1 cv zs.length (intsV zs))
    (hg : wy.grownBy w1 X.vv.ownBlock) (vv' : Value) (hown : w1.ownsRow 0 24 1 vv' (m.values.length + 1) (X.vps ++ [cv])) (hat : ∀ g, vv'.ownBlock = some g → X.vv.ownBlock = some g ∨ wx.heap.size ≤ g) :
    McS (w1.setCell ⟨M, 3, none⟩ vv') M B ty tail S { m with values := m.values ++ [zs] } { X with vv := vv', vps := X.vps ++ [cv] } ∧ Frm w (w1.setCell ⟨M, 3, none⟩ vv') (M :: blkX X) ∧ Grows w (blkX X) (blkX { X with vv := vv', vps := X.vps ++ [cv] }) := by
  have hrow := h.vals
  have hkx : ∀ k, k < wx.heap.size → X.vv.ownBlock ≠ some k → w1.heap[k]? = wx.heap[k]? := fun k hk hv => (hg.block k (Nat.lt_of_lt_of_le hk hby.size) (Ne.symm hv)).trans (hby.block k hk)
  have hkeep : ∀ k, k < w.heap.size → X.vv.ownBlock ≠ some k → w1.heap[k]? = w.heap[k]? := fun k hk hv => (hkx k (Nat.lt_of_lt_of_le hk hb.size) hv).trans (hb.block k hk)
  have hint : ∀ g, X.vv.ownBlock = some g → ∃ c, w.heap[g]? = some (.cells c 24 (0, 0)) := fun g hg => own_blk hrow hg
  have hMne : X.vv.ownBlock ≠ some M := by
    intro e
    obtain ⟨c, hc⟩ := hint M e
    rw [h.block] at hc
    injection hc with hc
    injection hc with _ hc
    exact h.ty.2.2.1 hc
  have hk : ∀ (k : Nat) (x : Obj), w.heap[k]? = some x → (∃ c t, x = Obj.cells c t (0, 0) ∧ PTy t) → w1.heap[k]? = some x := by
    intro k x hx hp
    rw [hkeep k (block_lt hx) (fun e => by
      obtain ⟨c, hc⟩ := hint k e
      rw [hx] at hc
      injection hc with hc
      obtain ⟨c', t', e2, hp⟩ := hp
      rw [hc] at e2
      injection e2 with _ e2
      rw [← e2] at hp
      exact absurd hp (by unfold PTy; decide))]
    exact hx
  have hrows : rowsOf S.input X m = [iRow X.iv S.input, ⟨153, 2, X.fv, m.frames.length, fCells X.fps m.frames⟩] ++ ⟨24, 1, X.vv, m.values.length, X.vps⟩ :: ([iRow X.ov m.output] ++ (List.zipWith iRow X.fps (m.frames.map Rt.Fm.params) ++ List.zipWith iRow X.vps m.values)) := rfl
  have ho0 := h.own.later hb
  have ho1 : Own wx (rowsOf S.input X m ++ iRow cv zs :: []) := by
    refine Own.add (A := rowsOf S.input X m) (B := []) (by rw [List.append_nil]; exact ho0) (own_zero hn) (fun g hg hm => ?_)
    rw [List.append_nil] at hm
    have h1 := h.own.lt g hm
    have h2 := (hn.lt g hg).1
    omega
  have ho2 : Own wx ([iRow X.iv S.input, ⟨153, 2, X.fv, m.frames.length, fCells X.fps m.frames⟩] ++ ⟨24, 1, X.vv, m.values.length, X.vps⟩ :: ([iRow X.ov m.output] ++ (List.zipWith iRow X.fps (m.frames.map Rt.Fm.params) ++ List.zipWith iRow X.vps m.values) ++ [iRow cv zs])) := ho1
  obtain ⟨o1, o2⟩ := Own.swap (w' := w1) ho2 (r' := ⟨24, 1, vv', m.values.length + 1, X.vps ++ [cv]⟩) hkx hown hat
  have hz : List.zipWith iRow (X.vps ++ [cv]) (m.values ++ [zs]) = List.zipWith iRow X.vps m.values ++ [iRow cv zs] := by
    rw [List.zipWith_append h.vl]; rfl
  have hrows' : rowsOf S.input { X with vv := vv', vps := X.vps ++ [cv] } { m with values := m.values ++ [zs] } = [iRow X.iv S.input, ⟨153, 2, X.fv, m.frames.length, fCells X.fps m.frames⟩] ++ ⟨24, 1, vv', m.values.length + 1, X.vps ++ [cv]⟩ :: ([iRow X.ov m.output] ++ (List.zipWith iRow X.fps (m.frames.map Rt.Fm.params) ++ List.zipWith iRow X.vps m.values) ++ [iRow cv zs]) := by
    unfold rowsOf
    simp only [hz, List.length_append, List.length_singleton, List.append_assoc, List.cons_append, List.nil_append]
  have hmc := h.step (w1 := w1) (m' := { m with values := m.values ++ [zs] }) (X' := { X with vv := vv', vps := X.vps ++ [cv] }) (Nat.le_trans (Nat.le_trans hb.size hby.size) hg.size) (hkeep M (block_lt h.block) hMne) hk 3 vv' (by simp [mcCells]) (by rw [hrows']; exact o1) rfl rfl h.fl (by simp [h.vl])
  refine ⟨hmc, ?_, ?_⟩
  · refine Frm.setM ⟨hg.os.trans (hby.os.trans hb.os), hg.tape.trans (hby.tape.trans hb.tape), hg.output.trans (hby.output.trans hb.output), Nat.le_trans (Nat.le_trans hb.size hby.size) hg.size, fun k hk2 hn => hkeep k hk2 (fun e => hn (List.mem_cons_of_mem _ ?_))⟩ _ _
    rw [← h.blks]
    exact mem_blks (r := ⟨24, 1, X.vv, m.values.length, X.vps⟩) (by rw [hrows]; simp) e
  · rw [← h.blks, ← hmc.blks, hrows']
    intro k hk3
    have hk4 := o2 k hk3
    rcases hk4 with hk4 | hk4
    · have hk4' : k ∈ Go.Proofs.YthleadfkfnnadaaGreat.blks (rowsOf S.input X m ++ [iRow cv zs]) := hk4
      replace hk4 := hk4'
      rw [blks_app] at hk4
      rcases List.mem_append.mp hk4 with hk5 | hk5
      · exact Or.inl hk5
      · refine Or.inr ?_
        rw [blks_cons] at hk5
        cases e : (iRow cv zs).v.ownBlock with
        | none => rw [e] at hk5; simp [Go.Proofs.YthleadfkfnnadaaGreat.blks] at hk5
        | some g =>
          rw [e] at hk5
          rcases List.mem_cons.mp hk5 with rfl | hk5
          · exact (hn.lt _ e).1
          · simp [Go.Proofs.YthleadfkfnnadaaGreat.blks] at hk5
    · exact Or.inr (Nat.le_trans hb.size hk4)
theorem Tryz.infoSlice : (Tryz.prog.info? 24).map (fun i => (i.zero, i.size, i.bytes)) = some (some (.slice none 0 0), 1, 24) := by kernel_rfl
set_option maxHeartbeats 1000000 in
set_option maxRecDepth 100000 in
theorem declare_any (w : World) (M B : Nat) (ty : TypeId) (tail : List Value) (S : Rt.Src) (m : Rt.Mc) (X : McX) (h : McS w M B ty tail S m X) (hv : m.values = []) (hlen : S.pls.length ≤ 101) (hc : ∀ p ∈ S.pls, p.form.cells ≤ 1000) :
    Calls Tryz.prog 89 #[.pointer (some ⟨M, 0, none⟩)] w fun e w' => e = .returned (.tuple #[]) ∧ ∃ X', Aft M B ty tail S X X' { m with values := S.pls.map (fun p => Rt.zerosI p.form) } w w' := by
  obtain ⟨i0, hi0, hz0, hz1, hz2⟩ := info_parts Tryz.infoSlice
  go_enter Tryz.func89, Tryz.ntmps89
  go_wp2_with fail
  go_loopw [2, 3] (fun i _ wr => ∃ (k : Nat) (X' : McX), k ≤ S.pls.length ∧ i = .int .i64 k ∧ Aft M B ty tail S X X' { m with values := (S.pls.take k).map (fun p => Rt.zerosI p.form) } w wr)
    (fun i _ _ => S.pls.length + 1 - (intOf i).toNat)
  case atStart => exact ⟨0, X, Nat.zero_le _, rfl, by rw [List.take_zero, List.map_nil, ← hv]; exact Aft.start h (Below.refl _ _)⟩
  case round =>
    clear h
    obtain ⟨k, X', hk, rfl, hA⟩ := hrel
    obtain ⟨adl, capl, hlv, cP⟩ := hA.mc.prog.lvForm
    by_cases hlt : k < S.pls.length
    · have hlt' : (k : Int) < (S.pls.length : Int) := by omega
      have hk0 : (0 : Int) ≤ (k : Int) := by omega
      have hl1 : (S.pls.take k).length = k := by simp; omega
      have hpr := hA.mc.prog
      rw [split_at hlt] at hpr
      obtain ⟨g, cap, a0, a1, a2, a3, k0, k1, k2, k3, xe, xf, hlv2, hglt, ⟨-, t1, t2, t3, t4, t5, t6, -⟩, -, -⟩ := hpr.get
      rw [hlv] at hlv2
      injection hlv2 with e1 e2 e3
      clear e2
      subst e1 e3
      rw [hl1] at t1 t2 t3 t4 t5 t6
      have hcc := hc _ (List.getElem_mem hlt)
      have HT := hide (show (S.pls.take (k + 1)).map (fun p => Rt.zerosI p.form) = (S.pls.take k).map (fun p => Rt.zerosI p.form) ++ [Rt.zerosI (S.pls[k]).form] by rw [List.take_add_one, List.getElem?_eq_getElem hlt, List.map_append]; rfl)
      have hvl : ((S.pls.take k).map (fun p => Rt.zerosI p.form)).length = k := by rw [List.length_map, hl1]
      have c3 := hA.mc.c3
      obtain ⟨vad, vcap, hvv⟩ := ownsRow_form hA.mc.vals
      rw [hvl] at hvv
      rw [hvv] at c3
      have HA := hide hA
      have HV := hide hvv
      have HL := hide hvl
      clear hpr hA hlv hl1 hvv hvl
      generalize S.pls[k] = p at *
      go_wp2_with fail
      refine (zeros_any _ p.form a1 a2 a3 k1 k2 k3 hcc).mono ?_
      rintro e w2 ⟨hb2, rv, rfl, hrv⟩
      have c3' := cell_later hb2 c3
      have hown := own_later (unhide HA).mc.vals hb2
      rw [unhide HV, unhide HL] at hown
      have hMlt := block_lt (block_later (unhide HA).mc.block hb2)
      obtain ⟨rad, rcap, hrv2⟩ := ownsRow_form hrv
      have HRV := hide hrv
      have HB2 := hide hb2
      have HRE := hide hrv2
      clear hrv hb2 c3 cP t1 t2 t3 t4 t5 t6
      rw [hrv2]
      go_wp2_with (at_builtin; refine wpList_append_lies _ rfl _ _ 28 rfl 0 24 i0 _ 1 24 Tryz.underlying28 hi0 hz0 hz1 hz2 rfl (by decide) _ _ _ rfl (hown.alloc _) ⟨w2.heap.size, 0, none⟩ 1 1 [.slice rad (Rt.zerosI p.form).length rcap] rfl rfl (cell_one_new _ _ _) (by simp [Value.oneCell']) (by omega) (by unfold maxLen; omega) (by omega) (Nat.zero_le _) (w2.heap.size + 1) (by simp) ?_)
      intro g' cap' w4 hown4 hgrow hat hlt4
      rw [← unhide HV] at hgrow hat
      rw [← hrv2] at hown4
      have hA := unhide HA
      have hb2 := unhide HB2
      have hbN := (Below.refl w2.heap.size w2).alloc (Nat.le_refl _) (.cells #[.slice rad (Rt.zerosI p.form).length rcap] 24)
      obtain ⟨q1, q2, q3⟩ := hA.mc.valPush hb2 hbN rv (Rt.zerosI p.form) (unhide HRV) hgrow (.slice (some ⟨g', 0, none⟩) (k + 1) cap') (by show World.ownsRow _ 0 24 1 _ (((S.pls.take k).map (fun p => Rt.zerosI p.form)).length + 1) _; rw [unhide HL]; exact hown4) (fun g2 hg2 => by simp [Value.ownBlock] at hg2; subst hg2; rcases hat with h | h; exact Or.inl h; exact Or.inr (by omega))
      have hAx := hA.more q1 q2 q3
      have hne : (X'.vv).ownBlock ≠ some M := by
        intro e
        obtain ⟨c, hc⟩ := own_blk hA.mc.vals e
        rw [hA.mc.block] at hc
        injection hc with hc
        injection hc with _ hc
        exact hA.mc.ty.2.2.1 hc
      have bM4 := (hgrow.block M (Nat.lt_of_lt_of_le hMlt hbN.size) (Ne.symm hne)).trans (block_later (block_later hA.mc.block hb2) hbN)
      have d3 : w4.cell? ⟨M, 3, none⟩ = some X'.vv := by have := cell_of_block bM4 3 (by simp); simpa using this
      have z3 := free_of_block bM4 3
      have HF := hide hAx
      clear q1 q2 q3 hAx hne bM4 hA hb2 hbN hown4 hgrow hat hlt4 hown hrv2 HA HRV c3'
      go_wp2_with fail
      go_roundw
      case rel => exact ⟨k + 1, _, by omega, by go_num, by rw [unhide HT]; exact unhide HF⟩
      case measure => simp [intOf]; omega
    · have hlt' : ¬ (k : Int) < (S.pls.length : Int) := by omega
      have HF := hide hA
      clear hA hlv
      go_wp2_with fail
      go_end0
      refine ⟨rfl, X', ?_⟩
      have := unhide HF
      rw [List.take_of_length_le (by omega)] at this
      exact this
end Go.Proofs.YthleadfkfnnadaaGreat
