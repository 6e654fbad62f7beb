/- The law's world: one pair of sessions more. -/
import Derived.Test.YthleadfkfnnadaaGreatLnA
import Derived.Test.YthleadfkfnnadaaGreatEqvG
namespace Go.Proofs.YthleadfkfnnadaaGreat
open Go.RowKit
attribute [local go_sem ↓] Go.wp_at_zero Go.wp_at_succ
theorem TyAt.one {w : World} {k : Nat} {t u : TypeId} (h1 : TyAt w k t) (h2 : TyAt w k u) : t = u := by
  apply Decidable.byContradiction
  intro h
  exact h1.ne h2 h rfl
section
variable {w w1 w2 : World} {s : PrS}
theorem CurG.mty {C : Nat} {pls : List Rt.PL} {ls : List (List ByteArray)} {S : Rt.Src} {cap : Int} {len n low : Nat} {mk : List Bool} {Y : CuX} (h : CurG w C pls ls S cap len n low mk Y) {k : Nat} (hk : k ∈ cuM C Y) : ∃ t, TyAt w k t ∧ MTy t := by
  have ot : ∀ {o : Option Nat} {g : Nat}, g ∈ o.toList → o = some g := fun hg => by simpa using hg
  rcases List.mem_cons.mp hk with rfl | hk
  · exact ⟨_, ⟨_, h.block⟩, by simp [MTy]⟩
  · rcases List.mem_append.mp hk with hk | hk
    · rcases List.mem_append.mp hk with hk | hk
      · exact ⟨_, own_blk h.tr (ot hk), by simp [MTy]⟩
      · exact ⟨_, own_blk h.rcs (ot hk), by simp [MTy]⟩
    · exact ⟨_, own_blk h.mks (ot hk), by simp [MTy]⟩
theorem PrOK.kept1 (h : PrOK w s) {X' : McX} {jv' : Value} {s' : Rt.Se} (hA : SAft s.P s.B s.S s.cap s.X X' s.jv jv' s' w w1) {k : Nat} {t : TypeId} (ht : KTy t) (hk : TyAt w k t) : w1.heap[k]? = w.heap[k]? :=
  hA.kept hk.lt (fun hm => by
    obtain ⟨u, h1, h2⟩ := h.ses.mty hm
    rw [hk.one h1] at ht
    exact h2.notK ht)
theorem PrOK.cur1 (h : PrOK w s) {X' : McX} {jv' : Value} {s' : Rt.Se} (hA : SAft s.P s.B s.S s.cap s.X X' s.jv jv' s' w w1) : CurG w1 s.C s.pls s.ls s.S s.cap s.len s.n s.low (s.mks.take (s.ls.length + 1)) s.Y :=
  h.cur.stay (fun k hk => hA.kept (h.cur.lt hk) (fun hm => h.apart k hm hk)) (fun _ _ ht hk => h.kept1 hA (Or.inr (Or.inl ht)) hk)
theorem PrOK.act (h : PrOK w s) {X' : McX} {jv' : Value} {Y' : CuX} {len' n' low' : Nat} {mk' : List Bool} (hA : SAft s.P s.B s.S s.cap s.X X' s.jv jv' (Rt.seAt s.S n' low' mk') w w1) (hok : Rt.SeOk s.S s.cap n' low') (hc : Cst s.S s.cap mk') (hD : CAft s.C s.pls s.ls s.S s.cap len' n' low' (mk'.take (s.ls.length + 1)) s.Y Y' w1 w2) (hle : n' ≤ len') (hlen : len' ≤ s.len + 1000) :
    PAft s { s with X := X', jv := jv', Y := Y', len := len', n := n', low := low', mks := mk' } w w2 := by
  have hc1 := h.cur1 hA
  have hk1 : ∀ k t, KTy t → TyAt w k t → w1.heap[k]? = w.heap[k]? := fun k t ht hk => h.kept1 hA ht hk
  have hk2 : ∀ k t, KTy t → TyAt w1 k t → w2.heap[k]? = w1.heap[k]? := fun k t ht hk => hD.frm.block k hk.lt (fun hm => by
    obtain ⟨u, h1, h2⟩ := hc1.mty hm
    rw [hk.one h1] at ht
    exact h2.notK ht)
  have hk : ∀ k t, KTy t → TyAt w k t → w2.heap[k]? = w.heap[k]? := fun k t ht hk => (hk2 k t ht (by unfold TyAt; rw [hk1 k t ht hk]; exact hk)).trans (hk1 k t ht hk)
  have hs1 := hA.frm.size
  have hS1 : Sess w1 s.P s.B s.S s.cap n' low' mk' X' jv' := ⟨hA.ses, hok⟩
  have hap : ∀ k ∈ ownL s.P X' jv', k ∉ cuL s.pls s.S s.C s.Y := fun k hm hc => by
    rcases hA.owns hm with h1 | h1
    · exact h.apart k h1 hc
    · have := h.cur.lt hc
      omega
  refine ⟨⟨(hk _ _ (Or.inr (Or.inr rfl)) ⟨_, h.pair⟩).trans h.pair, hS1.stay hD.frm.size (fun k hm => hD.frm.block k (hA.ses.own_lt hm) (fun hc => hap k hm (List.mem_append_left _ hc))) (fun k t ht hk' => hk2 k t (Or.inl ht) hk'), hc, hD.cur, h.ctx, hle, fun k hm hc => ?_⟩, rfl, hD.frm.os.trans hA.frm.os, hD.frm.tape.trans hA.frm.tape, hD.frm.output.trans hA.frm.output, Nat.le_trans hs1 hD.frm.size, fun k hk' hn => ?_, hk, fun k hm => ?_, hlen⟩
  · rcases hD.own k hc with h1 | h1
    · exact hap k hm h1
    · have := hA.ses.own_lt hm
      omega
  · have n1 : k ∉ ownL s.P s.X s.jv := fun hm => hn (List.mem_cons_of_mem _ (List.mem_append_left _ hm))
    have n2 : k ∉ cuM s.C s.Y := fun hm => hn (List.mem_cons_of_mem _ (List.mem_append_right _ (List.mem_append_left _ hm)))
    exact (hD.frm.block k (Nat.lt_of_lt_of_le hk' hs1) n2).trans (hA.kept hk' n1)
  · rcases List.mem_cons.mp hm with rfl | hm
    · exact Or.inl (List.mem_cons_self ..)
    · rcases List.mem_append.mp hm with hm | hm
      · rcases hA.owns hm with h1 | h1
        · exact Or.inl (List.mem_cons_of_mem _ (List.mem_append_left _ h1))
        · exact Or.inr h1
      · rcases hD.own k hm with h1 | h1
        · exact Or.inl (List.mem_cons_of_mem _ (List.mem_append_right _ h1))
        · exact Or.inr (Nat.le_trans hs1 h1)
set_option maxHeartbeats 2000000 in
set_option maxRecDepth 100000 in
theorem marked_no (w : World) (h : PrOK w s) (l : Int) (HP : Calls Tryz.prog 63 #[.pointer (some ⟨s.P, 0, none⟩), .int .i64 l] w fun e w' => e = .returned (.tuple #[.bool false, .int .i64 8]) ∧ Below w.heap.size w w') (HD : ∀ w1, PrOK w1 s → Calls Tryz.prog 64 #[.pointer (some ⟨s.C, 0, none⟩), .int .i64 l] w1 fun e w' => e = .returned (.tuple #[.bool false, .int .i64 8]) ∧ Below w1.heap.size w1 w') :
    Calls Tryz.prog 34 #[.pointer (some ⟨s.q, 0, none⟩), .int .i64 l] w fun e w' => e = .returned (.bool true) ∧ PAft s s w w' := by
  have HH := hide h
  have HPP := hide HP
  have HDD := hide HD
  have p0 : w.cell? ⟨s.q, 0, none⟩ = some (.pointer (some ⟨s.P, 0, none⟩)) := cell_of_block h.pair 0 (by simp)
  have p1 : w.cell? ⟨s.q, 1, none⟩ = some (.pointer (some ⟨s.C, 0, none⟩)) := cell_of_block h.pair 1 (by simp)
  clear h HP HD
  go_enter Tryz.func34, Tryz.ntmps34
  go_wp2_with fail
  refine (unhide HPP).mono ?_
  rintro e w1 ⟨rfl, hb1⟩
  have d1 := cell_later hb1 p1
  have HB1 := hide hb1
  clear hb1
  go_wp2_with fail
  refine (unhide HDD w1 ((unhide HH).later (unhide HB1))).mono ?_
  rintro e w2 ⟨rfl, hb2⟩
  have HB2 := hide ((unhide HB1).trans (hb2.mono (B' := w.heap.size) (unhide HB1).size))
  clear hb2
  go_wp2_with (go_at_call 20; refine (num_ref 8 _).mono ?_; rintro e w' ⟨rfl, rfl⟩)
  all_goals
    go_ret
    exact ⟨by first | rfl | simp, PAft.below (unhide HH) (unhide HB2)⟩
set_option maxHeartbeats 2000000 in
set_option maxRecDepth 100000 in
theorem marked_yes (w : World) (h : PrOK w s) (l : Nat) (b : Bool) (s' : PrS) (HP : Calls Tryz.prog 63 #[.pointer (some ⟨s.P, 0, none⟩), .int .i64 ((l : Int) + 1)] w fun e w' => e = .returned (.tuple #[.bool (!b), .int .i64 0]) ∧ SAft s.P s.B s.S s.cap s.X s.X s.jv s.jv (Rt.seAt s.S s.n s.low (s.mks.set (l + 1) (!b))) w w')
    (HD : ∀ w1, SAft s.P s.B s.S s.cap s.X s.X s.jv s.jv (Rt.seAt s.S s.n s.low (s.mks.set (l + 1) (!b))) w w1 → Calls Tryz.prog 64 #[.pointer (some ⟨s.C, 0, none⟩), .int .i64 ((l : Int) + 1)] w1 fun e w' => e = .returned (.tuple #[.bool (!b), .int .i64 0]) ∧ PAft s s' w w') :
    Calls Tryz.prog 34 #[.pointer (some ⟨s.q, 0, none⟩), .int .i64 ((l : Int) + 1)] w fun e w' => e = .returned (.bool true) ∧ PAft s s' w w' := by
  have HH := hide h
  have HPP := hide HP
  have HDD := hide HD
  have p0 : w.cell? ⟨s.q, 0, none⟩ = some (.pointer (some ⟨s.P, 0, none⟩)) := cell_of_block h.pair 0 (by simp)
  clear h HP HD
  go_enter Tryz.func34, Tryz.ntmps34
  go_wp2_with fail
  refine (unhide HPP).mono ?_
  rintro e w1 ⟨rfl, hA⟩
  have hq1 := ((unhide HH).kept1 hA (Or.inr (Or.inr rfl)) ⟨_, (unhide HH).pair⟩).trans (unhide HH).pair
  have d1 : w1.cell? ⟨s.q, 1, none⟩ = some (.pointer (some ⟨s.C, 0, none⟩)) := cell_of_block hq1 1 (by simp)
  have HA := hide hA
  clear hA hq1 p0
  go_wp2_with fail
  refine (unhide HDD w1 (unhide HA)).mono ?_
  rintro e w2 ⟨rfl, hP⟩
  have HF := hide hP
  clear hP
  cases b <;> go_wp2_with (go_at_call 20; refine (num_ref 0 _).mono ?_; rintro e w' ⟨rfl, rfl⟩)
  all_goals
    go_ret
    exact ⟨by first | rfl | simp, unhide HF⟩
theorem stop_line (h : PrOK w s) {l : Nat} (hl : l < s.ls.length) : Rt.isStopP s.S.pls (Rt.lineAtP s.S.pls ((l + 1 : Nat) : Int)) = Rf.stopB s.ls l s.ls[l] := by
  have e : Rt.lineAtP s.S.pls ((l + 1 : Nat) : Int) = Rt.noTok (Rt.lnAt s.pls ((l : Int) + 1)) := by
    rw [h.ctx.spls]
    exact Rt.lnAt_noTok s.pls ((l : Int) + 1)
  rw [e, h.ctx.spls, Rt.isStop_noTok]
  exact Rf.stop_eq h.ctx.both hl (Rf.both_ln h.ctx.both hl)
theorem stop_out (h : PrOK w s) {l : Nat} (hl : l = 0 ∨ s.ls.length < l) : Rt.isStopP s.S.pls (Rt.lineAtP s.S.pls (l : Int)) = false := by
  have hb := h.ctx.both.len
  have e : Rt.lineAtP s.S.pls (l : Int) = Rt.noTok (Rt.lnAt s.pls (l : Int)) := by
    rw [h.ctx.spls]
    exact Rt.lnAt_noTok s.pls (l : Int)
  have e2 : (Rt.lnAt s.pls (l : Int)).form = Rt.zF := by
    unfold Rt.lnAt
    rw [if_neg (by omega), Int.toNat_natCast]
    rcases hl with rfl | hl
    · obtain ⟨q, hq, _⟩ := h.ctx.both.ex
      rw [hq]
      rfl
    · rw [List.getElem?_eq_none (by omega)]
      rfl
  rw [e, h.ctx.spls, Rt.isStop_noTok]
  unfold Rt.isStopP
  rw [e2]
  rfl
theorem marked_ref (w : World) (h : PrOK w s) (l : Int) :
    Calls Tryz.prog 34 #[.pointer (some ⟨s.q, 0, none⟩), .int .i64 l] w fun e w' => e = .returned (.bool true) ∧ ∃ s', PAft s s' w w' := by
  have h100 := h.ctx.law.len
  have hm := h.cst.mks
  have no : Calls Tryz.prog 63 #[.pointer (some ⟨s.P, 0, none⟩), .int .i64 l] w (fun e w' => e = .returned (.tuple #[.bool false, .int .i64 8]) ∧ Below w.heap.size w w') → (∀ w1, PrOK w1 s → Calls Tryz.prog 64 #[.pointer (some ⟨s.C, 0, none⟩), .int .i64 l] w1 fun e w' => e = .returned (.tuple #[.bool false, .int .i64 8]) ∧ Below w1.heap.size w1 w') → Calls Tryz.prog 34 #[.pointer (some ⟨s.q, 0, none⟩), .int .i64 l] w fun e w' => e = .returned (.bool true) ∧ ∃ s', PAft s s' w w' := fun a b =>
    (marked_no w h l a b).mono (fun e w' hh => ⟨hh.1, s, hh.2⟩)
  by_cases h1 : l < 0 ∨ 101 ≤ l
  · exact no (mark_out w s.P l h1) (fun w1 h' => cmark_out w1 h'.cur l (by omega))
  · obtain ⟨k, rfl⟩ : ∃ k : Nat, l = (k : Int) := ⟨l.toNat, by omega⟩
    by_cases h2 : k = 0 ∨ s.ls.length < k
    · exact no (mark_none w s.P s.B s.S s.cap _ s.X s.jv h.ses.ses k (by omega) (stop_out h h2)) (fun w1 h' => cmark_out w1 h'.cur k (by omega))
    · obtain ⟨j, rfl⟩ : ∃ j, k = j + 1 := ⟨k - 1, by omega⟩
      have hj : j < s.ls.length := by omega
      cases hz : Rf.stopB s.ls j s.ls[j] with
      | false => exact no (mark_none w s.P s.B s.S s.cap _ s.X s.jv h.ses.ses (j + 1) (by omega) ((stop_line h hj).trans hz)) (fun w1 h' => cmark_none w1 h'.cur h100 h.ctx.both.nested j hj hz)
      | true =>
        obtain ⟨b, hb⟩ : ∃ b, s.mks[j + 1]? = some b := ⟨_, List.getElem?_eq_getElem (by omega)⟩
        have hD : ∀ w1, SAft s.P s.B s.S s.cap s.X s.X s.jv s.jv (Rt.seAt s.S s.n s.low (s.mks.set (j + 1) (!b))) w w1 → Calls Tryz.prog 64 #[.pointer (some ⟨s.C, 0, none⟩), .int .i64 ((j : Int) + 1)] w1 fun e w' => e = .returned (.tuple #[.bool (!b), .int .i64 0]) ∧ PAft s { s with mks := s.mks.set (j + 1) (!b) } w w' := fun w1 hA => by
          refine (cmark_stop w1 (h.cur1 hA) h100 h.ctx.both.nested j hj hz (by rw [List.length_take]; omega) b (by rw [List.getElem?_take, if_pos (by omega)]; exact hb)).mono ?_
          rintro e w2 ⟨he, hC⟩
          rw [← List.take_set] at hC
          exact ⟨he, h.act hA h.ses.ok ⟨h.cst.plc, h.cst.lo, h.cst.hi, by rw [List.length_set]; exact hm⟩ hC h.le (by omega)⟩
        exact (marked_yes w h j b _ (mark_stop w s.P s.B s.S s.cap _ s.X s.jv h.ses.ses hm (j + 1) (by omega) ((stop_line h hj).trans hz) b hb) hD).mono (fun e w' hh => ⟨hh.1, _, hh.2⟩)
end
structure WI (w : World) (S0 : Nat) (pv lv : Value) (vs : List Value) (prs : List PrS) (tag : Nat → Nat) : Prop where
  lg : LG w S0 pv lv vs
  ps : w.ownsRow (S0 + 1) 36 1 pv prs.length (prs.map (fun s => Value.pointer (some ⟨s.q, 0, none⟩)))
  each : ∀ i (h : i < prs.length), PrOK w prs[i]
  tags : ∀ i (h : i < prs.length), ∀ k ∈ prL prs[i], tag k = i + 1 ∧ S0 < k
  lv0 : ∀ k, lv.ownBlock = some k → tag k = 0
  pv0 : ∀ k, pv.ownBlock = some k → tag k = 0
  vs0 : ∀ i (h : i < vs.length) k, vs[i].ownBlock = some k → tag k = 0
section
variable {w w' : World} {S0 : Nat} {pv lv : Value} {vs : List Value} {prs : List PrS} {tag : Nat → Nat}
theorem WI.later (h : WI w S0 pv lv vs prs tag) (hb : Below w.heap.size w w') : WI w' S0 pv lv vs prs tag :=
  ⟨h.lg.later hb, own_later h.ps hb, fun i hi => (h.each i hi).later hb, h.tags, h.lv0, h.pv0, h.vs0⟩
theorem LG.stay (h : LG w S0 pv lv vs) (hS : w'.heap[S0]? = w.heap[S0]?) (hl : ∀ k, lv.ownBlock = some k → w'.heap[k]? = w.heap[k]?) (hv : ∀ i (h : i < vs.length) k, vs[i].ownBlock = some k → w'.heap[k]? = w.heap[k]?) : LG w' S0 pv lv vs := by
  refine ⟨hS.trans h.block, own_same h.own hl, fun i hi => ?_⟩
  rcases h.each i hi with e | ⟨g, c, e, hc, ho⟩
  · exact Or.inl e
  · exact Or.inr ⟨g, c, e, hc, own_same ho (hv i hi)⟩
theorem WI.act (h : WI w S0 pv lv vs prs tag) {i : Nat} (hi : i < prs.length) {s' : PrS} (hA : PAft prs[i] s' w w') : WI w' S0 pv lv vs (prs.set i s') (fun k => if k < w.heap.size then tag k else i + 1) ∧ Below S0 w w' := by
  have hne : ∀ k, k < w.heap.size → tag k ≠ i + 1 → w'.heap[k]? = w.heap[k]? := fun k hk ht => hA.block k hk (fun hm => ht (h.tags i hi k hm).1)
  have hS : w'.heap[S0]? = w.heap[S0]? := hA.block S0 (block_lt h.lg.block) (fun hm => by have := (h.tags i hi S0 hm).2; omega)
  have hlk : ∀ k, lv.ownBlock = some k → k < w.heap.size := fun k e => (h.lg.own.lt k e).2
  have hpk : ∀ k, pv.ownBlock = some k → k < w.heap.size := fun k e => (h.ps.lt k e).2
  have hvk : ∀ j (hj : j < vs.length) k, vs[j].ownBlock = some k → k < w.heap.size := fun j hj k e => (h.lg.lt j hj k e).2
  have hpm : (prs.set i s').map (fun s => Value.pointer (some ⟨s.q, 0, none⟩)) = prs.map (fun s => Value.pointer (some ⟨s.q, 0, none⟩)) := by
    apply List.ext_getElem
    · simp
    · intro j h1 h2
      simp only [List.getElem_map, List.getElem_set]
      split
      · next e => subst e; rw [hA.q]
      · rfl
  refine ⟨⟨h.lg.stay hS (fun k e => hne k (hlk k e) (by rw [h.lv0 k e]; omega)) (fun j hj k e => hne k (hvk j hj k e) (by rw [h.vs0 j hj k e]; omega)), ?_, fun j hj => ?_, fun j hj k hk => ?_, fun k e => by simp only [if_pos (hlk k e)]; exact h.lv0 k e, fun k e => by simp only [if_pos (hpk k e)]; exact h.pv0 k e, fun j hj k e => by simp only [if_pos (hvk j hj k e)]; exact h.vs0 j hj k e⟩, ⟨hA.os, hA.tape, hA.output, hA.size, fun k hk => hA.block k (by have := block_lt h.lg.block; omega) (fun hm => by have := (h.tags i hi k hm).2; omega)⟩⟩
  · rw [hpm, List.length_set]
    exact own_same h.ps (fun k e => hne k (hpk k e) (by rw [h.pv0 k e]; omega))
  · rw [List.length_set] at hj
    rw [List.getElem_set]
    split
    · exact hA.ok
    · next e =>
      refine (h.each j hj).stay hA.size (fun k hk => hne k ((h.each j hj).lt hk) (by rw [(h.tags j hj k hk).1]; omega)) hA.kept
  · rw [List.length_set] at hj
    rw [List.getElem_set] at hk
    split at hk
    · next e =>
      subst e
      rcases hA.own k hk with h1 | h1
      · simp only [if_pos ((h.each i hi).lt h1)]
        exact h.tags i hi k h1
      · have := block_lt h.lg.block
        rw [if_neg (by omega)]
        exact ⟨rfl, by omega⟩
    · simp only [if_pos ((h.each j hj).lt hk)]
      exact h.tags j hj k hk
theorem own_kept (h : LG w S0 pv lv vs) {v : Value} {e : Ending} {n : Nat} {xs : List Value} (hr : w.ownsRow (S0 + 1) 3 1 v n xs) (hO : OwnG S0 pv lv vs v w e w') {k : Nat} {t : TypeId} (ht : KTy t) (hk : TyAt w k t) : w'.heap[k]? = w.heap[k]? := by
  have hn : ∀ u, TyAt w k u → MTy u → False := fun u h1 h2 => by
    rw [hk.one h1] at ht
    exact h2.notK ht
  exact hO.2.2.1 k hk.lt (fun e => hn _ (by rw [e]; exact TyAt.intro h.block) (by simp [MTy])) (fun e => hn _ (own_blk h.own e) (by simp [MTy])) (fun e => hn _ (own_blk hr e) (by simp [MTy]))
theorem WI.own (h : WI w S0 pv lv vs prs tag) {v : Value} {e : Ending} {n : Nat} {xs : List Value} (hr : w.ownsRow (S0 + 1) 3 1 v n xs) (hv : ∀ k, v.ownBlock = some k → tag k = 0) (hO : OwnG S0 pv lv vs v w e w') : ∃ lv' v' tag', WI w' S0 pv lv' (vs ++ [v']) prs tag' ∧ v'.ownBlock = v.ownBlock ∧ ∀ g, lv'.ownBlock = some g → lv.ownBlock = some g ∨ w.heap.size ≤ g := by
  have hkt : ∀ k t, KTy t → TyAt w k t → w'.heap[k]? = w.heap[k]? := fun k t ht hk => own_kept h.lg hr hO ht hk
  obtain ⟨_, hB, hfr, lv', v', hL, hvo, hlo⟩ := hO
  have hSlt := block_lt h.lg.block
  have hlk : ∀ k, lv.ownBlock = some k → k < w.heap.size := fun k e => (h.lg.own.lt k e).2
  have hvk : ∀ k, v.ownBlock = some k → k < w.heap.size := fun k e => (hr.lt k e).2
  have hfr' : ∀ k, k < w.heap.size → ¬ (k = S0 ∨ lv.ownBlock = some k ∨ v.ownBlock = some k) → w'.heap[k]? = w.heap[k]? := fun k hk hn => hfr k hk (fun e => hn (Or.inl e)) (fun e => hn (Or.inr (Or.inl e))) (fun e => hn (Or.inr (Or.inr e)))
  refine ⟨lv', v', fun k => if k < w.heap.size then tag k else 0, ⟨hL, ?_, fun i hi => ?_, fun i hi k hk => ?_, fun k e => ?_, fun k e => ?_, fun i hi k e => ?_⟩, hvo, hlo⟩
  · refine own_same h.ps (fun k e => hfr' k (h.ps.lt k e).2 (fun hc => ?_))
    rcases hc with rfl | e2 | e2
    · have := (h.ps.lt k e).1
      omega
    · obtain ⟨c1, h1⟩ := own_blk h.ps e
      obtain ⟨c2, h2⟩ := own_blk h.lg.own e2
      exact absurd ((TyAt.intro h1).one (TyAt.intro h2)) (by decide)
    · obtain ⟨c1, h1⟩ := own_blk h.ps e
      obtain ⟨c2, h2⟩ := own_blk hr e2
      exact absurd ((TyAt.intro h1).one (TyAt.intro h2)) (by decide)
  · refine (h.each i hi).stay hB.size (fun k hk => hfr' k ((h.each i hi).lt hk) (fun hc => ?_)) hkt
    have h1 := h.tags i hi k hk
    rcases hc with e | e | e
    · omega
    · have := h.lv0 k e
      omega
    · have := hv k e
      omega
  · simp only [if_pos ((h.each i hi).lt hk)]
    exact h.tags i hi k hk
  · rcases hlo k e with h1 | h1
    · simp only [if_pos (hlk k h1)]
      exact h.lv0 k h1
    · rw [if_neg (by omega)]
  · simp only [if_pos (h.ps.lt k e).2]
    exact h.pv0 k e
  · by_cases hiv : i < vs.length
    · rw [List.getElem_append_left hiv] at e
      simp only [if_pos (h.lg.lt i hiv k e).2]
      exact h.vs0 i hiv k e
    · have : i = vs.length := by simp at hi; omega
      subst this
      rw [List.getElem_append_right (Nat.le_refl _)] at e
      simp only [Nat.sub_self, List.getElem_cons_zero] at e
      rw [hvo] at e
      simp only [if_pos (hvk k e)]
      exact hv k e
end
section
variable {w w1 w2 : World} {S0 : Nat} {pv lv pv' : Value} {vs : List Value} {prs : List PrS} {tag : Nat → Nat} {s : PrS}
open Classical in
theorem WI.push (h : WI w S0 pv lv vs prs tag) (hs : PrOK w s) (hd : ∀ k ∈ prL s, S0 < k ∧ lv.ownBlock ≠ some k ∧ pv.ownBlock ≠ some k ∧ (∀ i (hi : i < vs.length), vs[i].ownBlock ≠ some k) ∧ ∀ i (hi : i < prs.length), k ∉ prL prs[i]) (hb : Below w.heap.size w w1) (hg : w1.grownBy w2 pv.ownBlock)
    (ho : w2.ownsRow (S0 + 1) 36 1 pv' (prs.length + 1) (prs.map (fun s => Value.pointer (some ⟨s.q, 0, none⟩)) ++ [.pointer (some ⟨s.q, 0, none⟩)])) (hat : ∀ k, pv'.ownBlock = some k → pv.ownBlock = some k ∨ w.heap.size ≤ k) :
    (∃ tag', WI (w2.setCell ⟨S0, 0, none⟩ pv') S0 pv' lv vs (prs ++ [s]) tag') ∧ Below S0 w (w2.setCell ⟨S0, 0, none⟩ pv') := by
  have hSlt := block_lt h.lg.block
  have hpS : pv.ownBlock ≠ some S0 := fun e => by have := (h.ps.lt S0 e).1; omega
  have hset : ∀ k, k ≠ S0 → (w2.setCell ⟨S0, 0, none⟩ pv').heap[k]? = w2.heap[k]? := fun k hk => Below.heap_setCell w2 ⟨S0, 0, none⟩ _ k hk
  have hk : ∀ k, k < w.heap.size → k ≠ S0 → pv.ownBlock ≠ some k → (w2.setCell ⟨S0, 0, none⟩ pv').heap[k]? = w.heap[k]? := fun k hk h1 h2 => (hset k h1).trans ((hg.block k (Nat.lt_of_lt_of_le hk hb.size) (Ne.symm h2)).trans (hb.block k hk))
  have hS2 : w2.heap[S0]? = some (.cells #[pv, lv] 30 (0, 0)) := (hg.block S0 (Nat.lt_of_lt_of_le hSlt hb.size) (Ne.symm hpS)).trans (block_later h.lg.block hb)
  have hsz : w.heap.size ≤ (w2.setCell ⟨S0, 0, none⟩ pv').heap.size := by
    have h1 := hb.size
    have h2 := hg.size
    simp [World.setCell]
    omega
  have hkt : ∀ k t, KTy t → TyAt w k t → (w2.setCell ⟨S0, 0, none⟩ pv').heap[k]? = w.heap[k]? := fun k t ht hk' => hk k hk'.lt (fun e => by
    have := hk'.one (by rw [e]; exact TyAt.intro h.lg.block)
    rw [this] at ht
    exact (show MTy 30 by simp [MTy]).notK ht) (fun e => by
    obtain ⟨c, hc⟩ := own_blk h.ps e
    have := hk'.one (TyAt.intro hc)
    rw [this] at ht
    exact (show MTy 36 by simp [MTy]).notK ht)
  have hlv : ∀ k, lv.ownBlock = some k → k < w.heap.size ∧ k ≠ S0 ∧ pv.ownBlock ≠ some k := fun k e => ⟨(h.lg.own.lt k e).2, by have := (h.lg.own.lt k e).1; omega, fun e2 => by
    obtain ⟨c1, h1⟩ := own_blk h.ps e2
    obtain ⟨c2, h2⟩ := own_blk h.lg.own e
    exact absurd ((TyAt.intro h1).one (TyAt.intro h2)) (by decide)⟩
  have hvs : ∀ i (hi : i < vs.length) k, vs[i].ownBlock = some k → k < w.heap.size ∧ k ≠ S0 ∧ pv.ownBlock ≠ some k := fun i hi k e => ⟨(h.lg.lt i hi k e).2, by have := (h.lg.lt i hi k e).1; omega, fun e2 => by
    obtain ⟨c1, h1⟩ := own_blk h.ps e2
    rcases h.lg.each i hi with e3 | ⟨g, c, e3, _, hr⟩
    · rw [e3] at e; cases e
    · obtain ⟨c2, h2⟩ := own_blk hr e
      exact absurd ((TyAt.intro h1).one (TyAt.intro h2)) (by decide)⟩
  refine ⟨⟨fun k => if k ∈ prL s then prs.length + 1 else if k < w.heap.size then tag k else 0, ⟨?_, own_same ?_ (fun k e => hset k ?_), fun i hi => ?_, fun i hi k hm => ?_, fun k e => ?_, fun k e => ?_, fun i hi k e => ?_⟩⟩, ?_⟩
  · have hb2 := set_block hS2 0 pv'
    refine ⟨by simpa using hb2, own_same h.lg.own (fun k e => hk k (hlv k e).1 (hlv k e).2.1 (hlv k e).2.2), fun i hi => ?_⟩
    rcases h.lg.each i hi with e | ⟨g, c, e, hc, hr⟩
    · exact Or.inl e
    · exact Or.inr ⟨g, c, e, hc, own_same hr (fun k e => hk k (hvs i hi k e).1 (hvs i hi k e).2.1 (hvs i hi k e).2.2)⟩
  · rw [List.length_append, List.length_singleton, List.map_append]
    exact ho
  · have := (ho.lt k e).1
    omega
  · by_cases hiv : i < prs.length
    · rw [List.getElem_append_left hiv]
      refine (h.each i hiv).stay hsz (fun k hm => hk k ((h.each i hiv).lt hm) (by have := (h.tags i hiv k hm).2; omega) (fun e => ?_)) hkt
      have h1 := (h.tags i hiv k hm).1
      have h2 := h.pv0 k e
      omega
    · have : i = prs.length := by simp at hi; omega
      subst this
      rw [List.getElem_append_right (Nat.le_refl _)]
      simp only [Nat.sub_self, List.getElem_cons_zero]
      exact hs.stay hsz (fun k hm => hk k (hs.lt hm) (by have := (hd k hm).1; omega) (hd k hm).2.2.1) hkt
  · by_cases hiv : i < prs.length
    · rw [List.getElem_append_left hiv] at hm
      have hn : k ∉ prL s := fun hc => (hd k hc).2.2.2.2 i hiv hm
      simp only [if_neg hn, if_pos ((h.each i hiv).lt hm)]
      exact h.tags i hiv k hm
    · have : i = prs.length := by simp at hi; omega
      subst this
      rw [List.getElem_append_right (Nat.le_refl _)] at hm
      simp only [Nat.sub_self, List.getElem_cons_zero] at hm
      simp only [if_pos hm]
      exact ⟨trivial, (hd k hm).1⟩
  · have hn : k ∉ prL s := fun hc => (hd k hc).2.1 e
    simp only [if_neg hn, if_pos (hlv k e).1]
    exact h.lv0 k e
  · have hn : k ∉ prL s := fun hc => by
      rcases hat k e with h1 | h1
      · exact (hd k hc).2.2.1 h1
      · have := hs.lt hc
        omega
    simp only [if_neg hn]
    rcases hat k e with h1 | h1
    · simp only [if_pos (h.ps.lt k h1).2]
      exact h.pv0 k h1
    · rw [if_neg (by omega)]
  · have hn : k ∉ prL s := fun hc => (hd k hc).2.2.2.1 i hi e
    simp only [if_neg hn, if_pos (hvs i hi k e).1]
    exact h.vs0 i hi k e
  · exact ⟨hg.os.trans hb.os, hg.tape.trans hb.tape, hg.output.trans hb.output, hsz, fun k hk' => hk k (by omega) (by omega) (fun e => by have := (h.ps.lt k e).1; omega)⟩
end
end Go.Proofs.YthleadfkfnnadaaGreat
