/- The law: a pair of sessions, the program's and the document's. -/
import Derived.Test.YthleadfkfnnadaaGreatSeC
import Derived.Test.YthleadfkfnnadaaGreatLwE
namespace Go.Proofs.YthleadfkfnnadaaGreat
open Go.RowKit
attribute [local go_sem ↓] Go.wp_at_zero Go.wp_at_succ
theorem mIsStop_any (w : World) (M B : Nat) (ty : TypeId) (tail : List Value) (S : Rt.Src) (m : Rt.Mc) (X : McX) (h : McS w M B ty tail S m X) (n : Int) :
    Calls Tryz.prog 105 #[.pointer (some ⟨M, 0, none⟩), .int .i64 n] w fun e w' => e = .returned (.bool (Rt.isStopP S.pls (Rt.lineAtP S.pls n))) ∧ Below w.heap.size w w' := by
  have HC := hide (isStop_m w _ _ _ _ _ _ n h.prog)
  clear h
  go_enter Tryz.func105, Tryz.ntmps105
  go_wp2_with fail
  refine (unhide HC).mono ?_
  rintro e w1 ⟨rfl, hb1⟩
  have HB := hide hb1
  clear hb1
  go_wp2_with fail
  go_ret
  exact ⟨rfl, unhide HB⟩
theorem cells_mark (X : McX) (m : Rt.Mc) (cap : Int) (jv : Value) (low idx : Int) (marks : List Bool) (l : Nat) (b : Bool) : (mcCells X m (tailS cap jv low idx marks)).setIfInBounds (12 + l) (.bool b) = mcCells X m (tailS cap jv low idx (marks.set l b)) := by
  rw [Nat.add_comm]
  simp [mcCells, tailS, List.map_set]
theorem SesS.marked {w : World} {P B : Nat} {S : Rt.Src} {cap : Int} {s : Rt.Se} {X : McX} {jv : Value} (h : SesS w P B S cap s X jv) (l : Nat) (b : Bool) : SAft P B S cap X X jv jv { s with marks := s.marks.set l b } w (w.setCell ⟨P, 12 + l, none⟩ (.bool b)) := by
  have hf3 : JFr P jv w (w.setCell ⟨P, 12 + l, none⟩ (.bool b)) := ⟨rfl, rfl, rfl, by simp [World.setCell], fun k _ hp _ => Below.heap_setCell _ _ _ _ hp⟩
  have b3 := set_block h.mc.block (12 + l) (.bool b)
  have e : (([X.lv, X.iv, X.fv, X.vv, .int .i64 s.m.taken, X.ov, .int .i64 s.m.line, .int .i64 s.m.fin] ++ tailS cap jv s.low s.idx s.marks).toArray).setIfInBounds (12 + l) (.bool b) = mcCells X s.m (tailS cap jv s.low s.idx (s.marks.set l b)) := cells_mark X s.m cap jv s.low s.idx s.marks l b
  rw [e] at b3
  have hmc := h.mc.retail h.jr hf3 b3
  have hne : jv.ownBlock ≠ some P := h.jrS.ne
  have hj3 := own_same (w' := w.setCell ⟨P, 12 + l, none⟩ (.bool b)) h.jr (fun g hg => Below.heap_setCell _ _ _ _ (fun e => hne (by rw [hg, show g = P from e])))
  exact ⟨⟨hmc, hj3⟩, ⟨rfl, rfl, rfl, by simp [World.setCell], fun k _ hn _ => Below.heap_setCell _ _ _ _ (fun e => hn (by rw [show k = P from e]; exact List.mem_cons_self ..))⟩, Grows.refl _ _, fun _ h => Or.inl h, block_lt h.mc.block⟩
set_option maxHeartbeats 1000000 in
theorem mark_none (w : World) (P B : Nat) (S : Rt.Src) (cap : Int) (s : Rt.Se) (X : McX) (jv : Value) (h : SesS w P B S cap s X jv) (l : Nat) (hl : l < 101) (hs : Rt.isStopP S.pls (Rt.lineAtP S.pls l) = false) :
    Calls Tryz.prog 63 #[.pointer (some ⟨P, 0, none⟩), .int .i64 l] w fun e w' => e = .returned (.tuple #[.bool false, .int .i64 8]) ∧ Below w.heap.size w w' := by
  have HC := hide (mIsStop_any w P B _ _ S s.m X h.mc l)
  rw [hs] at HC
  have h0 : ¬ (l : Int) < 0 := by omega
  have h1 : ¬ (101 : Int) ≤ (l : Int) := by omega
  clear h hs
  go_enter Tryz.func63, Tryz.ntmps63
  go_wp2_with fail
  refine (unhide HC).mono ?_
  rintro e w1 ⟨rfl, hb1⟩
  have HB := hide hb1
  clear hb1
  go_wp2_with fail
  refine bodyPost_ret (v := .tuple #[.bool false, .int .i64 8]) ?_ rfl ⟨rfl, unhide HB⟩
  simp [results, Tryz.results63, go_sem]
set_option maxHeartbeats 1000000 in
theorem mark_stop (w : World) (P B : Nat) (S : Rt.Src) (cap : Int) (s : Rt.Se) (X : McX) (jv : Value) (h : SesS w P B S cap s X jv) (hm : s.marks.length = 101) (l : Nat) (hl : l < 101) (hs : Rt.isStopP S.pls (Rt.lineAtP S.pls l) = true) (b : Bool) (hb : s.marks[l]? = some b) :
    Calls Tryz.prog 63 #[.pointer (some ⟨P, 0, none⟩), .int .i64 l] w fun e w' => e = .returned (.tuple #[.bool (!b), .int .i64 0]) ∧ SAft P B S cap X X jv jv { s with marks := s.marks.set l (!b) } w w' := by
  have HC := hide (mIsStop_any w P B _ _ S s.m X h.mc l)
  rw [hs] at HC
  have h0 : ¬ (l : Int) < 0 := by omega
  have h0' : (0 : Int) ≤ (l : Int) := by omega
  have h1 : ¬ (101 : Int) ≤ (l : Int) := by omega
  have h2 : (l : Int) < 101 := by omega
  have HH := hide (And.intro h hm)
  clear h hs hm
  go_enter Tryz.func63, Tryz.ntmps63
  go_wp2_with fail
  refine (unhide HC).mono ?_
  rintro e w1 ⟨rfl, hb1⟩
  have hS1 := (unhide HH).1.later hb1
  have cM := hS1.markCell (unhide HH).2 l hl
  have fM : w1.frozen? ⟨P, 12 + l, none⟩ = false := free_of_block hS1.mc.block _
  have HA := hide (fun b => (SAft.start (unhide HH).1 hb1).trans (hS1.marked l b))
  have hbE : s.marks[l]'(by have := (unhide HH).2; omega) = b := by
    rw [List.getElem?_eq_getElem (by have := (unhide HH).2; omega)] at hb
    exact Option.some.inj hb
  rw [hbE] at cM
  clear hb1 hS1 hbE hb
  go_wp2_with fail
  go_region
  go_wp2_with fail
  refine bodyPost_ret (v := .tuple #[.bool (!b), .int .i64 0]) ?_ rfl ⟨rfl, (unhide HA _).below (below_to_drew _)⟩
  simp [results, Tryz.results63, go_sem]
theorem count_any (w : World) (P B : Nat) (S : Rt.Src) (cap : Int) (s : Rt.Se) (X : McX) (jv : Value) (h : SesS w P B S cap s X jv) : Calls Tryz.prog 103 #[.pointer (some ⟨P, 8, none⟩)] w fun e w' => e = .returned (.int .i64 (s.recs.length : Int)) ∧ w' = w := by
  have k9 := h.jrS.k9
  obtain ⟨ad, jcap, rfl⟩ := ownsRow_form h.jr
  clear h
  go_enter Tryz.func103, Tryz.ntmps103
  go_wp2_with fail
  go_ret
  exact ⟨rfl, rfl⟩
theorem held_any (w : World) (P B : Nat) (S : Rt.Src) (cap : Int) (s : Rt.Se) (X : McX) (jv : Value) (h : SesS w P B S cap s X jv) : Calls Tryz.prog 61 #[.pointer (some ⟨P, 0, none⟩)] w fun e w' => e = .returned (.tuple #[.int .i64 s.low, .int .i64 (s.recs.length : Int)]) ∧ w' = w := by
  have HH := hide h
  clear h
  go_enter Tryz.func61, Tryz.ntmps61
  go_wp2_with fail
  refine (low_any _ P B S cap s X jv (unhide HH)).mono ?_
  rintro e w1 ⟨rfl, rfl⟩
  go_wp2_with fail
  refine (count_any _ P B S cap s X jv (unhide HH)).mono ?_
  rintro e w2 ⟨rfl, rfl⟩
  go_wp2_with fail
  refine bodyPost_ret (v := .tuple #[.int .i64 s.low, .int .i64 (s.recs.length : Int)]) ?_ rfl ⟨rfl, rfl⟩
  simp [results, Tryz.results61, go_sem]
set_option maxHeartbeats 1000000 in
set_option maxRecDepth 100000 in
theorem snew_refused (s : ByteArray) (iv : Value) (inp : List Int) (cap : Int) (w : World) (hs : s.size ≤ maxLen) (hi : Ints w iv inp) (er ln : Int) (h : (100 < inp.length ∧ er = 1 ∧ ln = 0) ∨ (inp.length ≤ 100 ∧ ¬ er = 0 ∧ ∃ pls, Rt.readS s = (er, ln, pls))) :
    Calls Tryz.prog 30 #[.string s, iv, .int .i64 cap] w fun e w' => e = .returned (.tuple #[.pointer none, .int .i64 er, .int .i64 ln]) ∧ Below w.heap.size w w' := by
  have HI := hide hi
  obtain ⟨iad, icap, rfl, _⟩ := hi
  have her : (er != 0) = true := by rcases h with ⟨_, rfl, _⟩ | ⟨_, h, _⟩ <;> simp_all
  have HH := hide h
  clear h
  go_enter Tryz.func30, Tryz.ntmps30
  go_wp2_with fail
  refine (new_any s _ inp _ hs (unhide HI) (fun p hp => fit_of hp)).mono ?_
  rintro e w1 ⟨hb1, hcase⟩
  have he : e = .returned (.tuple #[.agg zMach, .int .i64 er, .int .i64 ln]) := by
    rcases unhide HH with ⟨h1, h2, h3⟩ | ⟨h1, h2, p, h3⟩
    · subst h2 h3
      rcases hcase with ⟨_, he⟩ | ⟨h, _⟩
      · exact he
      · omega
    · rcases hcase with ⟨h, _⟩ | ⟨_, er', ln', pls', hR, hc⟩
      · omega
      · rw [h3] at hR
        injection hR with e1 hR
        injection hR with e2 _
        subst e1 e2
        rcases hc with ⟨_, he⟩ | ⟨h0, _⟩
        · exact he
        · exact absurd h0 h2
  subst he
  have HB := hide (fun o => hb1.alloc hb1.size o)
  clear hcase
  go_wp2_with fail
  go_ret3
  exact ⟨rfl, unhide HB _⟩
set_option maxHeartbeats 1000000 in
set_option maxRecDepth 100000 in
theorem snew_cap (s : ByteArray) (iv : Value) (inp : List Int) (cap : Int) (w : World) (pls : List Rt.PL) (hs : s.size ≤ maxLen) (hi : Ints w iv inp) (hR : Rt.readS s = (0, 0, pls)) (hl : inp.length ≤ 100) (hc : cap < 5 ∨ 500 < cap) :
    Calls Tryz.prog 30 #[.string s, iv, .int .i64 cap] w fun e w' => e = .returned (.tuple #[.pointer none, .int .i64 6, .int .i64 0]) ∧ Below w.heap.size w w' := by
  have HI := hide hi
  obtain ⟨iad, icap, rfl, _⟩ := hi
  go_enter Tryz.func30, Tryz.ntmps30
  go_wp2_with fail
  refine (new_any s _ inp _ hs (unhide HI) (fun p hp => fit_of hp)).mono ?_
  rintro e w1 ⟨hb1, hcase⟩
  rcases hcase with ⟨hlt, _⟩ | ⟨_, er, ln, pls', hR', hcc⟩
  · exact absurd hlt (by omega)
  rw [hR] at hR'
  injection hR' with e1 hR'
  injection hR' with e2 e3
  subst e1 e2 e3
  rcases hcc with ⟨h0, _⟩ | ⟨_, _, hlen, M0, X, rfl, hM0, hblk, hmc⟩
  · exact absurd rfl h0
  obtain ⟨la, lc, ia, ic, fa, fc, va, vc, oa, oc, q1, q2, q3, q4, q5⟩ := hmc.shape
  generalize Rt.firstM (srcOf s pls inp) = m0 at *
  have hcells : mcCells X m0 [] = #[.slice la pls.length lc, .slice ia inp.length ic, .slice fa m0.frames.length fc, .slice va m0.values.length vc, .int .i64 m0.taken, .slice oa m0.output.length oc, .int .i64 m0.line, .int .i64 m0.fin] := by
    simp only [mcCells, q1, q2, q3, q4, q5, srcOf, List.length_map]
    rfl
  rw [hcells]
  have HB := hide (fun o => hb1.alloc hb1.size o)
  clear hmc hcells q1 q2 q3 q4 q5 hR hblk
  by_cases hz : cap < 5
  · go_wp2_with fail
    go_ret3
    exact ⟨rfl, unhide HB _⟩
  · have hz2 : 500 < cap := by omega
    go_wp2_with fail
    go_ret3
    exact ⟨rfl, unhide HB _⟩
def mk0 : List Bool := List.replicate 101 false
theorem plc_of {s : ByteArray} {pls : List Rt.PL} {inp : List Int} (hR : Rt.readS s = (0, 0, pls)) (hl : inp.length ≤ 100) : Plc (srcOf s pls inp) := ⟨good_of hR hl, call4_of hR, first_keepG (good_of hR hl)⟩
theorem snew_at (s : ByteArray) (iv : Value) (inp : List Int) (cap : Int) (w : World) (pls : List Rt.PL) (hs : s.size ≤ maxLen) (hi : Ints w iv inp) (hR : Rt.readS s = (0, 0, pls)) (hl : inp.length ≤ 100) (hc : 5 ≤ cap ∧ cap ≤ 500) :
    Calls Tryz.prog 30 #[.string s, iv, .int .i64 cap] w fun e w' => Below w.heap.size w w' ∧ ∃ P B X jv, e = .returned (.tuple #[.pointer (some ⟨P, 0, none⟩), .int .i64 0, .int .i64 0]) ∧ (∀ k ∈ ownL P X jv, w.heap.size ≤ k) ∧ Sess w' P B (srcOf s pls inp) cap 0 0 mk0 X jv := by
  refine (snew_any s iv inp cap w pls hs hi hR hl hc).mono ?_
  rintro e w' ⟨hb, P, B, X, he, hP, hX, hses⟩
  refine ⟨hb, P, B, X, .slice none 0 0, he, fun k hk => ?_, hses, ⟨fun i hi => by omega, Nat.le_refl _, ?_⟩⟩
  · rcases in_ownL hk with e | e | e
    · omega
    · exact hX k e
    · cases e
  · show ((0 : Nat) : Int) ≤ cap
    omega
set_option maxHeartbeats 1000000 in
theorem mark_out (w : World) (P : Nat) (l : Int) (hl : l < 0 ∨ 101 ≤ l) :
    Calls Tryz.prog 63 #[.pointer (some ⟨P, 0, none⟩), .int .i64 l] w fun e w' => e = .returned (.tuple #[.bool false, .int .i64 8]) ∧ Below w.heap.size w w' := by
  by_cases h0 : l < 0
  · go_enter Tryz.func63, Tryz.ntmps63
    go_wp2_with fail
    refine bodyPost_ret (v := .tuple #[.bool false, .int .i64 8]) ?_ rfl ⟨rfl, Below.refl _ _⟩
    simp [results, Tryz.results63, go_sem]
  · have h1 : (101 : Int) ≤ l := by omega
    go_enter Tryz.func63, Tryz.ntmps63
    go_wp2_with fail
    refine bodyPost_ret (v := .tuple #[.bool false, .int .i64 8]) ?_ rfl ⟨rfl, Below.refl _ _⟩
    simp [results, Tryz.results63, go_sem]
def MTy (t : TypeId) : Prop := t = 105 ∨ t = 3 ∨ t = 153 ∨ t = 24 ∨ t = 162 ∨ t = 109 ∨ t = 72 ∨ t = 4 ∨ t = 30 ∨ t = 36
theorem MTy.notP {t : TypeId} (h : MTy t) : ¬ PTy t := by
  unfold MTy at h
  unfold PTy
  rcases h with rfl | rfl | rfl | rfl | rfl | rfl | rfl | rfl | rfl | rfl <;> decide
theorem MTy.notS {t : TypeId} (h : MTy t) : ¬ STy t := by
  unfold MTy at h
  unfold STy
  rcases h with rfl | rfl | rfl | rfl | rfl | rfl | rfl | rfl | rfl | rfl <;> decide
section
variable {w w' : World} {P B : Nat} {S : Rt.Src} {cap : Int} {n low : Nat} {mk : List Bool} {X : McX} {jv : Value}
theorem Sess.mty (h : Sess w P B S cap n low mk X jv) {k : Nat} (hk : k ∈ ownL P X jv) : ∃ t, TyAt w k t ∧ MTy t := by
  rcases in_ownL hk with e | e | e
  · exact ⟨_, ⟨_, by rw [e]; exact h.ses.mc.block⟩, Or.inl rfl⟩
  · rw [← h.ses.mc.blks] at e
    obtain ⟨r, hr, hg⟩ := List.mem_filterMap.mp e
    refine ⟨r.t, own_blk (h.ses.mc.own.rows r hr) hg, ?_⟩
    rcases rows_ty3 hr with e | e | e <;> rw [e] <;> simp [MTy]
  · exact ⟨_, own_blk h.ses.jr e, by simp [MTy]⟩
theorem Sess.stay (h : Sess w P B S cap n low mk X jv) (hs : w.heap.size ≤ w'.heap.size) (hk : ∀ k ∈ ownL P X jv, w'.heap[k]? = w.heap[k]?) (hp : ∀ k t, PTy t → TyAt w k t → w'.heap[k]? = w.heap[k]?) : Sess w' P B S cap n low mk X jv := by
  refine ⟨⟨h.ses.mc.next ((hk P (ownL_in (Or.inl rfl))).trans h.ses.mc.block) hs ?_ ⟨fun r hr => own_same (h.ses.mc.own.rows r hr) (fun g hg => hk g (ownL_in (Or.inr (Or.inl ?_)))), h.ses.mc.own.apart⟩ rfl rfl h.ses.mc.fl h.ses.mc.vl, own_same h.ses.jr (fun g hg => hk g (ownL_in (Or.inr (Or.inr hg))))⟩, h.ok⟩
  · rintro k x hx _ ⟨c, t, rfl, ht⟩
    exact (hp k t ht ⟨c, hx⟩).trans hx
  · rw [← h.ses.mc.blks]
    exact List.mem_filterMap.mpr ⟨r, hr, hg⟩
theorem Sess.held (h : Sess w P B S cap n low mk X jv) : Calls Tryz.prog 61 #[.pointer (some ⟨P, 0, none⟩)] w fun e w' => e = .returned (.tuple #[.int .i64 (low : Int), .int .i64 ((Rt.recsOf S low (n - low)).length : Int)]) ∧ w' = w := held_any w P B S cap _ X jv h.ses
end
structure PrS where
  q : Nat
  P : Nat
  B : Nat
  X : McX
  jv : Value
  C : Nat
  Y : CuX
  ps : List Rt.PL
  pls : List Rt.PL
  ls : List (List ByteArray)
  S : Rt.Src
  cap : Int
  len : Nat
  n : Nat
  low : Nat
  mks : List Bool
structure PrOK (w : World) (s : PrS) : Prop where
  pair : w.heap[s.q]? = some (.cells #[.pointer (some ⟨s.P, 0, none⟩), .pointer (some ⟨s.C, 0, none⟩)] 65 (0, 0))
  ses : Sess w s.P s.B s.S s.cap s.n s.low s.mks s.X s.jv
  cst : Cst s.S s.cap s.mks
  cur : CurG w s.C s.pls s.ls s.S s.cap s.len s.n s.low (s.mks.take (s.ls.length + 1)) s.Y
  ctx : Rf.Ctx s.ps s.pls s.ls s.S
  le : s.n ≤ s.len
  apart : ∀ k ∈ ownL s.P s.X s.jv, k ∉ cuL s.pls s.S s.C s.Y
def prL (s : PrS) : List Nat := s.q :: (ownL s.P s.X s.jv ++ cuL s.pls s.S s.C s.Y)
def KTy (t : TypeId) : Prop := PTy t ∨ STy t ∨ t = 65
theorem MTy.notK {t : TypeId} (h : MTy t) : ¬ KTy t := by
  rintro (e | e | e)
  · exact h.notP e
  · exact h.notS e
  · rw [e] at h
    exact absurd h (by unfold MTy; decide)
structure PAft (s s' : PrS) (w w' : World) : Prop where
  ok : PrOK w' s'
  q : s'.q = s.q
  os : w'.os = w.os
  tape : w'.tape = w.tape
  output : w'.output = w.output
  size : w.heap.size ≤ w'.heap.size
  block : ∀ k, k < w.heap.size → k ∉ prL s → w'.heap[k]? = w.heap[k]?
  kept : ∀ k t, KTy t → TyAt w k t → w'.heap[k]? = w.heap[k]?
  own : ∀ k ∈ prL s', k ∈ prL s ∨ w.heap.size ≤ k
  far : s'.len ≤ s.len + 1000
section
variable {w w' : World} {s : PrS}
theorem PrOK.lt (h : PrOK w s) {k : Nat} (hk : k ∈ prL s) : k < w.heap.size := by
  rcases List.mem_cons.mp hk with rfl | hk
  · exact block_lt h.pair
  · rcases List.mem_append.mp hk with hk | hk
    · exact h.ses.ses.own_lt hk
    · exact h.cur.lt hk
theorem PrOK.stay (h : PrOK w s) (hs : w.heap.size ≤ w'.heap.size) (hk : ∀ k ∈ prL s, w'.heap[k]? = w.heap[k]?) (ht : ∀ k t, KTy t → TyAt w k t → w'.heap[k]? = w.heap[k]?) : PrOK w' s :=
  ⟨(hk _ (List.mem_cons_self ..)).trans h.pair, h.ses.stay hs (fun k hm => hk k (List.mem_cons_of_mem _ (List.mem_append_left _ hm))) (fun k t hp => ht k t (Or.inl hp)), h.cst, h.cur.stay (fun k hm => hk k (List.mem_cons_of_mem _ (List.mem_append_right _ hm))) (fun k t hp => ht k t (Or.inr (Or.inl hp))), h.ctx, h.le, h.apart⟩
theorem PrOK.later (h : PrOK w s) (hb : Below w.heap.size w w') : PrOK w' s := h.stay hb.size (fun k hk => hb.block k (h.lt hk)) (fun k _ _ hk => hb.block k hk.lt)
theorem PAft.below (h : PrOK w s) (hb : Below w.heap.size w w') : PAft s s w w' :=
  ⟨h.later hb, rfl, hb.os, hb.tape, hb.output, hb.size, fun k hk _ => hb.block k hk, fun k _ _ hk => hb.block k hk.lt, fun k hk => Or.inl hk, by omega⟩
theorem PAft.then {w1 w2 : World} {s2 : PrS} (h : PAft s s w w1) (h2 : PAft s s2 w1 w2) : PAft s s2 w w2 :=
  ⟨h2.ok, h2.q, h2.os.trans h.os, h2.tape.trans h.tape, h2.output.trans h.output, Nat.le_trans h.size h2.size, fun k hk hn => (h2.block k (Nat.lt_of_lt_of_le hk h.size) hn).trans (h.block k hk hn), fun k t ht hk => (h2.kept k t ht (by unfold TyAt; rw [h.kept k t ht hk]; exact hk)).trans (h.kept k t ht hk), fun k hk => by
    rcases h2.own k hk with e | e
    · exact Or.inl e
    · exact Or.inr (Nat.le_trans h.size e), h2.far⟩
theorem plN_line (pls : List Rt.PL) (S : Rt.Src) (n : Nat) : (plN pls S n).line = (Rt.atM S n).line ∧ (plN pls S n).fin = (Rt.atM S n).fin ∧ (plN pls S n).frames.length = (Rt.atM S n).frames.length := ⟨rfl, rfl, Rf.frs_len _ _ _⟩
set_option maxHeartbeats 2000000 in
set_option maxRecDepth 100000 in
theorem replied_ref (w : World) (h : PrOK w s) (rs mv : Int) :
    Calls Tryz.prog 60 #[.pointer (some ⟨s.q, 0, none⟩), .agg #[.int .i64 rs, .int .i64 mv, .int .i64 (Rt.atM s.S s.n).fin, .int .i64 (Rt.atM s.S s.n).line, .int .i64 ((Rt.atM s.S s.n).frames.length : Int), .int .i64 (s.n : Int)], .int .i64 rs, .int .i64 mv] w fun e w' => e = .returned (.bool true) ∧ Below w.heap.size w w' := by
  have HH := hide h
  obtain ⟨e1, e2, e3⟩ := plN_line s.pls s.S s.n
  rw [← e1, ← e2, ← e3]
  have p1 : w.cell? ⟨s.q, 1, none⟩ = some (.pointer (some ⟨s.C, 0, none⟩)) := cell_of_block h.pair 1 (by simp)
  have c5 : w.cell? ⟨s.C, 5, none⟩ = some (.int .i64 s.n) := cell_of_block h.cur.block 5 (by simp [cuA])
  have hql := block_lt h.pair
  have hCl := block_lt h.cur.block
  clear h e1 e2 e3
  have hb0 := (Below.refl w.heap.size w).alloc (Nat.le_refl _) (.cells #[.int .i64 rs, .int .i64 mv, .int .i64 (plN s.pls s.S s.n).fin, .int .i64 (plN s.pls s.S s.n).line, .int .i64 ((plN s.pls s.S s.n).frames.length : Int), .int .i64 (s.n : Int)] 111)
  have hn0 := heap_alloc_new w (.cells #[.int .i64 rs, .int .i64 mv, .int .i64 (plN s.pls s.S s.n).fin, .int .i64 (plN s.pls s.S s.n).line, .int .i64 ((plN s.pls s.S s.n).frames.length : Int), .int .i64 (s.n : Int)] 111)
  have HB0 := hide (And.intro hb0 hn0)
  clear hb0 hn0
  go_enter Tryz.func60, Tryz.ntmps60
  go_wp2_with fail
  refine (place_ref _ ((unhide HH).later (unhide HB0).1).cur (unhide HH).le).mono ?_
  generalize w.alloc (.cells #[.int .i64 rs, .int .i64 mv, .int .i64 (plN s.pls s.S s.n).fin, .int .i64 (plN s.pls s.S s.n).line, .int .i64 ((plN s.pls s.S s.n).frames.length : Int), .int .i64 (s.n : Int)] 111) = wa at *
  rintro e w1 ⟨hb1, X, _, hq, rfl⟩
  obtain ⟨xa, xc, ya, yc, za, zc, oa, oc, f1, f2, f3, f4⟩ := hq.forms
  have hpa : plA X.fv X.vv X.cv X.ov (plN s.pls s.S s.n) = #[.slice xa (plN s.pls s.S s.n).frames.length xc, .slice ya (plN s.pls s.S s.n).vars.length yc, .slice za (plN s.pls s.S s.n).cells.length zc, .int .i64 (plN s.pls s.S s.n).read, .slice oa (plN s.pls s.S s.n).out.length oc, .int .i64 (plN s.pls s.S s.n).line, .int .i64 (plN s.pls s.S s.n).fin] := by rw [f1, f2, f3, f4]; rfl
  rw [hpa]
  have hbw : Below w.heap.size w w1 := (unhide HB0).1.trans (hb1.mono (B' := w.heap.size) (unhide HB0).1.size)
  have d1 := cell_later hbw p1
  have d5 := cell_later hbw c5
  have hR := block_later (unhide HB0).2 hb1
  obtain ⟨r0, r1, r2, r3, r4, r5, _⟩ := six_any hR
  have hRl := block_lt hR
  have hs1 := hbw.size
  have hn1 : ¬ w.heap.size = w1.heap.size := by omega
  have hn2 : ¬ s.q = w1.heap.size := by omega
  have hn3 : ¬ s.C = w1.heap.size := by omega
  have HF := hide (fun o => hbw.alloc hs1 o)
  clear hbw hb1 hR hq f1 f2 f3 f4 hpa p1 c5
  generalize plN s.pls s.S s.n = p at *
  have hbq := (Below.refl w1.heap.size w1).alloc (Nat.le_refl _) (.cells #[.slice xa p.frames.length xc, .slice ya p.vars.length yc, .slice za p.cells.length zc, .int .i64 p.read, .slice oa p.out.length oc, .int .i64 p.line, .int .i64 p.fin] 72)
  obtain ⟨q0, _, _, _, _, q5, q6⟩ := seven (heap_alloc_new w1 (.cells #[.slice xa p.frames.length xc, .slice ya p.vars.length yc, .slice za p.cells.length zc, .int .i64 p.read, .slice oa p.out.length oc, .int .i64 p.line, .int .i64 p.fin] 72))
  have d1 := cell_later hbq d1
  have d5 := cell_later hbq d5
  have k2 := cell_later hbq r2
  have k3 := cell_later hbq r3
  have k4 := cell_later hbq r4
  have k5 := cell_later hbq r5
  have HF2 := hide (unhide HF (.cells #[.slice xa p.frames.length xc, .slice ya p.vars.length yc, .slice za p.cells.length zc, .int .i64 p.read, .slice oa p.out.length oc, .int .i64 p.line, .int .i64 p.fin] 72))
  go_wp2_with fail
  clear HF hbq
  generalize w1.alloc (.cells #[.slice xa p.frames.length xc, .slice ya p.vars.length yc, .slice za p.cells.length zc, .int .i64 p.read, .slice oa p.out.length oc, .int .i64 p.line, .int .i64 p.fin] 72) = wq at *
  clear r0 r1 r2 r3 r4 r5
  go_quiet (fail)
  go_wp2_with fail
  go_ret
  exact ⟨rfl, (unhide HF2).trans ((below_drewN wq _).mono (unhide HF2).size)⟩
set_option maxHeartbeats 2000000 in
set_option maxRecDepth 100000 in
theorem where_ref (w : World) (h : PrOK w s) :
    Calls Tryz.prog 32 #[.pointer (some ⟨s.q, 0, none⟩)] w fun e w' => e = .returned (.bool true) ∧ Below w.heap.size w w' := by
  have HH := hide h
  have p0 : w.cell? ⟨s.q, 0, none⟩ = some (.pointer (some ⟨s.P, 0, none⟩)) := cell_of_block h.pair 0 (by simp)
  clear h
  go_enter Tryz.func32, Tryz.ntmps32
  go_wp2_with fail
  refine ((unhide HH).ses.whereS).mono ?_
  rintro e w1 ⟨rfl, hb1⟩
  have HB1 := hide hb1
  have hR := heap_alloc_new w1 (.cells (replyN s.S 0 0 s.n) 111)
  have hbR := (Below.refl w1.heap.size w1).alloc (Nat.le_refl _) (.cells (replyN s.S 0 0 s.n) 111)
  unfold replyN at hR hbR
  unfold replyN
  obtain ⟨r0, r1, r2, r3, r4, r5, _⟩ := six_any hR
  have HH2 := hide (((unhide HH).later hb1).later hbR)
  have HB2 := hide (hb1.trans (hbR.mono (B' := w.heap.size) hb1.size))
  clear hb1 hR hbR
  go_wp2_with fail
  refine (replied_ref _ (unhide HH2) 0 0).mono ?_
  rintro e w2 ⟨rfl, hb2⟩
  have HB3 := hide ((unhide HB2).trans (hb2.mono (B' := w.heap.size) (unhide HB2).size))
  clear hb2
  go_wp2_with fail
  go_ret
  exact ⟨rfl, unhide HB3⟩
theorem PrOK.room (h : PrOK w s) : (Rt.recsOf s.S s.low (s.n - s.low)).length ≤ 1000000 ∧ s.low ≤ s.n := by
  have h1 := h.ses.ok.room
  have h2 := h.cst.hi
  exact ⟨by omega, h.ses.ok.le⟩
set_option maxHeartbeats 2000000 in
set_option maxRecDepth 100000 in
theorem pheld_ref (w : World) (h : PrOK w s) (hl : s.len < 4611686018427387904) :
    Calls Tryz.prog 33 #[.pointer (some ⟨s.q, 0, none⟩)] w fun e w' => e = .returned (.bool true) ∧ Below w.heap.size w w' := by
  have HH := hide h
  have p0 : w.cell? ⟨s.q, 0, none⟩ = some (.pointer (some ⟨s.P, 0, none⟩)) := cell_of_block h.pair 0 (by simp)
  have p1 : w.cell? ⟨s.q, 1, none⟩ = some (.pointer (some ⟨s.C, 0, none⟩)) := cell_of_block h.pair 1 (by simp)
  clear h
  go_enter Tryz.func33, Tryz.ntmps33
  go_wp2_with fail
  refine ((unhide HH).ses.held).mono ?_
  rintro e w1 ⟨rfl, rfl⟩
  go_wp2_with fail
  refine (cheld_ref _ (unhide HH).cur (unhide HH).le (unhide HH).room.2 hl (unhide HH).room.1).mono ?_
  rintro e w2 ⟨rfl, hb2⟩
  have HB := hide hb2
  clear hb2
  go_wp2_with fail
  go_ret
  exact ⟨by first | rfl | simp, unhide HB⟩
end
end Go.Proofs.YthleadfkfnnadaaGreat
