/- What is seen on the way forward: onward. -/
import Derived.Test.YtbpajiljfppjcaaGreatDoorLkD
import Derived.Deep.DeepCutAuto
namespace Go.Proofs.YtbpajiljfppjcaaGreatDoor
open Go.RowKit
attribute [local go_sem ↓] Go.wp_at_zero Go.wp_at_succ

abbrev VwT := Nat × Value × Value × Value
def vw1 (S : Rt.Src) (v : VwT) : List Value := (vwA S v.1 v.2.1 v.2.2.1 v.2.2.2).toList
/-- The cells of a list of views. -/
def vwsC (S : Rt.Src) (vs : List VwT) : List Value := vs.flatMap (vw1 S)
theorem vwsC_snoc (S : Rt.Src) (vs : List VwT) (v : VwT) : vwsC S (vs ++ [v]) = vwsC S vs ++ vw1 S v := by
  unfold vwsC
  rw [List.flatMap_append]
  simp
theorem vw1_len (S : Rt.Src) (v : VwT) : (vw1 S v).length = 9 := rfl
theorem vwsC_get (S : Rt.Src) : ∀ (vs : List VwT) (i : Nat) (h : i < vs.length) (j : Nat), j < 9 → (vwsC S vs)[i * 9 + j]? = (vw1 S vs[i])[j]?
  | v :: vs, 0, _, j, hj => by
    unfold vwsC
    rw [List.flatMap_cons, Nat.zero_mul, Nat.zero_add, List.getElem?_append_left (by rw [vw1_len]; exact hj)]
    rfl
  | v :: vs, i + 1, h, j, hj => by
    have := vwsC_get S vs i (by simpa using h) j hj
    unfold vwsC at this ⊢
    rw [List.flatMap_cons, List.getElem?_append_right (by rw [vw1_len]; omega), vw1_len, show (i + 1) * 9 + j - 9 = i * 9 + j by omega, this]
    rfl
theorem Tryz.infoVw : (Tryz.prog.info? 56).map (fun i => (i.zero, i.size, i.bytes)) = some (some (.agg #[.int .i64 0, .int .i64 0, .int .i64 0, .int .i64 0, .int .i64 0, .int .i64 0, .slice none 0 0, .slice none 0 0, .slice none 0 0]), 9, 120) := by kernel_rfl
theorem view_fresh (w : World) (B : Nat) (cs : Array Value) (hB : B ≤ w.heap.size) (hn : cs.size = 9) : (w.alloc (.cells cs 56)).ownsRow B 56 9 (.slice (some ⟨w.heap.size, 0, none⟩) 1 1) 1 cs.toList := by
  refine ⟨by simp [hn], Or.inr ⟨w.heap.size, 1, cs, rfl, hB, heap_alloc_new w _, Nat.le_refl _, by unfold maxLen; omega, by rw [hn], ?_⟩⟩
  exact List.take_of_length_le (by simp [hn])
/-- A row of views stays while a session moves. -/
theorem SAft.rowV {w w' : World} {P B : Nat} {S : Rt.Src} {cap : Int} {s s' : Rt.Se} {X X' : McX} {jv jv' : Value} (h0 : SesS w P B S cap s X jv) (hA : SAft P B S cap X X' jv jv' s' w w') {N n : Nat} {v : Value} {xs : List Value} (hr : w.ownsRow N 56 9 v n xs) : w'.ownsRow N 56 9 v n xs := by
  refine own_same hr (fun g hg => ?_)
  obtain ⟨c, hc⟩ := own_blk hr hg
  rw [hc]
  exact SAft.keeps h0 hA hc (blk_ne h0 hc outV2.2) outV2.1
/-- All stays but a block that is none of the session's. -/
theorem SesS.but {w w3 : World} {P B : Nat} {S : Rt.Src} {cap : Int} {s : Rt.Se} {X : McX} {jv : Value} (h : SesS w P B S cap s X jv) {N : Nat} {c : Array Value} {t : TypeId} (hN : w.heap[N]? = some (.cells c t (0, 0))) (hne : N ≠ P) (ht : OutTy t) (hsz : w.heap.size ≤ w3.heap.size) (hot : ∀ k, k < w.heap.size → k ≠ N → w3.heap[k]? = w.heap[k]?) : SesS w3 P B S cap s X jv := by
  refine ⟨h.mc.next (by rw [hot P (block_lt h.mc.block) (Ne.symm hne)]; exact h.mc.block) hsz ?_ ⟨fun r hr => own_same (h.mc.own.rows r hr) (fun g hg => hot g ((h.mc.own.rows r hr).lt g hg).2 (fun e => ?_)), h.mc.own.apart⟩ rfl rfl h.mc.fl h.mc.vl, own_same h.jr (fun g hg => hot g (h.jr.lt g hg).2 (fun e => ?_))⟩
  · intro k x hx _ hp
    rw [hot k (block_lt hx) (fun e => by
      rw [e, hN] at hx
      injection hx with hx
      obtain ⟨c', t', e2, hp⟩ := hp
      rw [← hx] at e2
      injection e2 with _ e2
      rw [← e2] at hp
      exact ht.1 hp)]
    exact hx
  · obtain ⟨c', hc⟩ := own_blk (h.mc.own.rows r hr) hg
    rw [e, hN] at hc
    injection hc with hc
    injection hc with _ hc
    have h3 := rows_ty3 hr
    rw [← hc] at h3
    rcases h3 with e | e | e
    · exact ht.2.1 e
    · exact ht.2.2.1 e
    · exact ht.2.2.2.1 e
  · obtain ⟨c', hc⟩ := own_blk h.jr hg
    rw [e, hN] at hc
    injection hc with hc
    injection hc with _ hc
    exact ht.2.2.2.2 hc
/-- A row of views has grown. -/
theorem UnI.append {w wr w3 : World} {P B : Nat} {S : Rt.Src} {cap : Int} {mk : List Bool} {X0 X : McX} {jv0 jv : Value} {n low : Nat} {bl : List (Nat × Array Value × TypeId)} {vs : List VwT} (h : UnI w wr P B S cap mk X0 jv0 n low X jv bl vs) {sv : Value} {k : Nat} {xs : List Value} {V : Nat} (hr : wr.ownsRow V 56 9 sv (k + 1) xs) (hV : w.heap.size ≤ V) (hbl : ∀ b ∈ bl, b.1 < V) {o : Obj} (hg : (wr.alloc o).grownBy w3 sv.ownBlock) : UnI w w3 P B S cap mk X0 jv0 n low X jv bl vs := by
  have h2 := h.later ((Below.refl wr.heap.size wr).alloc (Nat.le_refl _) o)
  obtain ⟨g, gcap, hsv, hgV, hglt, _⟩ := own_cell hr (j := 0) (u := xs[0]'(by rw [hr.1]; omega)) (by rw [List.getElem?_eq_getElem])
  have hgb : sv.ownBlock = some g := by rw [hsv]; rfl
  obtain ⟨c, hc⟩ := own_blk (own_later hr ((Below.refl wr.heap.size wr).alloc (Nat.le_refl _) o)) hgb
  have hot : ∀ k, k < (wr.alloc o).heap.size → k ≠ g → w3.heap[k]? = (wr.alloc o).heap[k]? := fun k hk hne => hg.block k hk (by rw [hgb]; exact fun e => hne (Option.some.inj e))
  refine ⟨⟨h2.aft.ses.but hc (blk_ne h2.aft.ses hc outV2.2) outV2.1 hg.size hot, ⟨hg.os.trans h2.aft.frm.os, hg.tape.trans h2.aft.frm.tape, hg.output.trans h2.aft.frm.output, Nat.le_trans h2.aft.frm.size hg.size, fun k hk hn hv => (hot k (Nat.lt_of_lt_of_le hk h2.aft.frm.size) (by omega)).trans (h2.aft.frm.block k hk hn hv)⟩, h2.aft.grow, h2.aft.jg, h2.aft.lt⟩, h2.ok, fun b hm => ?_, fun v hm => ?_⟩
  · obtain ⟨g1, g2⟩ := h2.bls b hm
    exact ⟨(hot b.1 (block_lt g1) (by have := hbl b hm; omega)).trans g1, g2⟩
  · have hv := h2.vws v hm
    have hx : ∀ {u : Value} {k : Nat} {ys : List Value}, (wr.alloc o).ownsRow 0 3 1 u k ys → w3.ownsRow 0 3 1 u k ys := fun hr2 => own_same hr2 (fun q hq => by
      obtain ⟨c', hc'⟩ := own_blk hr2 hq
      refine hot q (block_lt hc') (fun e => ?_)
      rw [e, hc] at hc'
      injection hc' with hc'
      injection hc' with _ hc'
      exact absurd hc' (by decide))
    exact ⟨hx hv.a, hx hv.c, hx hv.o, hv.pa, hv.pc, hv.po⟩
theorem UnI.set9 {w wr : World} {P B : Nat} {S : Rt.Src} {cap : Int} {mk : List Bool} {X0 X : McX} {jv0 jv : Value} {n low : Nat} {bl : List (Nat × Array Value × TypeId)} {vs : List VwT} {N : Nat} {v0 v1 v2 v3 v4 v5 v6 v7 v8 : Value} {t : TypeId} (h : UnI w wr P B S cap mk X0 jv0 n low X jv ((N, #[v0, v1, v2, v3, v4, v5, v6, v7, v8], t) :: bl) vs) (hne : ∀ b ∈ bl, b.1 ≠ N) (a0 a1 a2 a3 a4 a5 a6 a7 a8 : Value) : UnI w (W9 wr N a0 a1 a2 a3 a4 a5 a6 a7 a8) P B S cap mk X0 jv0 n low X jv ((N, #[a0, a1, a2, a3, a4, a5, a6, a7, a8], t) :: bl) vs := by
  have := ((((((((h.set1 hne 0 a0).set1 hne 1 a1).set1 hne 2 a2).set1 hne 3 a3).set1 hne 4 a4).set1 hne 5 a5).set1 hne 6 a6).set1 hne 7 a7).set1 hne 8 a8
  simpa using this
/-- The run goes on at a place. -/
def FinZ (S : Rt.Src) (m : Nat) : Prop := (Rt.atM S m).fin = 0
/-- What onward says. -/
def OnP (P B : Nat) (S : Rt.Src) (cap : Int) (mk : List Bool) (X : McX) (jv : Value) (n low N : Nat) (w : World) (e : Ending) (w' : World) : Prop :=
  ∃ (k : Nat) (sv : Value) (vs : List VwT) (X' : McX) (jv' : Value), e = .returned (.tuple #[sv, .bool true]) ∧ k ≤ N ∧ (k < N → ¬ (Rt.atM S (n + k)).fin = 0) ∧ (∀ i, i < k → (Rt.atM S (n + i)).fin = 0) ∧ vs.length = k + 1 ∧ (∀ i (h : i < vs.length), vs[i].1 = n + i) ∧ UnI w w' P B S cap mk X jv (n + k) (Rt.lowJ S cap k n low) X' jv' [] vs ∧ w'.ownsRow w.heap.size 56 9 sv (k + 1) (vwsC S vs)
set_option maxHeartbeats 4000000 in
set_option maxRecDepth 100000 in
theorem onward_any (w : World) (P B : Nat) (S : Rt.Src) (cap : Int) (n low : Nat) (mk : List Bool) (X : McX) (jv : Value) (h : Sess w P B S cap n low mk X jv) (hc : Cst S cap mk) (N : Nat) (hN : N ≤ 301) (hn : n + 3000 ≤ 4611686018427386000) :
    Calls Tryz.prog 23 #[.pointer (some ⟨P, 0, none⟩), .int .i64 N] w (OnP P B S cap mk X jv n low N w) := by
  obtain ⟨j0, hj0, hy0, hy1, hy2⟩ := info_parts Tryz.infoVw
  have HI0 := hide (UnI.start h)
  have HC := hide hc
  clear h hc
  go_enter Tryz.func23, Tryz.ntmps23
  go_wp2_with fail
  refine ((unhide HI0).sess.look (unhide HC)).mono ?_
  rintro e w1 ⟨hb, va, vc, vo, rfl, hv⟩
  obtain ⟨xa1, xc1, xa2, xc2, xa3, xc3, rfl, rfl, rfl⟩ := hv.forms
  have HI1 := hide (((unhide HI0).later hb).view hv)
  clear hb hv HI0
  generalize (Rt.valuesL S (Rt.atM S n)).length = xy1 at *
  generalize (Rt.callsL (Rt.atM S n)).length = xy2 at *
  generalize (Rt.atM S n).output.length = xy3 at *
  have HV1 := hide (show vwA S n (.slice xa1 xy1 xc1) (.slice xa2 xy2 xc2) (.slice xa3 xy3 xc3) = #[.int .i64 0, .int .i64 0, .int .i64 (Rt.atM S n).fin, .int .i64 (Rt.atM S n).line, .int .i64 ((Rt.atM S n).frames.length : Int), .int .i64 (n : Int), .slice xa1 xy1 xc1, .slice xa2 xy2 xc2, .slice xa3 xy3 xc3] from rfl)
  rw [unhide HV1]
  go_wp2_with fail
  have hq := hide (And.intro (((unhide HI1).alloc #[.int .i64 0, .int .i64 0, .int .i64 (Rt.atM S n).fin, .int .i64 (Rt.atM S n).line, .int .i64 ((Rt.atM S n).frames.length : Int), .int .i64 (n : Int), .slice xa1 xy1 xc1, .slice xa2 xy2 xc2, .slice xa3 xy3 xc3] 56 outV2.1).later ((Below.refl _ _).alloc (Nat.le_refl _) (.cells #[.int .i64 0, .int .i64 0, .int .i64 (Rt.atM S n).fin, .int .i64 (Rt.atM S n).line, .int .i64 ((Rt.atM S n).frames.length : Int), .int .i64 (n : Int), .slice xa1 xy1 xc1, .slice xa2 xy2 xc2, .slice xa3 xy3 xc3] 56))) (And.intro (view_fresh (w1.alloc (.cells #[.int .i64 0, .int .i64 0, .int .i64 (Rt.atM S n).fin, .int .i64 (Rt.atM S n).line, .int .i64 ((Rt.atM S n).frames.length : Int), .int .i64 (n : Int), .slice xa1 xy1 xc1, .slice xa2 xy2 xc2, .slice xa3 xy3 xc3] 56)) (w1.heap.size + 1) #[.int .i64 0, .int .i64 0, .int .i64 (Rt.atM S n).fin, .int .i64 (Rt.atM S n).line, .int .i64 ((Rt.atM S n).frames.length : Int), .int .i64 (n : Int), .slice xa1 xy1 xc1, .slice xa2 xy2 xc2, .slice xa3 xy3 xc3] (by simp) rfl) (unhide HI1).aft.frm.size))
  have esz : (w1.alloc (.cells #[.int .i64 0, .int .i64 0, .int .i64 (Rt.atM S n).fin, .int .i64 (Rt.atM S n).line, .int .i64 ((Rt.atM S n).frames.length : Int), .int .i64 (n : Int), .slice xa1 xy1 xc1, .slice xa2 xy2 xc2, .slice xa3 xy3 xc3] 56)).heap.size = w1.heap.size + 1 := by simp
  rw [esz] at hq
  clear esz HI1
  revert hq
  generalize hWA : (w1.alloc (.cells #[.int .i64 0, .int .i64 0, .int .i64 (Rt.atM S n).fin, .int .i64 (Rt.atM S n).line, .int .i64 ((Rt.atM S n).frames.length : Int), .int .i64 (n : Int), .slice xa1 xy1 xc1, .slice xa2 xy2 xc2, .slice xa3 xy3 xc3] 56)).alloc (.cells #[.int .i64 0, .int .i64 0, .int .i64 (Rt.atM S n).fin, .int .i64 (Rt.atM S n).line, .int .i64 ((Rt.atM S n).frames.length : Int), .int .i64 (n : Int), .slice xa1 xy1 xc1, .slice xa2 xy2 xc2, .slice xa3 xy3 xc3] 56) = wA
  generalize w1.heap.size = V
  intro HI2
  clear hWA
  go_loopw [7, 8, 9, 10] (fun sv i _ _ wr => ∃ (k m : Nat) (vs : List VwT) (X' : McX) (jv' va vc vo : Value), k ≤ N ∧ i = .int .i64 k ∧ m = n + k ∧ UnI w wr P B S cap mk X jv m (Rt.lowJ S cap k n low) X' jv' [(V, vwA S m va vc vo, 56)] vs ∧ (∃ q1 r1 s1 q2 r2 s2 q3 r3 s3, va = .slice q1 r1 s1 ∧ vc = .slice q2 r2 s2 ∧ vo = .slice q3 r3 s3) ∧ vs.length = k + 1 ∧ (∀ i (h : i < vs.length), vs[i].1 = n + i) ∧ (∀ i, i < k → (Rt.atM S (n + i)).fin = 0) ∧ wr.ownsRow (V + 1) 56 9 sv (k + 1) (vwsC S vs))
    (fun _ i _ _ _ => N + 1 - (intOf i).toNat)
  case atStart =>
    refine ⟨0, n, _, X, jv, _, _, _, Nat.zero_le _, rfl, rfl, by rw [unhide HV1]; exact (unhide HI2).1, ⟨_, _, _, _, _, _, _, _, _, rfl, rfl, rfl⟩, rfl, ?_, fun i hi => by omega, ?_⟩
    · intro i hi
      simp at hi
      subst hi
      rfl
    · have := (unhide HI2).2.1
      rw [← unhide HV1] at this
      simpa [vwsC, vw1] using this
  case round =>
    obtain ⟨k, m, vs, X', jv', va, vc, vo, hk, rfl, hmE, hI, ⟨za1, zy1, zc1, za2, zy2, zc2, za3, zy3, zc3, rfl, rfl, rfl⟩, hvl, hvi, hrun, hrow⟩ := hrel
    have HVl := hide (And.intro (unhide HI2).2.2 (And.intro hvl (And.intro hvi (And.intro hrun hmE))))
    obtain ⟨sad, scap, rfl⟩ := ownsRow_form hrow
    have HX := hide (And.intro hI hrow)
    clear hI hrow hvl hvi hrun hmE HI2 HV1
    by_cases hlt : k < N
    · have hlt' : (k : Int) < (N : Int) := by omega
      have hmb : m + 2000 ≤ 4611686018427386000 := by have := (unhide HVl).2.2.2.2; omega
      by_cases hz : (Rt.atM S m).fin = 0
      · have HZ := hide (show FinZ S m from hz)
        obtain ⟨l0, hl0⟩ : ∃ f, f = (Rt.atM S m).line := ⟨_, rfl⟩
        obtain ⟨d0, hd0⟩ : ∃ f : Int, f = ((Rt.atM S m).frames.length : Int) := ⟨_, rfl⟩
        have HFd := hide ((unhide HX).1.sess.fwd1 (unhide HC) hz (by omega))
        have hw : IntKind.i64.wrap ((m : Int) + 1) = (m : Int) + 1 := by rw [IntWalk.i64_left, IntWalk.wrap64_in _ (by omega)]
        have HLo := hide (show Rt.lowF S cap m (Rt.lowJ S cap k n low) = Rt.lowJ S cap (k + 1) n low by
          rw [Rt.lowJ_more, (unhide HVl).2.2.2.2]; rfl)
        go_wp2_with fail
        refine (unhide HFd).mono ?_
        rintro e w4 ⟨rfl, X2, j2, hA, hok⟩
        have hI4 := (unhide HX).1.move hA hok
        rw [unhide HLo] at hI4
        have hr4 := SAft.rowV (unhide HX).1.aft.ses hA (unhide HX).2
        have hbV := (hI4.bls _ (List.mem_cons_self ..)).1
        have hbV2 : w4.heap[V]? = some (.cells #[.int .i64 0, .int .i64 0, .int .i64 0, .int .i64 l0, .int .i64 d0, .int .i64 (m : Int), .slice za1 zy1 zc1, .slice za2 zy2 zc2, .slice za3 zy3 zc3] 56 (0, 0)) := by rw [hl0, hd0]; have := hbV; unfold vwA vwC at this; rw [hz] at this; exact this
        obtain ⟨q0, q1, q2, q3, q4, q5, q6, q7, q8, qz⟩ := nine_any hbV2
        have hVw := block_lt hbV2
        unfold replyN
        generalize Rt.stepWhy S (m + 1) = rs at *
        obtain ⟨f4, hf4⟩ : ∃ f, f = (Rt.atM S (m + 1)).fin := ⟨_, rfl⟩
        obtain ⟨l4, hl4⟩ : ∃ f, f = (Rt.atM S (m + 1)).line := ⟨_, rfl⟩
        obtain ⟨d4, hd4⟩ : ∃ f : Int, f = ((Rt.atM S (m + 1)).frames.length : Int) := ⟨_, rfl⟩
        rw [← hf4, ← hl4, ← hd4]
        have hbA := (Below.refl w4.heap.size w4).alloc (Nat.le_refl _) (.cells #[.int .i64 rs, .int .i64 1, .int .i64 f4, .int .i64 l4, .int .i64 d4, .int .i64 ((m : Int) + 1)] 36)
        have HX4 := hide (And.intro (hI4.later hbA) (own_later hr4 hbA))
        clear hA hok hI4 hr4 hbV hbV2 hbA HFd hl0 hd0 HX hz hf4 hl4 hd4 HLo
        go_wp2_with fail
        refine ((unhide HX4).1.sess.look (unhide HC)).mono ?_
        rintro e w5 ⟨hb, va, vc, vo, rfl, hv⟩
        obtain ⟨ya1, yc1, ya2, yc2, ya3, yc3, rfl, rfl, rfl⟩ := hv.forms
        have hI5 := ((unhide HX4).1.later hb).view hv
        have hr5 := own_later (unhide HX4).2 hb
        generalize (Rt.valuesL S (Rt.atM S (m + 1))).length = yy1 at *
        generalize (Rt.callsL (Rt.atM S (m + 1))).length = yy2 at *
        generalize (Rt.atM S (m + 1)).output.length = yy3 at *
        obtain ⟨f5, hf5⟩ : ∃ f, f = (Rt.atM S (m + 1)).fin := ⟨_, rfl⟩
        obtain ⟨l5, hl5⟩ : ∃ f, f = (Rt.atM S (m + 1)).line := ⟨_, rfl⟩
        obtain ⟨d5, hd5⟩ : ∃ f : Int, f = ((Rt.atM S (m + 1)).frames.length : Int) := ⟨_, rfl⟩
        have hVY : vwA S (m + 1) (.slice ya1 yy1 yc1) (.slice ya2 yy2 yc2) (.slice ya3 yy3 yc3) = #[.int .i64 0, .int .i64 0, .int .i64 f5, .int .i64 l5, .int .i64 d5, .int .i64 ((m : Int) + 1), .slice ya1 yy1 yc1, .slice ya2 yy2 yc2, .slice ya3 yy3 yc3] := by rw [hf5, hl5, hd5]; rfl
        rw [hVY]
        have HVY := hide hVY
        have hbV := (hI5.bls _ (List.mem_cons_self ..)).1
        have hbV2 : w5.heap[V]? = some (.cells #[.int .i64 0, .int .i64 0, .int .i64 (Rt.atM S m).fin, .int .i64 (Rt.atM S m).line, .int .i64 ((Rt.atM S m).frames.length : Int), .int .i64 (m : Int), .slice za1 zy1 zc1, .slice za2 zy2 zc2, .slice za3 zy3 zc3] 56 (0, 0)) := hbV
        clear q0 q1 q2 q3 q4 q5 q6 q7 q8 qz hVw
        obtain ⟨q0, q1, q2, q3, q4, q5, q6, q7, q8, qz⟩ := nine_any hbV2
        have hVw := block_lt hbV2
        have hI6 := UnI.set9 (show UnI w w5 P B S cap mk X jv (m + 1) (Rt.lowJ S cap (k + 1) n low) X2 j2 [(V, #[.int .i64 0, .int .i64 0, .int .i64 (Rt.atM S m).fin, .int .i64 (Rt.atM S m).line, .int .i64 ((Rt.atM S m).frames.length : Int), .int .i64 (m : Int), .slice za1 zy1 zc1, .slice za2 zy2 zc2, .slice za3 zy3 zc3], 56)] _ from hI5) (fun _ h => by simp at h) (.int .i64 0) (.int .i64 0) (.int .i64 f5) (.int .i64 l5) (.int .i64 d5) (.int .i64 ((m : Int) + 1)) (.slice ya1 yy1 yc1) (.slice ya2 yy2 yc2) (.slice ya3 yy3 yc3)
        have hr6 := own_set9 hr5 (N := V) (fun q hq => by have := (hr5.lt q hq).1; omega) (.int .i64 0) (.int .i64 0) (.int .i64 f5) (.int .i64 l5) (.int .i64 d5) (.int .i64 ((m : Int) + 1)) (.slice ya1 yy1 yc1) (.slice ya2 yy2 yc2) (.slice ya3 yy3 yc3)
        rw [← hVY] at hI6
        have HX6 := hide hI6
        have hk301 : k ≤ 301 := by omega
        clear hb hv hI5 hr5 hbV hbV2 hVY hf5 hl5 hd5 hI6 HX4
        generalize (Rt.atM S m).fin = g0 at *
        generalize (Rt.atM S m).line = g1 at *
        generalize ((Rt.atM S m).frames.length : Int) = g2 at *
        go_upto_region 14 with fail
        revert hr6 HX6
        unfold W9
        generalize (((((((((w5.setCell ⟨V, 0, none⟩ (.int .i64 0)).setCell ⟨V, 1, none⟩ (.int .i64 0)).setCell ⟨V, 2, none⟩ (.int .i64 f5)).setCell ⟨V, 3, none⟩ (.int .i64 l5)).setCell ⟨V, 4, none⟩ (.int .i64 d5)).setCell ⟨V, 5, none⟩ (.int .i64 ((m : Int) + 1))).setCell ⟨V, 6, none⟩ (.slice ya1 yy1 yc1)).setCell ⟨V, 7, none⟩ (.slice ya2 yy2 yc2)).setCell ⟨V, 8, none⟩ (.slice ya3 yy3 yc3)) = wS
        intro hr6 HX6
        have hbS := ((unhide HX6).bls _ (List.mem_cons_self ..)).1
        rw [unhide HVY] at hbS
        clear q0 q1 q2 q3 q4 q5 q6 q7 q8 qz hVw
        obtain ⟨q0, q1, q2, q3, q4, q5, q6, q7, q8, qz⟩ := nine_any hbS
        have hVw := block_lt hbS
        clear hbS
        go_wp2_with (at_builtin; refine wpList_append_lies _ rfl _ _ 52 rfl (V + 1) 56 j0 _ 9 120 Tryz.underlying52 hj0 hy0 hy1 hy2 rfl (by decide) _ (k + 1) _ rfl (hr6.alloc _) ⟨_, 0, none⟩ 1 1 [.int .i64 0, .int .i64 0, .int .i64 f5, .int .i64 l5, .int .i64 d5, .int .i64 ((m : Int) + 1), .slice ya1 yy1 yc1, .slice ya2 yy2 yc2, .slice ya3 yy3 yc3] rfl rfl (World.news_of_block (cs := #[.int .i64 0, .int .i64 0, .int .i64 f5, .int .i64 l5, .int .i64 d5, .int .i64 ((m : Int) + 1), .slice ya1 yy1 yc1, .slice ya2 yy2 yc2, .slice ya3 yy3 yc3]) (t := 56) (fr := (0, 0)) (heap_alloc_new _ _)) (by simp [Value.oneCell']) (by omega) (by unfold maxLen; omega) (by omega) (by simp; omega) (wS.heap.size + 1) (by simp) ?_)
        intro g' cap' w6 hown4 hgrow _ _
        have hI7 := (unhide HX6).append hr6 (by have := (unhide HVl).1; omega) (fun b hb => by simp at hb; rw [hb]; show V < V + 1; omega) hgrow
        have hI8 := hI7.fewer (vs' := vs ++ [(m + 1, .slice ya1 yy1 yc1, .slice ya2 yy2 yc2, .slice ya3 yy3 yc3)]) (fun b h => h) (fun v h => by simp at h ⊢; rcases h with h | h; exact Or.inr h; exact Or.inl h)
        have hrow : w6.ownsRow (V + 1) 56 9 (.slice (some ⟨g', 0, none⟩) (k + 1 + 1) cap') (k + 1 + 1) (vwsC S (vs ++ [(m + 1, .slice ya1 yy1 yc1, .slice ya2 yy2 yc2, .slice ya3 yy3 yc3)])) := by
          rw [vwsC_snoc]
          have e : vw1 S (m + 1, .slice ya1 yy1 yc1, .slice ya2 yy2 yc2, .slice ya3 yy3 yc3) = [.int .i64 0, .int .i64 0, .int .i64 f5, .int .i64 l5, .int .i64 d5, .int .i64 ((m : Int) + 1), .slice ya1 yy1 yc1, .slice ya2 yy2 yc2, .slice ya3 yy3 yc3] := by
            unfold vw1
            rw [unhide HVY]
          rw [e]
          exact hown4
        have HX8 := hide (And.intro hI8 hrow)
        clear hown4 hgrow hI7 hI8 hrow hr6 HX6 q0 q1 q2 q3 q4 q5 q6 q7 q8 qz hVw
        go_wp2_with fail
        go_roundw
        case rel =>
          obtain ⟨g1, g2, g3, g4, g5⟩ := unhide HVl
          refine ⟨k + 1, m + 1, vs ++ [(m + 1, .slice ya1 yy1 yc1, .slice ya2 yy2 yc2, .slice ya3 yy3 yc3)], X2, j2, _, _, _, by omega, by go_num, by omega, (unhide HX8).1, ⟨_, _, _, _, _, _, _, _, _, rfl, rfl, rfl⟩, by rw [List.length_append, g2]; rfl, ?_, ?_, (unhide HX8).2⟩
          · intro i hi
            by_cases hl : i < vs.length
            · rw [List.getElem_append_left hl]
              exact g3 i hl
            · have he : i = vs.length := by simp at hi; omega
              subst he
              rw [List.getElem_append_right (Nat.le_refl _)]
              simp
              omega
          · intro i hi
            by_cases hl : i < k
            · exact g4 i hl
            · have he : n + i = m := by omega
              rw [he]
              exact unhide HZ
        case measure => simp [intOf]; omega
      · have HZ := hide hz
        obtain ⟨f0, hf0⟩ : ∃ f, f = (Rt.atM S m).fin := ⟨_, rfl⟩
        obtain ⟨l0, hl0⟩ : ∃ f, f = (Rt.atM S m).line := ⟨_, rfl⟩
        obtain ⟨d0, hd0⟩ : ∃ f : Int, f = ((Rt.atM S m).frames.length : Int) := ⟨_, rfl⟩
        have hz' : (f0 != 0) = true := by rw [hf0]; simpa using hz
        have HFd := hide ((unhide HX).1.sess.fwd1_ended (unhide HC) hz (by omega))
        clear hz
        go_wp2_with fail
        refine (unhide HFd).mono ?_
        rintro e w4 ⟨rfl, X2, j2, hA, hok⟩
        have hI4 := (unhide HX).1.move hA hok
        have hr4 := SAft.rowV (unhide HX).1.aft.ses hA (unhide HX).2
        have hbV := (hI4.bls _ (List.mem_cons_self ..)).1
        have hbV2 : w4.heap[V]? = some (.cells #[.int .i64 0, .int .i64 0, .int .i64 f0, .int .i64 l0, .int .i64 d0, .int .i64 (m : Int), .slice za1 zy1 zc1, .slice za2 zy2 zc2, .slice za3 zy3 zc3] 56 (0, 0)) := by rw [hf0, hl0, hd0]; exact hbV
        obtain ⟨q0, q1, q2, q3, q4, q5, q6, q7, q8, qz⟩ := nine_any hbV2
        have hVw := block_lt hbV2
        unfold replyN
        rw [← hf0, ← hl0, ← hd0]
        have hbA := (Below.refl w4.heap.size w4).alloc (Nat.le_refl _) (.cells #[.int .i64 3, .int .i64 0, .int .i64 f0, .int .i64 l0, .int .i64 d0, .int .i64 (m : Int)] 36)
        have HX4 := hide (And.intro ((hI4.later hbA).fewer (bl' := []) (fun _ h => by simp at h) (fun v h => h)) (own_later hr4 hbA))
        clear hA hok hI4 hr4 hbV hbV2 hbA HFd hf0 hl0 hd0 HX
        go_wp2_with fail
        go_quiet (fail)
        go_wp2_with fail
        refine bodyPost_ret (v := .tuple #[.slice sad (k + 1) scap, .bool true]) ?_ rfl ?_
        · simp [results, Tryz.results23, go_sem]
        · obtain ⟨g1, g2, g3, g4, g5⟩ := unhide HVl
          refine ⟨k, _, vs, X2, j2, rfl, hk, fun _ => by rw [← g5]; exact unhide HZ, g4, g2, g3, by rw [← g5]; exact (unhide HX4).1.later (below_drewN _ _), ownsRow_mono (own_later (unhide HX4).2 (below_drewN _ _)) (by omega)⟩
    · have hlt' : ¬ (k : Int) < (N : Int) := by omega
      go_wp2_with fail
      refine bodyPost_ret (v := .tuple #[.slice sad (k + 1) scap, .bool true]) ?_ rfl ?_
      · simp [results, Tryz.results23, go_sem]
      · obtain ⟨g1, g2, g3, g4, g5⟩ := unhide HVl
        refine ⟨k, _, vs, X', jv', rfl, hk, fun h => absurd h hlt, g4, g2, g3, by rw [← g5]; exact (unhide HX).1.fewer (fun _ h => by simp at h) (fun v h => h), ownsRow_mono (unhide HX).2 (by omega)⟩
end Go.Proofs.YtbpajiljfppjcaaGreatDoor

