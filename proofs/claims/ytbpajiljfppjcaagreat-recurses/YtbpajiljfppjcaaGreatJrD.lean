/- The journal: the last step is withdrawn. -/
import Derived.Test.YtbpajiljfppjcaaGreatSsB
import Derived.Test.YtbpajiljfppjcaaGreatJrC
namespace Go.Proofs.YtbpajiljfppjcaaGreat
open Go.RowKit
attribute [local go_sem ↓] Go.wp_at_zero Go.wp_at_succ

namespace Rt
/-- A move forward, from where so many steps have been made: the session, the steps, the reason. -/
def fwdRun (S : Src) (cap kind fuel d0 : Int) : Nat → Se → Nat → Se × Nat × Int
  | 0, s, k => (s, k, 4)
  | f + 1, s, k => if fwdEnds s kind fuel d0 k = 0 then fwdRun S cap kind fuel d0 f (seStep S cap s) (k + 1) else (s, k, fwdEnds s kind fuel d0 k)
theorem jnL_len (cap : Int) : ∀ (f : Nat) (rs : List Rec) (low : Int), rs.length ≤ f → 0 ≤ cap → ((jnL cap f rs low).1.length : Int) ≤ cap
  | 0, rs, low, h, hc => by
    have : rs.length = 0 := by omega
    rw [jnL]
    show (rs.length : Int) ≤ cap
    omega
  | f + 1, rs, low, h, hc => by
    rw [jnL]
    split
    · next hh =>
      have := earliest_pos hh.2
      exact jnL_len cap f _ _ (by rw [List.length_drop]; omega) hc
    · next hh =>
      show (rs.length : Int) ≤ cap
      omega
theorem joinR_len (cap : Int) (rs : List Rec) (low : Int) (hc : 0 ≤ cap) : ((joinR cap rs low).1.length : Int) ≤ cap := jnL_len cap rs.length rs low (Nat.le_refl _) hc
theorem fwdEnds_zero {s : Se} {kind fuel d0 mv : Int} (h : fwdEnds s kind fuel d0 mv = 0) : s.m.fin = 0 ∧ mv < fuel := by
  unfold fwdEnds at h
  split at h
  · omega
  · next hz =>
    split at h
    · omega
    · next hn => exact ⟨Decidable.not_not.mp hz, by omega⟩
end Rt
/-- What a session keeps to. -/
structure KeepS (S : Rt.Src) (cap : Int) (s : Rt.Se) : Prop where
  g : KeepG S s.m
  p : Par4 s.m
  r : (s.recs.length : Int) ≤ cap
  ms : s.marks.length = 101
theorem seStep_keep {S : Rt.Src} {cap : Int} {s : Rt.Se} (hS : Good S) (h4 : Call4 S) (hc : 0 ≤ cap) (h : KeepS S cap s) : KeepS S cap (Rt.seStep S cap s) :=
  ⟨step_keepG hS h.g, (step_par4 h4 h.p).1, Rt.joinR_len cap _ _ hc, h.ms⟩
/-- What Forward says. -/
def FwdP (P B : Nat) (S : Rt.Src) (cap : Int) (X : McX) (jv : Value) (r : Rt.Se × Nat × Int) (w : World) (e : Ending) (w' : World) : Prop :=
  ∃ X' jv', e = .returned (.tuple #[.agg (replyA r.2.2 r.2.1 r.1), .int .i64 0]) ∧ SAft P B S cap X X' jv jv' r.1 w w'
/-- The types of blocks that a session does not write. -/
def OutTy (t : TypeId) : Prop := ¬ PTy t ∧ t ≠ 3 ∧ t ≠ 68 ∧ t ≠ 24 ∧ t ≠ 87
theorem SAft.keeps {w w' : World} {P B : Nat} {S : Rt.Src} {cap : Int} {s s' : Rt.Se} {X X' : McX} {jv jv' : Value} (h0 : SesS w P B S cap s X jv) (h : SAft P B S cap X X' jv jv' s' w w') {N : Nat} {c : Array Value} {t : TypeId} (hN : w.heap[N]? = some (.cells c t (0, 0))) (hne : N ≠ P) (ht : OutTy t) : w'.heap[N]? = some (.cells c t (0, 0)) := by
  refine (h.frm.block N (block_lt hN) (fun hk => ?_) (fun e => ?_)).trans hN
  · rcases List.mem_cons.mp hk with hk | hk
    · exact hne hk
    · rw [← h0.mc.blks] at hk
      exact rows_not h0.mc.own hN ⟨ht.2.1, ht.2.2.1, ht.2.2.2.1⟩ hk
  · obtain ⟨c', hc⟩ := own_blk h0.jr e
    rw [hN] at hc
    injection hc with hc
    injection hc with _ hc
    exact ht.2.2.2.2 hc
/-- A store into a block that is none of the session's. -/
theorem SesS.other {w : World} {P B : Nat} {S : Rt.Src} {cap : Int} {s : Rt.Se} {X : McX} {jv : Value} (h : SesS w P B S cap s X jv) {N : Nat} {c : Array Value} {t : TypeId} (hN : w.heap[N]? = some (.cells c t (0, 0))) (hne : N ≠ P) (ht : OutTy t) (i : Nat) (v : Value) : SesS (w.setCell ⟨N, i, none⟩ v) P B S cap s X jv := by
  have hot : ∀ k, k ≠ N → (w.setCell ⟨N, i, none⟩ v).heap[k]? = w.heap[k]? := fun k hk => Below.heap_setCell w ⟨N, i, none⟩ v k hk
  refine ⟨h.mc.next (by rw [hot P (Ne.symm hne)]; exact h.mc.block) (by simp [World.setCell]) ?_ ⟨fun r hr => own_same (h.mc.own.rows r hr) (fun g hg => hot g (fun e => ?_)), h.mc.own.apart⟩ rfl rfl h.mc.fl h.mc.vl, own_same h.jr (fun g hg => hot g (fun e => ?_))⟩
  · intro k x hx _ hp
    rw [hot k (fun e => by
      rw [e, hN] at hx
      injection hx with hx
      obtain ⟨c', t', e2, hp⟩ := hp
      rw [← hx] at e2
      injection e2 with _ e2
      rw [← e2] at hp
      exact ht.1 hp)]
    exact hx
  · obtain ⟨c', hc⟩ := own_blk (h.mc.own.rows r hr) hg
    rw [e, hN] at hc
    injection hc with hc
    injection hc with _ hc
    have h3 := rows_ty3 hr
    rw [← hc] at h3
    rcases h3 with e | e | e
    · exact ht.2.1 e
    · exact ht.2.2.1 e
    · exact ht.2.2.2.1 e
  · obtain ⟨c', hc⟩ := own_blk h.jr hg
    rw [e, hN] at hc
    injection hc with hc
    injection hc with _ hc
    exact ht.2.2.2.2 hc
theorem SAft.other {w w' : World} {P B : Nat} {S : Rt.Src} {cap : Int} {s' : Rt.Se} {X X' : McX} {jv jv' : Value} (h : SAft P B S cap X X' jv jv' s' w w') {N : Nat} {c : Array Value} {t : TypeId} (hN : w'.heap[N]? = some (.cells c t (0, 0))) (hle : w.heap.size ≤ N) (ht : OutTy t) (i : Nat) (v : Value) : SAft P B S cap X X' jv jv' s' w (w'.setCell ⟨N, i, none⟩ v) :=
  ⟨h.ses.other hN (by have := h.lt; omega) ht i v, ⟨h.frm.os, h.frm.tape, h.frm.output, Nat.le_trans h.frm.size (by simp [World.setCell]), fun k hk hn hv => by rw [Below.heap_setCell w' ⟨N, i, none⟩ v k (by show k ≠ N; omega)]; exact h.frm.block k hk hn hv⟩, h.grow, h.jg, h.lt⟩
theorem SAft.six {w w' : World} {P B : Nat} {S : Rt.Src} {cap : Int} {s' : Rt.Se} {X X' : McX} {jv jv' : Value} (h : SAft P B S cap X X' jv jv' s' w w') {N : Nat} {cs : Array Value} {t : TypeId} (hN : w'.heap[N]? = some (.cells cs t (0, 0))) (hle : w.heap.size ≤ N) (ht : OutTy t) (a b c x y q : Value) : SAft P B S cap X X' jv jv' s' w (W6 w' N a b c x y q) := by
  have n1 := set_block hN 0 a
  have n2 := set_block n1 1 b
  have n3 := set_block n2 2 c
  have n4 := set_block n3 3 x
  have n5 := set_block n4 4 y
  exact (((((h.other hN hle ht 0 a).other n1 hle ht 1 b).other n2 hle ht 2 c).other n3 hle ht 3 x).other n4 hle ht 4 y).other n5 hle ht 5 q
theorem SAft.below {w w1 w2 : World} {P B : Nat} {S : Rt.Src} {cap : Int} {s' : Rt.Se} {X X' : McX} {jv jv' : Value} (h : SAft P B S cap X X' jv jv' s' w w1) (hb : Below w1.heap.size w1 w2) : SAft P B S cap X X' jv jv' s' w w2 := h.trans (SAft.start h.ses hb)
/-- How many steps a move has made. -/
def mvAt (w : World) (N : Nat) : Nat := match w.cell? ⟨N, 3, none⟩ with
  | some (.int _ k) => k.toNat
  | _ => 0
set_option maxHeartbeats 1000000 in
set_option maxRecDepth 100000 in
theorem forward_any (w : World) (P B : Nat) (S : Rt.Src) (cap : Int) (s : Rt.Se) (X : McX) (jv : Value) (h : SesS w P B S cap s X jv) (hS : Good S) (h4 : Call4 S) (hc : 0 ≤ cap ∧ cap ≤ 500) (hk : KeepS S cap s) (kind : Int) (fuel : Nat) (hkd : 0 ≤ kind ∧ kind ≤ 3) (hfu : fuel ≤ 1000) :
    Calls Tryz.prog 5 #[.pointer (some ⟨P, 0, none⟩), .int .i64 kind, .int .i64 fuel] w (FwdP P B S cap X jv (Rt.fwdRun S cap kind fuel s.m.frames.length (fuel + 1) s 0) w) := by
  have hPlt := block_lt h.mc.block
  have HH := hide (And.intro h (And.intro hS (And.intro h4 hk)))
  clear h hS h4 hk
  go_enter Tryz.func5, Tryz.ntmps5
  go_wp2_with fail
  refine (refuse_any kind fuel _ hkd (by omega)).mono ?_
  rintro e w0 ⟨rfl, rfl⟩
  go_wp2_with fail
  have hbZ := (Below.refl w.heap.size w).alloc (Nat.le_refl _) (.cells #[.int .i64 0, .int .i64 0, .int .i64 0, .int .i64 0, .int .i64 0, .int .i64 0] 26)
  refine (depth_any _ P B _ _ S s.m X ((unhide HH).1.mc.later hbZ)).mono ?_
  rintro e w0 ⟨rfl, rfl⟩
  generalize hd : (s.m.frames.length : Int) = d at *
  have HD := hide hd
  clear hd
  go_wp2_with fail
  have hbA := hbZ.alloc (by simp) (.cells (mvA kind fuel d 0) 52)
  have bR := block_alloc (heap_alloc_new w (.cells #[.int .i64 0, .int .i64 0, .int .i64 0, .int .i64 0, .int .i64 0, .int .i64 0] 26)) (.cells (mvA kind fuel d 0) 52)
  have bM := alloc2_plain w (.cells #[.int .i64 0, .int .i64 0, .int .i64 0, .int .i64 0, .int .i64 0, .int .i64 0] 26) (.cells (mvA kind fuel d 0) 52)
  refine (forwardEnds_any _ P B S cap s X jv ((unhide HH).1.later hbA) (unhide HH).2.2.2.ms kind fuel d 0).mono ?_
  rintro e w1 ⟨rfl, hb1⟩
  have HA := hide (And.intro (SAft.start (unhide HH).1 (hbA.trans (hb1.mono (B' := w.heap.size) (by simp; omega)))) (And.intro (block_later bR hb1) (block_later bM hb1)))
  clear hbZ hbA bR bM hb1
  go_wp2_with fail
  go_loopw [10] (fun rv wr => ∃ (k : Nat) (s' : Rt.Se) (X' : McX) (jv' : Value), k ≤ fuel ∧ rv = .int .i64 (Rt.fwdEnds s' kind fuel d k) ∧ wr.heap[w.heap.size]? = some (.cells #[.int .i64 0, .int .i64 0, .int .i64 0, .int .i64 0, .int .i64 0, .int .i64 0] 26 (0, 0)) ∧ wr.heap[w.heap.size + 1]? = some (.cells (mvA kind fuel d k) 52 (0, 0)) ∧ SAft P B S cap X X' jv jv' s' w wr ∧ KeepS S cap s' ∧ Rt.fwdRun S cap kind fuel d (fuel + 1 - k) s' k = Rt.fwdRun S cap kind fuel d (fuel + 1) s 0) (fun _ wr => fuel + 1 - mvAt wr (w.heap.size + 1))
  case atStart => exact ⟨0, s, X, jv, Nat.zero_le _, rfl, (unhide HA).2.1, (unhide HA).2.2, (unhide HA).1, (unhide HH).2.2.2, rfl⟩
  case round =>
    obtain ⟨k, s', X', jv', hk, rfl, bR, bM, hA, hks, hrun⟩ := hrel
    have m3 : wr.cell? ⟨w.heap.size + 1, 3, none⟩ = some (.int .i64 (k : Int)) := by have := cell_of_block bM 3 (by simp); simpa using this
    have f3 := free_of_block bM 3
    have HM := hide (show mvAt wr (w.heap.size + 1) = k by unfold mvAt; rw [m3]; simp)
    have HX := hide (And.intro bR (And.intro bM (And.intro hA (And.intro hks hrun))))
    have hRl := block_lt bR
    have hMl := block_lt bM
    clear bR bM hA hks hrun HA
    by_cases hz : Rt.fwdEnds s' kind fuel d k = 0
    · have hz' : (Rt.fwdEnds s' kind fuel d k == 0) = true := by simpa using hz
      obtain ⟨hfin, hlt⟩ := Rt.fwdEnds_zero hz
      have HN := hide (show Rt.fwdRun S cap kind fuel d (fuel + 1 - (k + 1)) (Rt.seStep S cap s') (k + 1) = Rt.fwdRun S cap kind fuel d (fuel + 1) s 0 by
        rw [← (unhide HX).2.2.2.2, show fuel + 1 - k = (fuel + 1 - (k + 1)) + 1 by omega, Rt.fwdRun, if_pos hz])
      clear hz
      go_wp2_with fail
      obtain ⟨bR, bM, hA, hks, hrun⟩ := unhide HX
      obtain ⟨_, hS, h4, _⟩ := unhide HH
      refine (makeStep_any wr P B S cap s' X' jv' hA.ses hS hks.g h4 hks.p hfin (by have := hks.r; omega)).mono ?_
      rintro e w2 ⟨rfl, X2, jv2, hA2⟩
      have bR2 := SAft.keeps hA.ses hA2 bR (by omega) (by unfold OutTy PTy; decide)
      have bM2 := SAft.keeps hA.ses hA2 bM (by omega) (by unfold OutTy PTy; decide)
      have hA3 := (hA.trans hA2).other bM2 (by omega) (by unfold OutTy PTy; decide) 3 (.int .i64 ((k : Int) + 1))
      have bM3 : (w2.setCell ⟨w.heap.size + 1, 3, none⟩ (.int .i64 ((k : Int) + 1))).heap[w.heap.size + 1]? = some (.cells (mvA kind fuel d ((k : Int) + 1)) 52 (0, 0)) := by
        have := set_block bM2 3 (.int .i64 ((k : Int) + 1))
        simpa using this
      have bR3 : (w2.setCell ⟨w.heap.size + 1, 3, none⟩ (.int .i64 ((k : Int) + 1))).heap[w.heap.size]? = some (.cells #[.int .i64 0, .int .i64 0, .int .i64 0, .int .i64 0, .int .i64 0, .int .i64 0] 26 (0, 0)) := (Below.heap_setCell w2 ⟨w.heap.size + 1, 3, none⟩ _ _ (by show w.heap.size ≠ w.heap.size + 1; omega)).trans bR2
      have hks3 := seStep_keep hS h4 hc.1 hks
      have HY := hide (And.intro hA3 (And.intro bM3 (And.intro bR3 hks3)))
      have n0 : w2.cell? ⟨w.heap.size + 1, 0, none⟩ = some (.int .i64 kind) := by have := cell_of_block bM2 0 (by simp); simpa using this
      have n1 : w2.cell? ⟨w.heap.size + 1, 1, none⟩ = some (.int .i64 (fuel : Int)) := by have := cell_of_block bM2 1 (by simp); simpa using this
      have n2 : w2.cell? ⟨w.heap.size + 1, 2, none⟩ = some (.int .i64 d) := by have := cell_of_block bM2 2 (by simp); simpa using this
      have n3 : w2.cell? ⟨w.heap.size + 1, 3, none⟩ = some (.int .i64 (k : Int)) := by have := cell_of_block bM2 3 (by simp); simpa using this
      have g3 := free_of_block bM2 3
      have hw3 : wrap64 ((k : Int) + 1) = (k : Int) + 1 := IntWalk.wrap64_in _ (by omega)
      have hw4 : IntKind.i64.wrap ((k : Int) + 1) = (k : Int) + 1 := by rw [IntWalk.i64_left, IntWalk.wrap64_in _ (by omega)]
      clear bR bM hA hks hrun hA2 bR2 bM2 hA3 bM3 bR3 hks3 m3 f3
      go_wp2_with fail
      refine (forwardEnds_any _ P B S cap (Rt.seStep S cap s') X2 jv2 (unhide HY).1.ses (unhide HY).2.2.2.ms kind fuel d ((k : Int) + 1)).mono ?_
      rintro e w4 ⟨rfl, hb4⟩
      have bM4 := block_later (unhide HY).2.1 hb4
      have m34 : w4.cell? ⟨w.heap.size + 1, 3, none⟩ = some (.int .i64 ((k : Int) + 1)) := by have := cell_of_block bM4 3 (by simp); simpa using this
      have HM4 := hide (show mvAt w4 (w.heap.size + 1) = k + 1 by unfold mvAt; rw [m34]; show ((k : Int) + 1).toNat = k + 1; omega)
      have HZ := hide (And.intro ((unhide HY).1.below hb4) (And.intro bM4 (block_later (unhide HY).2.2.1 hb4)))
      clear hb4 bM4 m34 n0 n1 n2 n3 g3
      go_wp2_with fail
      go_roundw
      case rel => exact ⟨k + 1, _, X2, jv2, by omega, rfl, (unhide HZ).2.2, (unhide HZ).2.1, (unhide HZ).1, (unhide HY).2.2.2, unhide HN⟩
      case measure =>
        show fuel + 1 - mvAt w4 (w.heap.size + 1) < fuel + 1 - mvAt wr (w.heap.size + 1)
        rw [unhide HM, unhide HM4]
        omega
    · have hz' : (Rt.fwdEnds s' kind fuel d k == 0) = false := by simpa using hz
      have HE := hide (show Rt.fwdRun S cap kind fuel d (fuel + 1) s 0 = (s', k, Rt.fwdEnds s' kind fuel d k) by
        rw [← (unhide HX).2.2.2.2, show fuel + 1 - k = (fuel - k) + 1 by omega, Rt.fwdRun, if_neg hz])
      clear hz
      obtain ⟨bR, bM, hA, hks, hrun⟩ := unhide HX
      have n0 : wr.cell? ⟨w.heap.size + 1, 0, none⟩ = some (.int .i64 kind) := by have := cell_of_block bM 0 (by simp); simpa using this
      have n1 : wr.cell? ⟨w.heap.size + 1, 1, none⟩ = some (.int .i64 (fuel : Int)) := by have := cell_of_block bM 1 (by simp); simpa using this
      have n2 : wr.cell? ⟨w.heap.size + 1, 2, none⟩ = some (.int .i64 d) := by have := cell_of_block bM 2 (by simp); simpa using this
      clear bR bM hA hks hrun
      generalize hrs : Rt.fwdEnds s' kind fuel d k = rs at *
      clear hrs
      go_wp2_with fail
      obtain ⟨bR, bM, hA, _, _⟩ := unhide HX
      refine (reply_any wr P B S cap s' X' jv' hA.ses kind fuel d k rs).mono ?_
      rintro e w3 ⟨rfl, hb3⟩
      have bR3 := block_later bR hb3
      have hA3 := hA.below hb3
      obtain ⟨y0, y1, y2, y3, y4, y5, z⟩ := six_any bR3
      have HF := hide (fun a b c x y q => SAft.six hA3 bR3 (Nat.le_refl _) (by unfold OutTy PTy; decide) a b c x y q)
      clear bR bM hA hb3 bR3 hA3 n0 n1 n2 m3
      go_wp2_with fail
      refine bodyPost_ret (v := .tuple #[.agg (replyA rs k s'), .int .i64 0]) ?_ rfl ⟨_, _, by rw [unhide HE], by rw [unhide HE]; exact unhide HF _ _ _ _ _ _⟩
      simp [results, Tryz.results5, go_sem, y0, y1, y2, y3, y4, y5]
end Go.Proofs.YtbpajiljfppjcaaGreat

namespace Go.Proofs.YtbpajiljfppjcaaGreat
open Go.RowKit
attribute [local go_sem ↓] Go.wp_at_zero Go.wp_at_succ

namespace Rt
/-- Where the last step begins, looked for from a record on. -/
def lastFrom (rs : List Rec) : Nat → Nat
  | 0 => 0
  | k + 1 => match rs[k + 1]? with
    | some r => if begins r = true then k + 1 else lastFrom rs k
    | none => lastFrom rs k
/-- Where the last step begins. -/
def lastAt (rs : List Rec) : Nat := lastFrom rs (rs.length - 1)
theorem lastFrom_le (rs : List Rec) : ∀ k, lastFrom rs k ≤ k
  | 0 => Nat.le_refl _
  | k + 1 => by
    have := lastFrom_le rs k
    unfold lastFrom
    split
    · split <;> omega
    · omega
end Rt
/-- What Withdraw says. -/
def WdrP (P : Nat) (ty : TypeId) (cs : Array Value) (cap : Int) (rs : List Rt.Rec) (low : Int) (jv : Value) (w : World) (e : Ending) (w' : World) : Prop :=
  ∃ jv' v, e = .returned v ∧ JrS w' P ty (cs.setIfInBounds 9 jv') cap (rs.take (Rt.lastAt rs)) low jv' ∧ JFr P jv w w' ∧ jv'.ownBlock = jv.ownBlock ∧ w'.ownsRow w.heap.size 87 5 v (rs.drop (Rt.lastAt rs)).length (recsCells (rs.drop (Rt.lastAt rs)))
theorem recs_take (rs : List Rt.Rec) (k : Nat) : recsCells rs = recsCells (rs.take k) ++ recsCells (rs.drop k) := by
  rw [← recsCells_app, List.take_append_drop]
/-- The rest of a row of records, as news. -/
theorem recs_news {w : World} {B g n cap : Nat} {rs : List Rt.Rec} (h : w.ownsRow B 87 5 (.slice (some ⟨g, 0, none⟩) n cap) n (recsCells rs)) (k : Nat) (hk : k ≤ rs.length) (j : Nat) (u : Value) (hu : (recsCells (rs.drop k))[j]? = some u) : w.cell? ((⟨g, k * 5, none⟩ : Addr).add j) = some u := by
  obtain ⟨g', c', he, _, _, hc⟩ := own_cell h (j := k * 5 + j) (u := u) (by
    rw [recs_take rs k, List.getElem?_append_right (by rw [recsCells_len, List.length_take]; omega), recsCells_len, List.length_take, Nat.min_eq_left hk, Nat.add_sub_cancel_left]
    exact hu)
  simp at he
  obtain ⟨rfl, rfl⟩ := he
  rw [show (⟨g, k * 5, none⟩ : Addr).add j = ⟨g, k * 5 + j, none⟩ by unfold Addr.add; split <;> simp_all]
  exact hc
theorem recs_one (st : List Rt.Rec) : ∀ u ∈ recsCells st, u.oneCell' = true := fun u hu => by
  obtain ⟨r, _, hr⟩ := List.mem_flatMap.mp hu
  simp [Rt.recCells] at hr
  rcases hr with rfl | rfl | rfl | rfl | rfl <;> rfl
/-- The end of Withdraw, whatever led to it. -/
theorem wdr_end {w wr w1 : World} {P : Nat} {ty : TypeId} {cs : Array Value} {cap low : Int} {rs : List Rt.Rec} {g jcap k : Nat} (hP : P < w.heap.size) (h : JrS wr P ty cs cap rs low (.slice (some ⟨g, 0, none⟩) rs.length jcap)) (hb : Below w.heap.size w wr) (hk : k < rs.length) (hla : Rt.lastAt rs = k) {g1 cap1 : Nat} (hown : w1.ownsRow w.heap.size 87 5 (.slice (some ⟨g1, 0, none⟩) (rs.length - k) cap1) (rs.length - k) (recsCells (rs.drop k))) (hg : wr.grownBy w1 none) :
    WdrP P ty cs cap rs low (.slice (some ⟨g, 0, none⟩) rs.length jcap) w (.returned (.slice (some ⟨g1, 0, none⟩) (rs.length - k) cap1)) (w1.setCell ⟨P, 9, none⟩ (.slice (some ⟨g, 0, none⟩) k jcap)) ∧ w1.cell? ⟨P, 9, none⟩ = some (.slice (some ⟨g, 0, none⟩) rs.length jcap) ∧ w1.frozen? ⟨P, 9, none⟩ = false := by
  have hb1 : Below wr.heap.size wr w1 := ⟨hg.os, hg.tape, hg.output, hg.size, fun k hk => hg.block k hk (by simp)⟩
  have h1 := h.later hb1
  have hcut := own_cut (n' := k) (a := recsCells (rs.take k)) (b := recsCells (rs.drop k)) (by rw [← recs_take]; exact h1.own) (by omega) (by rw [recsCells_len, List.length_take, Nat.min_eq_left (by omega)])
  have hsz : 10 < cs.size := (Array.getElem?_eq_some_iff.mp h.c10).1
  have hne : ∀ q, (Value.slice (some ⟨g, 0, none⟩) k jcap).ownBlock = some q → q ≠ P := fun q hq e => h1.ne (by rw [← e]; exact hq)
  have hne1 : ∀ q, (Value.slice (some ⟨g1, 0, none⟩) (rs.length - k) cap1).ownBlock = some q → q ≠ P := fun q hq e => by
    have := (hown.lt q hq).1
    omega
  have hbw := hb.trans (hb1.mono (B' := w.heap.size) hb.size)
  refine ⟨⟨.slice (some ⟨g, 0, none⟩) k jcap, _, rfl, ⟨set_block h1.block 9 _, ?_, ?_, ?_, ?_, h.ty⟩, ⟨hbw.os, hbw.tape, hbw.output, Nat.le_trans hbw.size (by simp [World.setCell]), fun q hq hp _ => ?_⟩, rfl, ?_⟩, h1.k9, h1.fz 9⟩
  · rw [Array.getElem?_setIfInBounds_ne (by omega)]; exact h.c8
  · rw [Array.getElem?_setIfInBounds_self_of_lt (by omega)]
  · rw [Array.getElem?_setIfInBounds_ne (by omega)]; exact h.c10
  · rw [hla, List.length_take, Nat.min_eq_left (by omega)]
    exact own_same hcut (fun q hq => Below.heap_setCell _ _ _ _ (hne q hq))
  · rw [Below.heap_setCell _ _ _ _ hp]; exact hbw.block q hq
  · rw [hla, List.length_drop]
    exact own_same hown (fun q hq => Below.heap_setCell _ _ _ _ (hne1 q hq))
set_option maxHeartbeats 1000000 in
set_option maxRecDepth 100000 in
theorem withdraw_any (w : World) (P : Nat) (ty : TypeId) (cs : Array Value) (cap : Int) (rs : List Rt.Rec) (low : Int) (jv : Value) (h : JrS w P ty cs cap rs low jv) (hl : rs.length ≤ 1000) (h0 : 0 < rs.length) :
    Calls Tryz.prog 46 #[.pointer (some ⟨P, 8, none⟩)] w (WdrP P ty cs cap rs low jv w) := by
  obtain ⟨i0, hi0, hz0, hz1, hz2⟩ := info_parts Tryz.infoRecJ
  obtain ⟨g, jcap, rfl⟩ : ∃ g jcap, jv = .slice (some ⟨g, 0, none⟩) rs.length jcap := by
    rcases h.own.2 with ⟨e, e2⟩ | ⟨g, jcap, cur, e, _⟩
    · omega
    · exact ⟨g, jcap, e⟩
  obtain ⟨n, hn⟩ : ∃ n, rs.length = n + 1 := ⟨rs.length - 1, by omega⟩
  have HH := hide h
  have k9 := h.k9
  have hw2 : IntKind.i64.wrap ((n : Int) + 1 - 1) = (n : Int) := by rw [IntWalk.i64_left, IntWalk.wrap64_in _ (by omega)]; omega
  have hw3 : IntKind.i64.wrap (n : Int) = (n : Int) := by rw [IntWalk.i64_left, IntWalk.wrap64_in _ (by omega)]
  have i1 : ¬ (n : Int) < 0 := by omega
  have HN := hide hn
  have hPlt := block_lt h.block
  have hcap : n + 1 ≤ jcap := by
    rcases h.own.2 with ⟨e, _⟩ | ⟨g', jc', cur, e, _, _, e3, _⟩
    · cases e
    · simp at e; omega
  have hc0 : ¬ jcap = 0 := by omega
  rw [hn] at k9
  clear h hn
  go_enter Tryz.func46, Tryz.ntmps46
  go_wp2_with fail
  go_loopw [3] (fun c wr => ∃ k : Nat, k ≤ n ∧ c = .int .i64 k ∧ Rt.lastFrom rs k = Rt.lastAt rs ∧ Below w.heap.size w wr) (fun c _ => (intOf c).toNat)
  case atStart => exact ⟨n, Nat.le_refl _, rfl, by unfold Rt.lastAt; rw [unhide HN]; rfl, Below.refl _ _⟩
  case round =>
    obtain ⟨k, hk, rfl, hlast, hbe⟩ := hrel
    have hj := (unhide HH).later hbe
    have k9 := hj.k9
    rw [unhide HN] at k9
    have HL := hide hlast
    clear hlast
    cases k with
    | zero =>
      have HZ := hide (show Rt.lastAt rs = 0 by rw [← unhide HL]; rfl)
      have HX := hide (And.intro hj hbe)
      have hM := hbe.size
      have q1 : (0 : Int) ≤ (n : Int) + 1 := by omega
      have hN2 := unhide HN
      clear hj hbe HL
      go_wp2_with (at_builtin; refine wpList_append_lies _ rfl _ _ 44 rfl w.heap.size 87 i0 _ 5 40 Tryz.underlying44 hi0 hz0 hz1 hz2 rfl (by decide) (.slice none 0 0) 0 [] rfl (World.ownsRow_nil _ _ _ _) ⟨g, 0 * 5, none⟩ (n + 1) jcap (recsCells (rs.drop 0)) rfl (by have := unhide HN; rw [recsCells_len, List.length_drop]; omega) (recs_news (unhide HX).1.own 0 (Nat.zero_le _)) (recs_one _) (by omega) (by unfold maxLen; omega) (by omega) hM wr.heap.size rfl ?_)
      intro g1 cap1 w1 hown1 hgrow hat hlt1
      obtain ⟨p1, p2, p3⟩ := wdr_end hPlt (unhide HX).1 (unhide HX).2 h0 (unhide HZ) (g1 := g1) (cap1 := cap1) (by rw [show rs.length - 0 = n + 1 by omega]; first | exact hown1 | simpa using hown1) hgrow
      have HF := hide p1
      clear hown1 hgrow hat hlt1 p1
      go_wp2_with fail
      go_ret
      have := unhide HF
      rw [show rs.length - 0 = n + 1 by omega] at this
      exact this
    | succ k =>
      have hlt : k + 1 < rs.length := by have := unhide HN; omega
      have j1 : (0 : Int) < (k : Int) + 1 := by omega
      have j2 : (0 : Int) ≤ (k : Int) + 1 := by omega
      have j3 : (k : Int) + 1 < (n : Int) + 1 := by omega
      have hown := hj.own
      obtain ⟨r0, r1, r2, r3, r4⟩ := rec_at hown (k + 1) hlt
      have HC := hide (fun (W : World) => begins_any W rs[k + 1])
      have HY := hide (show Rt.begins rs[k + 1] = true → Rt.lastAt rs = k + 1 from fun e => by rw [← unhide HL, Rt.lastFrom, List.getElem?_eq_getElem hlt]; simp [e])
      have HZ := hide (show Rt.begins rs[k + 1] = false → Rt.lastFrom rs k = Rt.lastAt rs from fun e => by rw [← unhide HL, Rt.lastFrom, List.getElem?_eq_getElem hlt]; simp [e])
      have HB := hide hbe
      clear hj hown hbe
      generalize rs[k + 1] = r at *
      go_wp2_with fail
      refine (unhide HC _).mono ?_
      rintro e w1 ⟨rfl, hb1⟩
      have HB1 := hide ((unhide HB).trans (hb1.mono (unhide HB).size))
      clear hb1
      cases hb : Rt.begins r with
      | true =>
        have HE := hide (unhide HY hb)
        clear HY HZ
        have k91 := ((unhide HH).later (unhide HB1)).k9
        rw [unhide HN] at k91
        have hc1 : ¬ jcap = k + 1 := by omega
        have hM1 := (unhide HB1).size
        have HX := hide (And.intro ((unhide HH).later (unhide HB1)) (unhide HB1))
        have hN2 := unhide HN
        clear r0 r1 r2 r3 r4 k9
        go_wp2_with (at_builtin; refine wpList_append_lies _ rfl _ _ 44 rfl w.heap.size 87 i0 _ 5 40 Tryz.underlying44 hi0 hz0 hz1 hz2 rfl (by decide) (.slice none 0 0) 0 [] rfl (World.ownsRow_nil _ _ _ _) ⟨g, (k + 1) * 5, none⟩ (n - k) (jcap - (k + 1)) (recsCells (rs.drop (k + 1))) rfl (by rw [recsCells_len, List.length_drop]; omega) (recs_news (unhide HX).1.own (k + 1) (by omega)) (recs_one _) (by omega) (by unfold maxLen; omega) (by omega) hM1 w1.heap.size rfl ?_)
        intro g1 cap1 w2 hown1 hgrow hat hlt1
        have hnk : rs.length - (k + 1) = n - k := by omega
        obtain ⟨p1, p2, p3⟩ := wdr_end hPlt (unhide HX).1 (unhide HX).2 hlt (unhide HE) (g1 := g1) (cap1 := cap1) (by rw [hnk]; first | exact hown1 | simpa using hown1) hgrow
        have HF := hide p1
        clear hown1 hgrow hat hlt1 p1
        go_wp2_with fail
        go_ret
        have := unhide HF
        rw [hnk] at this
        exact this
      | false =>
        have HE := hide (unhide HZ hb)
        clear HY HZ
        go_wp2_with fail
        go_roundw
        case rel => exact ⟨k, by omega, by go_num, unhide HE, unhide HB1⟩
        case measure => simp [intOf]
end Go.Proofs.YtbpajiljfppjcaaGreat

