/- A session begins. -/
import Derived.Test.YtbpajiljfppjcaaGreatDoorSsB
namespace Go.Proofs.YtbpajiljfppjcaaGreatDoor
open Go.RowKit
attribute [local go_sem ↓] Go.wp_at_zero Go.wp_at_succ

namespace Rt
/-- A move forward, from where so many steps have been made: the session, the steps, the reason. -/
def fwdRun (S : Src) (cap kind fuel d0 : Int) : Nat → Se → Nat → Se × Nat × Int
  | 0, s, k => (s, k, 4)
  | f + 1, s, k => if fwdEnds s kind fuel d0 k = 0 then fwdRun S cap kind fuel d0 f (seStep S cap s) (k + 1) else (s, k, fwdEnds s kind fuel d0 k)
theorem jnL_len (cap : Int) : ∀ (f : Nat) (rs : List Rec) (low : Int), rs.length ≤ f → 0 ≤ cap → ((jnL cap f rs low).1.length : Int) ≤ cap
  | 0, rs, low, h, hc => by
    have : rs.length = 0 := by omega
    rw [jnL]
    show (rs.length : Int) ≤ cap
    omega
  | f + 1, rs, low, h, hc => by
    rw [jnL]
    split
    · next hh =>
      have := earliest_pos hh.2
      exact jnL_len cap f _ _ (by rw [List.length_drop]; omega) hc
    · next hh =>
      show (rs.length : Int) ≤ cap
      omega
theorem joinR_len (cap : Int) (rs : List Rec) (low : Int) (hc : 0 ≤ cap) : ((joinR cap rs low).1.length : Int) ≤ cap := jnL_len cap rs.length rs low (Nat.le_refl _) hc
theorem fwdEnds_zero {s : Se} {kind fuel d0 mv : Int} (h : fwdEnds s kind fuel d0 mv = 0) : s.m.fin = 0 ∧ mv < fuel := by
  unfold fwdEnds at h
  split at h
  · omega
  · next hz =>
    split at h
    · omega
    · next hn => exact ⟨Decidable.not_not.mp hz, by omega⟩
end Rt
/-- What a session keeps to. -/
structure KeepS (S : Rt.Src) (cap : Int) (s : Rt.Se) : Prop where
  g : KeepG S s.m
  p : Par4 s.m
  r : (s.recs.length : Int) ≤ cap
  ms : s.marks.length = 101
theorem seStep_keep {S : Rt.Src} {cap : Int} {s : Rt.Se} (hS : Good S) (h4 : Call4 S) (hc : 0 ≤ cap) (h : KeepS S cap s) : KeepS S cap (Rt.seStep S cap s) :=
  ⟨step_keepG hS h.g, (step_par4 h4 h.p).1, Rt.joinR_len cap _ _ hc, h.ms⟩
/-- What Forward says. -/
def FwdP (P B : Nat) (S : Rt.Src) (cap : Int) (X : McX) (jv : Value) (r : Rt.Se × Nat × Int) (w : World) (e : Ending) (w' : World) : Prop :=
  ∃ X' jv', e = .returned (.tuple #[.agg (replyA r.2.2 r.2.1 r.1), .int .i64 0]) ∧ SAft P B S cap X X' jv jv' r.1 w w'
/-- The types of blocks that a session does not write. -/
def OutTy (t : TypeId) : Prop := ¬ PTy t ∧ t ≠ 3 ∧ t ≠ 124 ∧ t ≠ 22 ∧ t ≠ 133
theorem SAft.keeps {w w' : World} {P B : Nat} {S : Rt.Src} {cap : Int} {s s' : Rt.Se} {X X' : McX} {jv jv' : Value} (h0 : SesS w P B S cap s X jv) (h : SAft P B S cap X X' jv jv' s' w w') {N : Nat} {c : Array Value} {t : TypeId} (hN : w.heap[N]? = some (.cells c t (0, 0))) (hne : N ≠ P) (ht : OutTy t) : w'.heap[N]? = some (.cells c t (0, 0)) := by
  refine (h.frm.block N (block_lt hN) (fun hk => ?_) (fun e => ?_)).trans hN
  · rcases List.mem_cons.mp hk with hk | hk
    · exact hne hk
    · rw [← h0.mc.blks] at hk
      exact rows_not h0.mc.own hN ⟨ht.2.1, ht.2.2.1, ht.2.2.2.1⟩ hk
  · obtain ⟨c', hc⟩ := own_blk h0.jr e
    rw [hN] at hc
    injection hc with hc
    injection hc with _ hc
    exact ht.2.2.2.2 hc
/-- A store into a block that is none of the session's. -/
theorem SesS.other {w : World} {P B : Nat} {S : Rt.Src} {cap : Int} {s : Rt.Se} {X : McX} {jv : Value} (h : SesS w P B S cap s X jv) {N : Nat} {c : Array Value} {t : TypeId} (hN : w.heap[N]? = some (.cells c t (0, 0))) (hne : N ≠ P) (ht : OutTy t) (i : Nat) (v : Value) : SesS (w.setCell ⟨N, i, none⟩ v) P B S cap s X jv := by
  have hot : ∀ k, k ≠ N → (w.setCell ⟨N, i, none⟩ v).heap[k]? = w.heap[k]? := fun k hk => Below.heap_setCell w ⟨N, i, none⟩ v k hk
  refine ⟨h.mc.next (by rw [hot P (Ne.symm hne)]; exact h.mc.block) (by simp [World.setCell]) ?_ ⟨fun r hr => own_same (h.mc.own.rows r hr) (fun g hg => hot g (fun e => ?_)), h.mc.own.apart⟩ rfl rfl h.mc.fl h.mc.vl, own_same h.jr (fun g hg => hot g (fun e => ?_))⟩
  · intro k x hx _ hp
    rw [hot k (fun e => by
      rw [e, hN] at hx
      injection hx with hx
      obtain ⟨c', t', e2, hp⟩ := hp
      rw [← hx] at e2
      injection e2 with _ e2
      rw [← e2] at hp
      exact ht.1 hp)]
    exact hx
  · obtain ⟨c', hc⟩ := own_blk (h.mc.own.rows r hr) hg
    rw [e, hN] at hc
    injection hc with hc
    injection hc with _ hc
    have h3 := rows_ty3 hr
    rw [← hc] at h3
    rcases h3 with e | e | e
    · exact ht.2.1 e
    · exact ht.2.2.1 e
    · exact ht.2.2.2.1 e
  · obtain ⟨c', hc⟩ := own_blk h.jr hg
    rw [e, hN] at hc
    injection hc with hc
    injection hc with _ hc
    exact ht.2.2.2.2 hc
theorem SAft.other {w w' : World} {P B : Nat} {S : Rt.Src} {cap : Int} {s' : Rt.Se} {X X' : McX} {jv jv' : Value} (h : SAft P B S cap X X' jv jv' s' w w') {N : Nat} {c : Array Value} {t : TypeId} (hN : w'.heap[N]? = some (.cells c t (0, 0))) (hle : w.heap.size ≤ N) (ht : OutTy t) (i : Nat) (v : Value) : SAft P B S cap X X' jv jv' s' w (w'.setCell ⟨N, i, none⟩ v) :=
  ⟨h.ses.other hN (by have := h.lt; omega) ht i v, ⟨h.frm.os, h.frm.tape, h.frm.output, Nat.le_trans h.frm.size (by simp [World.setCell]), fun k hk hn hv => by rw [Below.heap_setCell w' ⟨N, i, none⟩ v k (by show k ≠ N; omega)]; exact h.frm.block k hk hn hv⟩, h.grow, h.jg, h.lt⟩
theorem SAft.six {w w' : World} {P B : Nat} {S : Rt.Src} {cap : Int} {s' : Rt.Se} {X X' : McX} {jv jv' : Value} (h : SAft P B S cap X X' jv jv' s' w w') {N : Nat} {cs : Array Value} {t : TypeId} (hN : w'.heap[N]? = some (.cells cs t (0, 0))) (hle : w.heap.size ≤ N) (ht : OutTy t) (a b c x y q : Value) : SAft P B S cap X X' jv jv' s' w (W6 w' N a b c x y q) := by
  have n1 := set_block hN 0 a
  have n2 := set_block n1 1 b
  have n3 := set_block n2 2 c
  have n4 := set_block n3 3 x
  have n5 := set_block n4 4 y
  exact (((((h.other hN hle ht 0 a).other n1 hle ht 1 b).other n2 hle ht 2 c).other n3 hle ht 3 x).other n4 hle ht 4 y).other n5 hle ht 5 q
theorem SAft.below {w w1 w2 : World} {P B : Nat} {S : Rt.Src} {cap : Int} {s' : Rt.Se} {X X' : McX} {jv jv' : Value} (h : SAft P B S cap X X' jv jv' s' w w1) (hb : Below w1.heap.size w1 w2) : SAft P B S cap X X' jv jv' s' w w2 := h.trans (SAft.start h.ses hb)
/-- How many steps a move has made. -/
def mvAt (w : World) (N : Nat) : Nat := match w.cell? ⟨N, 3, none⟩ with
  | some (.int _ k) => k.toNat
  | _ => 0
set_option maxHeartbeats 1000000 in
set_option maxRecDepth 100000 in
theorem forward_any (w : World) (P B : Nat) (S : Rt.Src) (cap : Int) (s : Rt.Se) (X : McX) (jv : Value) (h : SesS w P B S cap s X jv) (hS : Good S) (h4 : Call4 S) (hc : 0 ≤ cap ∧ cap ≤ 500) (hk : KeepS S cap s) (kind : Int) (fuel : Nat) (hkd : 0 ≤ kind ∧ kind ≤ 3) (hfu : fuel ≤ 1000) :
    Calls Tryz.prog 16 #[.pointer (some ⟨P, 0, none⟩), .int .i64 kind, .int .i64 fuel] w (FwdP P B S cap X jv (Rt.fwdRun S cap kind fuel s.m.frames.length (fuel + 1) s 0) w) := by
  have hPlt := block_lt h.mc.block
  have HH := hide (And.intro h (And.intro hS (And.intro h4 hk)))
  clear h hS h4 hk
  go_enter Tryz.func16, Tryz.ntmps16
  go_wp2_with fail
  refine (refuse_any kind fuel _ hkd (by omega)).mono ?_
  rintro e w0 ⟨rfl, rfl⟩
  go_wp2_with fail
  have hbZ := (Below.refl w.heap.size w).alloc (Nat.le_refl _) (.cells #[.int .i64 0, .int .i64 0, .int .i64 0, .int .i64 0, .int .i64 0, .int .i64 0] 36)
  refine (depth_any _ P B _ _ S s.m X ((unhide HH).1.mc.later hbZ)).mono ?_
  rintro e w0 ⟨rfl, rfl⟩
  generalize hd : (s.m.frames.length : Int) = d at *
  have HD := hide hd
  clear hd
  go_wp2_with fail
  have hbA := hbZ.alloc (by simp) (.cells (mvA kind fuel d 0) 95)
  have bR := block_alloc (heap_alloc_new w (.cells #[.int .i64 0, .int .i64 0, .int .i64 0, .int .i64 0, .int .i64 0, .int .i64 0] 36)) (.cells (mvA kind fuel d 0) 95)
  have bM := alloc2_plain w (.cells #[.int .i64 0, .int .i64 0, .int .i64 0, .int .i64 0, .int .i64 0, .int .i64 0] 36) (.cells (mvA kind fuel d 0) 95)
  refine (forwardEnds_any _ P B S cap s X jv ((unhide HH).1.later hbA) (unhide HH).2.2.2.ms kind fuel d 0).mono ?_
  rintro e w1 ⟨rfl, hb1⟩
  have HA := hide (And.intro (SAft.start (unhide HH).1 (hbA.trans (hb1.mono (B' := w.heap.size) (by simp; omega)))) (And.intro (block_later bR hb1) (block_later bM hb1)))
  clear hbZ hbA bR bM hb1
  go_wp2_with fail
  go_loopw [10] (fun rv wr => ∃ (k : Nat) (s' : Rt.Se) (X' : McX) (jv' : Value), k ≤ fuel ∧ rv = .int .i64 (Rt.fwdEnds s' kind fuel d k) ∧ wr.heap[w.heap.size]? = some (.cells #[.int .i64 0, .int .i64 0, .int .i64 0, .int .i64 0, .int .i64 0, .int .i64 0] 36 (0, 0)) ∧ wr.heap[w.heap.size + 1]? = some (.cells (mvA kind fuel d k) 95 (0, 0)) ∧ SAft P B S cap X X' jv jv' s' w wr ∧ KeepS S cap s' ∧ Rt.fwdRun S cap kind fuel d (fuel + 1 - k) s' k = Rt.fwdRun S cap kind fuel d (fuel + 1) s 0) (fun _ wr => fuel + 1 - mvAt wr (w.heap.size + 1))
  case atStart => exact ⟨0, s, X, jv, Nat.zero_le _, rfl, (unhide HA).2.1, (unhide HA).2.2, (unhide HA).1, (unhide HH).2.2.2, rfl⟩
  case round =>
    obtain ⟨k, s', X', jv', hk, rfl, bR, bM, hA, hks, hrun⟩ := hrel
    have m3 : wr.cell? ⟨w.heap.size + 1, 3, none⟩ = some (.int .i64 (k : Int)) := by have := cell_of_block bM 3 (by simp); simpa using this
    have f3 := free_of_block bM 3
    have HM := hide (show mvAt wr (w.heap.size + 1) = k by unfold mvAt; rw [m3]; simp)
    have HX := hide (And.intro bR (And.intro bM (And.intro hA (And.intro hks hrun))))
    have hRl := block_lt bR
    have hMl := block_lt bM
    clear bR bM hA hks hrun HA
    by_cases hz : Rt.fwdEnds s' kind fuel d k = 0
    · have hz' : (Rt.fwdEnds s' kind fuel d k == 0) = true := by simpa using hz
      obtain ⟨hfin, hlt⟩ := Rt.fwdEnds_zero hz
      have HN := hide (show Rt.fwdRun S cap kind fuel d (fuel + 1 - (k + 1)) (Rt.seStep S cap s') (k + 1) = Rt.fwdRun S cap kind fuel d (fuel + 1) s 0 by
        rw [← (unhide HX).2.2.2.2, show fuel + 1 - k = (fuel + 1 - (k + 1)) + 1 by omega, Rt.fwdRun, if_pos hz])
      clear hz
      go_wp2_with fail
      obtain ⟨bR, bM, hA, hks, hrun⟩ := unhide HX
      obtain ⟨_, hS, h4, _⟩ := unhide HH
      refine (makeStep_any wr P B S cap s' X' jv' hA.ses hS hks.g h4 hks.p hfin (by have := hks.r; omega)).mono ?_
      rintro e w2 ⟨rfl, X2, jv2, hA2⟩
      have bR2 := SAft.keeps hA.ses hA2 bR (by omega) (by unfold OutTy PTy; decide)
      have bM2 := SAft.keeps hA.ses hA2 bM (by omega) (by unfold OutTy PTy; decide)
      have hA3 := (hA.trans hA2).other bM2 (by omega) (by unfold OutTy PTy; decide) 3 (.int .i64 ((k : Int) + 1))
      have bM3 : (w2.setCell ⟨w.heap.size + 1, 3, none⟩ (.int .i64 ((k : Int) + 1))).heap[w.heap.size + 1]? = some (.cells (mvA kind fuel d ((k : Int) + 1)) 95 (0, 0)) := by
        have := set_block bM2 3 (.int .i64 ((k : Int) + 1))
        simpa using this
      have bR3 : (w2.setCell ⟨w.heap.size + 1, 3, none⟩ (.int .i64 ((k : Int) + 1))).heap[w.heap.size]? = some (.cells #[.int .i64 0, .int .i64 0, .int .i64 0, .int .i64 0, .int .i64 0, .int .i64 0] 36 (0, 0)) := (Below.heap_setCell w2 ⟨w.heap.size + 1, 3, none⟩ _ _ (by show w.heap.size ≠ w.heap.size + 1; omega)).trans bR2
      have hks3 := seStep_keep hS h4 hc.1 hks
      have HY := hide (And.intro hA3 (And.intro bM3 (And.intro bR3 hks3)))
      have n0 : w2.cell? ⟨w.heap.size + 1, 0, none⟩ = some (.int .i64 kind) := by have := cell_of_block bM2 0 (by simp); simpa using this
      have n1 : w2.cell? ⟨w.heap.size + 1, 1, none⟩ = some (.int .i64 (fuel : Int)) := by have := cell_of_block bM2 1 (by simp); simpa using this
      have n2 : w2.cell? ⟨w.heap.size + 1, 2, none⟩ = some (.int .i64 d) := by have := cell_of_block bM2 2 (by simp); simpa using this
      have n3 : w2.cell? ⟨w.heap.size + 1, 3, none⟩ = some (.int .i64 (k : Int)) := by have := cell_of_block bM2 3 (by simp); simpa using this
      have g3 := free_of_block bM2 3
      have hw3 : wrap64 ((k : Int) + 1) = (k : Int) + 1 := IntWalk.wrap64_in _ (by omega)
      have hw4 : IntKind.i64.wrap ((k : Int) + 1) = (k : Int) + 1 := by rw [IntWalk.i64_left, IntWalk.wrap64_in _ (by omega)]
      clear bR bM hA hks hrun hA2 bR2 bM2 hA3 bM3 bR3 hks3 m3 f3
      go_wp2_with fail
      refine (forwardEnds_any _ P B S cap (Rt.seStep S cap s') X2 jv2 (unhide HY).1.ses (unhide HY).2.2.2.ms kind fuel d ((k : Int) + 1)).mono ?_
      rintro e w4 ⟨rfl, hb4⟩
      have bM4 := block_later (unhide HY).2.1 hb4
      have m34 : w4.cell? ⟨w.heap.size + 1, 3, none⟩ = some (.int .i64 ((k : Int) + 1)) := by have := cell_of_block bM4 3 (by simp); simpa using this
      have HM4 := hide (show mvAt w4 (w.heap.size + 1) = k + 1 by unfold mvAt; rw [m34]; show ((k : Int) + 1).toNat = k + 1; omega)
      have HZ := hide (And.intro ((unhide HY).1.below hb4) (And.intro bM4 (block_later (unhide HY).2.2.1 hb4)))
      clear hb4 bM4 m34 n0 n1 n2 n3 g3
      go_wp2_with fail
      go_roundw
      case rel => exact ⟨k + 1, _, X2, jv2, by omega, rfl, (unhide HZ).2.2, (unhide HZ).2.1, (unhide HZ).1, (unhide HY).2.2.2, unhide HN⟩
      case measure =>
        show fuel + 1 - mvAt w4 (w.heap.size + 1) < fuel + 1 - mvAt wr (w.heap.size + 1)
        rw [unhide HM, unhide HM4]
        omega
    · have hz' : (Rt.fwdEnds s' kind fuel d k == 0) = false := by simpa using hz
      have HE := hide (show Rt.fwdRun S cap kind fuel d (fuel + 1) s 0 = (s', k, Rt.fwdEnds s' kind fuel d k) by
        rw [← (unhide HX).2.2.2.2, show fuel + 1 - k = (fuel - k) + 1 by omega, Rt.fwdRun, if_neg hz])
      clear hz
      obtain ⟨bR, bM, hA, hks, hrun⟩ := unhide HX
      have n0 : wr.cell? ⟨w.heap.size + 1, 0, none⟩ = some (.int .i64 kind) := by have := cell_of_block bM 0 (by simp); simpa using this
      have n1 : wr.cell? ⟨w.heap.size + 1, 1, none⟩ = some (.int .i64 (fuel : Int)) := by have := cell_of_block bM 1 (by simp); simpa using this
      have n2 : wr.cell? ⟨w.heap.size + 1, 2, none⟩ = some (.int .i64 d) := by have := cell_of_block bM 2 (by simp); simpa using this
      clear bR bM hA hks hrun
      generalize hrs : Rt.fwdEnds s' kind fuel d k = rs at *
      clear hrs
      go_wp2_with fail
      obtain ⟨bR, bM, hA, _, _⟩ := unhide HX
      refine (reply_any wr P B S cap s' X' jv' hA.ses kind fuel d k rs).mono ?_
      rintro e w3 ⟨rfl, hb3⟩
      have bR3 := block_later bR hb3
      have hA3 := hA.below hb3
      obtain ⟨y0, y1, y2, y3, y4, y5, z⟩ := six_any bR3
      have HF := hide (fun a b c x y q => SAft.six hA3 bR3 (Nat.le_refl _) (by unfold OutTy PTy; decide) a b c x y q)
      clear bR bM hA hb3 bR3 hA3 n0 n1 n2 m3
      go_wp2_with fail
      refine bodyPost_ret (v := .tuple #[.agg (replyA rs k s'), .int .i64 0]) ?_ rfl ⟨_, _, by rw [unhide HE], by rw [unhide HE]; exact unhide HF _ _ _ _ _ _⟩
      simp [results, Tryz.results16, go_sem, y0, y1, y2, y3, y4, y5]
end Go.Proofs.YtbpajiljfppjcaaGreatDoor

namespace Go.Proofs.YtbpajiljfppjcaaGreatDoor
open Go.RowKit
attribute [local go_sem ↓] Go.wp_at_zero Go.wp_at_succ

namespace Rt
def seFirst (S : Src) : Se := ⟨firstM S, [], 0, 0, List.replicate 101 false⟩
end Rt
/-- What a new session says. -/
def SNewP (S : Rt.Src) (cap : Int) (w : World) (e : Ending) (w' : World) : Prop :=
  Below w.heap.size w w' ∧ ∃ P B X, e = .returned (.tuple #[.pointer (some ⟨P, 0, none⟩), .int .i64 0, .int .i64 0]) ∧ w.heap.size ≤ P ∧ (∀ k ∈ blkX X, w.heap.size ≤ k) ∧ SesS w' P B S cap (Rt.seFirst S) X (.slice none 0 0)
theorem jnew_any (cap : Int) (w : World) : Calls Tryz.prog 71 #[.int .i64 cap] w fun e w' => e = .returned (.agg #[.int .i64 cap, .slice none 0 0, .int .i64 0]) ∧ Below w.heap.size w w' := by
  go_enter Tryz.func71, Tryz.ntmps71
  go_wp2_with fail
  have E := three_cells (heap_alloc_new w (.cells #[.int .i64 cap, .slice none 0 0, .int .i64 0] 90))
  refine bodyPost_ret (v := .agg #[.int .i64 cap, .slice none 0 0, .int .i64 0]) ?_ rfl ⟨rfl, (Below.refl _ _).alloc (Nat.le_refl _) _⟩
  revert E
  generalize w.alloc (.cells #[.int .i64 cap, .slice none 0 0, .int .i64 0] 90) = wz
  intro E
  simp [results, Tryz.results71, go_sem, E.1, E.2.1, E.2.2]
theorem ses_cells (v0 v1 v2 v3 v4 v5 v6 v7 v8 v9 v10 : Value) : (((((((((((Tryz.zeroCells93.setIfInBounds 0 v0).setIfInBounds 1 v1).setIfInBounds 2 v2).setIfInBounds 3 v3).setIfInBounds 4 v4).setIfInBounds 5 v5).setIfInBounds 6 v6).setIfInBounds 7 v7).setIfInBounds 8 v8).setIfInBounds 9 v9).setIfInBounds 10 v10) = (#[v0, v1, v2, v3, v4, v5, v6, v7] ++ ([v8, v9, v10, .int .i64 0] ++ (List.replicate 101 false).map Value.bool).toArray : Array Value) := by kernel_rfl
set_option maxHeartbeats 1000000 in
set_option maxRecDepth 100000 in
theorem snew_any (s : ByteArray) (iv : Value) (inp : List Int) (cap : Int) (w : World) (pls : List Rt.PL) (hs : s.size ≤ maxLen) (hi : Ints w iv inp) (hR : Rt.readS s = (0, 0, pls)) (hl : inp.length ≤ 100) (hc : 5 ≤ cap ∧ cap ≤ 500) :
    Calls Tryz.prog 40 #[.string s, iv, .int .i64 cap] w (SNewP (srcOf s pls inp) cap w) := by
  have hfit := fit_of hR
  have HI := hide hi
  have hc1 : ¬ cap < 5 := by omega
  have hc2 : ¬ 500 < cap := by omega
  obtain ⟨iad, icap, rfl, _⟩ := hi
  go_enter Tryz.func40, Tryz.ntmps40
  go_wp2_with fail
  refine (new_any s _ inp _ hs (unhide HI) (fun p hp => by rw [hR] at hp; injection hp with _ hp; injection hp with _ hp; rw [← hp]; exact hfit)).mono ?_
  rintro e w1 ⟨hb1, hcase⟩
  rcases hcase with ⟨hlt, _⟩ | ⟨_, er, ln, pls', hR', hcc⟩
  · exact absurd hlt (by omega)
  rw [hR] at hR'
  injection hR' with e1 hR'
  injection hR' with e2 e3
  subst e1 e2 e3
  rcases hcc with ⟨h0, _⟩ | ⟨_, _, hlen, M0, X, rfl, hM0, hblk, hmc⟩
  · exact absurd rfl h0
  obtain ⟨la, lc, ia, ic, fa, fc, va, vc, oa, oc, q1, q2, q3, q4, q5⟩ := hmc.shape
  generalize hm0 : Rt.firstM (srcOf s pls inp) = m0 at *
  have hcells : mcCells X m0 [] = #[.slice la pls.length lc, .slice ia inp.length ic, .slice fa m0.frames.length fc, .slice va m0.values.length vc, .int .i64 m0.taken, .slice oa m0.output.length oc, .int .i64 m0.line, .int .i64 m0.fin] := by
    simp only [mcCells, q1, q2, q3, q4, q5, srcOf, List.length_map]
    rfl
  rw [hcells]
  have HX := hide (And.intro hb1 (And.intro hblk (And.intro hmc (And.intro hcells hm0))))
  clear hb1 hblk hmc hcells hm0 q1 q2 q3 q4 q5 hR hfit
  go_wp2_with fail
  have hbA := (Below.refl w1.heap.size w1).alloc (Nat.le_refl _) (.cells #[.slice la pls.length lc, .slice ia inp.length ic, .slice fa m0.frames.length fc, .slice va m0.values.length vc, .int .i64 m0.taken, .slice oa m0.output.length oc, .int .i64 m0.line, .int .i64 m0.fin] 80)
  refine (jnew_any cap _).mono ?_
  rintro e w2 ⟨rfl, hb2⟩
  have bm := block_later (heap_alloc_new w1 (.cells #[.slice la pls.length lc, .slice ia inp.length ic, .slice fa m0.frames.length fc, .slice va m0.values.length vc, .int .i64 m0.taken, .slice oa m0.output.length oc, .int .i64 m0.line, .int .i64 m0.fin] 80)) hb2
  obtain ⟨y0, y1, y2, y3, y4, y5, y6, y7⟩ := eight_cells bm
  have hlt2 := block_lt bm
  have hn1 : ¬ w1.heap.size = w2.heap.size := by omega
  have HB2 := hide (hbA.trans (hb2.mono (B' := w1.heap.size) (by simp)))
  clear hbA hb2 bm
  go_wp2_with fail
  have hcl : (((((((((((Tryz.zeroCells93.setIfInBounds 0 (.slice la pls.length lc)).setIfInBounds 1 (.slice ia inp.length ic)).setIfInBounds 2 (.slice fa m0.frames.length fc)).setIfInBounds 3 (.slice va m0.values.length vc)).setIfInBounds 4 (.int .i64 m0.taken)).setIfInBounds 5 (.slice oa m0.output.length oc)).setIfInBounds 6 (.int .i64 m0.line)).setIfInBounds 7 (.int .i64 m0.fin)).setIfInBounds 8 (.int .i64 cap)).setIfInBounds 9 (.slice none 0 0)).setIfInBounds 10 (.int .i64 0)) = mcCells X m0 (tailS cap (.slice none 0 0) 0 0 (List.replicate 101 false)) := by
    rw [ses_cells]
    have := (unhide HX).2.2.2.1
    have e : (mcCells X m0 (tailS cap (.slice none 0 0) 0 0 (List.replicate 101 false))) = mcCells X m0 [] ++ (tailS cap (.slice none 0 0) 0 0 (List.replicate 101 false)).toArray := by
      unfold mcCells
      rw [List.append_nil, List.append_toArray]
    rw [e, this]
    simp [tailS]
  rw [hcl]
  obtain ⟨hb1, hblk, hmc, _, hm0⟩ := unhide HX
  have hb3 := ((Below.refl w2.heap.size w2).alloc (Nat.le_refl _) (.cells #[.int .i64 cap, .slice none 0 0, .int .i64 0] 90)).alloc (by simp) (.cells (mcCells X m0 (tailS cap (.slice none 0 0) 0 0 (List.replicate 101 false))) 93)
  have bS := alloc2_plain w2 (.cells #[.int .i64 cap, .slice none 0 0, .int .i64 0] 90) (.cells (mcCells X m0 (tailS cap (.slice none 0 0) 0 0 (List.replicate 101 false))) 93)
  have hbF := (unhide HB2).trans (hb3.mono (B' := w1.heap.size) (unhide HB2).size)
  have hm3 := hmc.moved hbF bS (by unfold TyOk; decide)
  refine bodyPost_ret (v := .tuple #[.pointer (some ⟨w2.heap.size + 1, 0, none⟩), .int .i64 0, .int .i64 0]) ?_ rfl ⟨hb1.trans (hbF.mono (B' := w.heap.size) hb1.size), _, _, X, rfl, by have := (unhide HB2).size; have := hb1.size; omega, hblk, ⟨by rw [Rt.seFirst, hm0]; exact hm3, World.ownsRow_nil _ _ _ _⟩⟩
  simp [results, Tryz.results40, go_sem]
end Go.Proofs.YtbpajiljfppjcaaGreatDoor

