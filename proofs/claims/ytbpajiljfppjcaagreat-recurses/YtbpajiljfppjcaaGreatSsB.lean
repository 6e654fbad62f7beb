/- A session: where it is, and why a move ends. -/
import Derived.Test.YtbpajiljfppjcaaGreatGnD
import Derived.Test.YtbpajiljfppjcaaGreatJrC
namespace Go.Proofs.YtbpajiljfppjcaaGreat
open Go.RowKit
attribute [local go_sem ↓] Go.wp_at_zero Go.wp_at_succ

namespace Rt
structure Se where
  m : Mc
  recs : List Rec
  low : Int
  idx : Int
  marks : List Bool
/-- A step of a session. -/
def seStep (S : Src) (cap : Int) (s : Se) : Se := ⟨(stepM S s.m).1, (joinR cap (s.recs ++ (stepM S s.m).2) s.low).1, (joinR cap (s.recs ++ (stepM S s.m).2) s.low).2, wrap64 (s.idx + 1), s.marks⟩
end Rt
def tailS (cap : Int) (jv : Value) (low idx : Int) (marks : List Bool) : List Value := [.int .i64 cap, jv, .int .i64 low, .int .i64 idx] ++ marks.map Value.bool
/-- A session at block P. -/
structure SesS (w : World) (P B : Nat) (S : Rt.Src) (cap : Int) (s : Rt.Se) (X : McX) (jv : Value) : Prop where
  mc : McS w P B 49 (tailS cap jv s.low s.idx s.marks) S s.m X
  jr : w.ownsRow 0 87 5 jv s.recs.length (recsCells s.recs)
theorem SesS.later {w w' : World} {P B : Nat} {S : Rt.Src} {cap : Int} {s : Rt.Se} {X : McX} {jv : Value} (h : SesS w P B S cap s X jv) (hb : Below w.heap.size w w') : SesS w' P B S cap s X jv := ⟨h.mc.later hb, own_later h.jr hb⟩
theorem SesS.jrS {w : World} {P B : Nat} {S : Rt.Src} {cap : Int} {s : Rt.Se} {X : McX} {jv : Value} (h : SesS w P B S cap s X jv) : JrS w P 49 (mcCells X s.m (tailS cap jv s.low s.idx s.marks)) cap s.recs s.low jv :=
  ⟨h.mc.block, by simp [mcCells, tailS], by simp [mcCells, tailS], by simp [mcCells, tailS], h.jr, by decide⟩
/-- All that a session may write. -/
structure SFr (P : Nat) (X : McX) (jv : Value) (w w' : World) : Prop where
  os : w'.os = w.os
  tape : w'.tape = w.tape
  output : w'.output = w.output
  size : w.heap.size ≤ w'.heap.size
  block : ∀ k, k < w.heap.size → k ∉ P :: blkX X → jv.ownBlock ≠ some k → w'.heap[k]? = w.heap[k]?
theorem SFr.of_below {P : Nat} (X : McX) (jv : Value) {w w' : World} (h : Below w.heap.size w w') : SFr P X jv w w' := ⟨h.os, h.tape, h.output, h.size, fun k hk _ _ => h.block k hk⟩
structure SAft (P B : Nat) (S : Rt.Src) (cap : Int) (X X' : McX) (jv jv' : Value) (s' : Rt.Se) (w w' : World) : Prop where
  ses : SesS w' P B S cap s' X' jv'
  frm : SFr P X jv w w'
  grow : Grows w (blkX X) (blkX X')
  jg : ∀ g, jv'.ownBlock = some g → jv.ownBlock = some g ∨ w.heap.size ≤ g
  lt : P < w.heap.size
theorem SAft.start {w w' : World} {P B : Nat} {S : Rt.Src} {cap : Int} {s : Rt.Se} {X : McX} {jv : Value} (h : SesS w P B S cap s X jv) (hb : Below w.heap.size w w') : SAft P B S cap X X jv jv s w w' :=
  ⟨h.later hb, SFr.of_below X jv hb, Grows.refl _ _, fun _ h => Or.inl h, block_lt h.mc.block⟩
theorem SAft.trans {w w1 w2 : World} {P B : Nat} {S : Rt.Src} {cap : Int} {s1 s2 : Rt.Se} {X X1 X2 : McX} {jv jv1 jv2 : Value} (h : SAft P B S cap X X1 jv jv1 s1 w w1) (g : SAft P B S cap X1 X2 jv1 jv2 s2 w1 w2) : SAft P B S cap X X2 jv jv2 s2 w w2 := by
  refine ⟨g.ses, ⟨g.frm.os.trans h.frm.os, g.frm.tape.trans h.frm.tape, g.frm.output.trans h.frm.output, Nat.le_trans h.frm.size g.frm.size, ?_⟩, h.grow.trans g.grow h.frm.size, ?_, h.lt⟩
  · intro k hk hn hv
    refine (g.frm.block k (Nat.lt_of_lt_of_le hk h.frm.size) (fun hm => ?_) (fun e => ?_)).trans (h.frm.block k hk hn hv)
    · rcases List.mem_cons.mp hm with rfl | hm
      · exact hn (List.mem_cons_self ..)
      · rcases h.grow k hm with h' | h'
        · exact hn (List.mem_cons_of_mem _ h')
        · omega
    · rcases h.jg k e with h' | h'
      · exact hv h'
      · omega
  · intro q hq
    rcases g.jg q hq with h' | h'
    · exact h.jg q h'
    · exact Or.inr (Nat.le_trans h.frm.size h')
/-- The machine's tail is another one; the journal's row may be another one. -/
theorem McS.retail {w w2 : World} {P B : Nat} {ty : TypeId} {tail tail' : List Value} {S : Rt.Src} {m : Rt.Mc} {X : McX} {jv : Value} {n : Nat} {xs : List Value} (h : McS w P B ty tail S m X) (hj : w.ownsRow 0 87 5 jv n xs) (hf : JFr P jv w w2) (hb : w2.heap[P]? = some (.cells (mcCells X m tail') ty (0, 0))) : McS w2 P B ty tail' S m X := by
  have hjt : ∀ k, jv.ownBlock = some k → ∃ c, w.heap[k]? = some (.cells c 87 (0, 0)) := fun k hk => own_blk hj hk
  refine h.next hb hf.size ?_ ?_ rfl rfl h.fl h.vl
  · intro k x hx hne hp
    rw [hf.block k (block_lt hx) hne (fun e => by
      obtain ⟨c, hc⟩ := hjt k e
      rw [hx] at hc
      injection hc with hc
      obtain ⟨c', t', e2, hp⟩ := hp
      rw [hc] at e2
      injection e2 with _ e2
      rw [← e2] at hp
      exact absurd hp (by unfold PTy; decide))]
    exact hx
  · refine ⟨fun r hr => own_same (h.own.rows r hr) (fun g hg => ?_), h.own.apart⟩
    obtain ⟨c, hc⟩ := own_blk (h.own.rows r hr) hg
    have h3 := rows_ty3 hr
    refine hf.block g (block_lt hc) (fun e => ?_) (fun e => ?_)
    · rw [e, h.block] at hc
      injection hc with hc
      injection hc with _ hc
      rw [← hc] at h3
      rcases h3 with e | e | e
      · exact h.ty.1 e
      · exact h.ty.2.1 e
      · exact h.ty.2.2.1 e
    · obtain ⟨c', hc'⟩ := hjt g e
      rw [hc] at hc'
      injection hc' with hc'
      injection hc' with _ hc'
      rw [hc'] at h3
      exact absurd h3 (by decide)
theorem cells_joined (X : McX) (m : Rt.Mc) (cap : Int) (jv jv' : Value) (low low' idx : Int) (marks : List Bool) : ((mcCells X m (tailS cap jv low idx marks)).setIfInBounds 9 jv').setIfInBounds 10 (.int .i64 low') = mcCells X m (tailS cap jv' low' idx marks) := by
  simp [mcCells, tailS]
theorem cells_idx (X : McX) (m : Rt.Mc) (cap : Int) (jv : Value) (low idx idx' : Int) (marks : List Bool) : (mcCells X m (tailS cap jv low idx marks)).setIfInBounds 11 (.int .i64 idx') = mcCells X m (tailS cap jv low idx' marks) := by
  simp [mcCells, tailS]
/-- The journal's row stays behind the machine's step. -/
theorem Aft.row {M B : Nat} {ty : TypeId} {tail : List Value} {S : Rt.Src} {m m' : Rt.Mc} {X X' : McX} {w w' : World} (hm : McS w M B ty tail S m X) (h : Aft M B ty tail S X X' m' w w') {jv : Value} {n : Nat} {xs : List Value} (hj : w.ownsRow 0 87 5 jv n xs) (hty : ty ≠ 87) : w'.ownsRow 0 87 5 jv n xs := by
  refine own_same hj (fun g hg => ?_)
  obtain ⟨c, hc⟩ := own_blk hj hg
  rw [hc]
  exact Aft.keeps hm h hc (fun e => by
    rw [e, hm.block] at hc
    injection hc with hc
    injection hc with _ hc
    exact hty hc) (by decide)
set_option maxHeartbeats 1000000 in
set_option maxRecDepth 100000 in
theorem makeStep_any (w : World) (P B : Nat) (S : Rt.Src) (cap : Int) (s : Rt.Se) (X : McX) (jv : Value) (h : SesS w P B S cap s X jv) (hS : Good S) (hk : KeepG S s.m) (h4 : Call4 S) (hp : Par4 s.m) (hz : s.m.fin = 0) (hr : s.recs.length ≤ 900) :
    Calls Tryz.prog 13 #[.pointer (some ⟨P, 0, none⟩)] w fun e w' => e = .returned (.tuple #[]) ∧ ∃ X' jv', SAft P B S cap X X' jv jv' (Rt.seStep S cap s) w w' := by
  obtain ⟨_, hr5, hr1⟩ := step_par4 h4 hp
  have hPlt := block_lt h.mc.block
  go_enter Tryz.func13, Tryz.ntmps13
  go_wp2_with fail
  refine (step_any _ P B _ _ S s.m X h.mc hk.mok (hS.small _) hS.fwd).mono ?_
  rintro e w1 ⟨rv, X1, rfl, ha, ho⟩
  have hj1 := Aft.row h.mc ha h.jr (by decide)
  have hjs : JrS w1 P 49 (mcCells X1 (Rt.stepM S s.m).1 (tailS cap jv s.low s.idx s.marks)) cap s.recs s.low jv := ⟨ha.mc.block, by simp [mcCells, tailS], by simp [mcCells, tailS], by simp [mcCells, tailS], hj1, by decide⟩
  obtain ⟨rad, rcap, rfl⟩ := ownsRow_form ho
  have HA := hide (And.intro ha (And.intro hj1 (And.intro h ho)))
  have HJ := hide (join_any w1 P _ _ cap s.recs s.low jv hjs w.heap.size _ _ ho (hr1 hz) (by omega))
  clear ha hj1 hjs ho h
  generalize (Rt.stepM S s.m).2.length = rn at *
  go_wp2_with fail
  refine (unhide HJ).mono ?_
  rintro e w2 ⟨rfl, jv2, q1, q2, q3⟩
  rw [cells_joined] at q1
  have hmc2 := (unhide HA).1.mc.retail (unhide HA).2.1 q2 q1.block
  have c11 : w2.cell? ⟨P, 11, none⟩ = some (.int .i64 s.idx) := by
    have := cell_of_row w2 P 11 _ _ _ q1.block
    rw [this]
    simp [mcCells, tailS]
  have f11 := free_of_block q1.block 11
  have hf3 : JFr P jv2 w2 (w2.setCell ⟨P, 11, none⟩ (.int .i64 (wrap64 (s.idx + 1)))) := ⟨rfl, rfl, rfl, by simp [World.setCell], fun k _ hp _ => Below.heap_setCell _ _ _ _ hp⟩
  have b3 := set_block q1.block 11 (.int .i64 (wrap64 (s.idx + 1)))
  rw [cells_idx] at b3
  have hmc3 := hmc2.retail q1.own hf3 b3
  have hne2 := q1.ne
  have hj3 := own_same (w' := w2.setCell ⟨P, 11, none⟩ (.int .i64 (wrap64 (s.idx + 1)))) q1.own (fun g hg => Below.heap_setCell _ _ _ _ (fun e => hne2 (by rw [hg, show g = P from e])))
  have HF := hide (show SAft P B S cap X X1 jv jv2 (Rt.seStep S cap s) w (w2.setCell ⟨P, 11, none⟩ (.int .i64 (wrap64 (s.idx + 1)))) from by
    obtain ⟨ha, hj1, h, ho⟩ := unhide HA
    refine ⟨⟨hmc3, hj3⟩, ⟨q2.os.trans ha.frm.os, q2.tape.trans ha.frm.tape, q2.output.trans ha.frm.output, Nat.le_trans ha.frm.size (Nat.le_trans q2.size hf3.size), ?_⟩, ha.grow, ?_, hPlt⟩
    · intro k hk hn hv
      have hkP : k ≠ P := fun e => hn (by rw [e]; exact List.mem_cons_self ..)
      have hk1 : k < w1.heap.size := Nat.lt_of_lt_of_le hk ha.frm.size
      rw [Below.heap_setCell _ _ _ _ hkP, q2.block k hk1 hkP hv]
      exact ha.frm.block k hk hn
    · intro g hg
      rcases q3 g hg with e | e
      · exact Or.inl e
      · exact Or.inr (Nat.le_trans ha.frm.size e))
  clear q1 q2 q3 hmc2 hf3 b3 hmc3 hj3 hne2
  go_wp2_with fail
  go_end0
  exact ⟨rfl, _, _, unhide HF⟩
end Go.Proofs.YtbpajiljfppjcaaGreat

namespace Go.Proofs.YtbpajiljfppjcaaGreat
open Go.RowKit
attribute [local go_sem ↓] Go.wp_at_zero Go.wp_at_succ

namespace Rt
def reachedB (kind d0 : Int) (d : Nat) : Bool := if kind = 0 then true else if kind = 1 then decide ((d : Int) ≤ d0) else if kind = 2 then decide ((d : Int) < d0) else false
def markedB (s : Se) : Bool := decide (0 ≤ s.m.line ∧ s.m.line < 101) && (s.marks[s.m.line.toNat]?).getD false
def arrivedI (s : Se) (kind d0 mv : Int) : Int := if mv = 0 then 0 else if reachedB kind d0 s.m.frames.length = true then 1 else if markedB s = true then 2 else 0
def fwdEnds (s : Se) (kind fuel d0 mv : Int) : Int := if ¬ s.m.fin = 0 then 3 else if arrivedI s kind d0 mv = 0 ∧ fuel ≤ mv then 4 else arrivedI s kind d0 mv
end Rt
theorem depth_any (w : World) (M B : Nat) (ty : TypeId) (tail : List Value) (S : Rt.Src) (m : Rt.Mc) (X : McX) (h : McS w M B ty tail S m X) : Calls Tryz.prog 11 #[.pointer (some ⟨M, 0, none⟩)] w fun e w' => e = .returned (.int .i64 (m.frames.length : Int)) ∧ w' = w := by
  have c2 := h.c2
  obtain ⟨fad, fcap, hfv⟩ := ownsRow_form h.frames
  rw [hfv] at c2
  clear h hfv
  go_enter Tryz.func11, Tryz.ntmps11
  go_wp2_with fail
  go_ret
  exact ⟨rfl, rfl⟩
theorem lineM_any (w : World) (M B : Nat) (ty : TypeId) (tail : List Value) (S : Rt.Src) (m : Rt.Mc) (X : McX) (h : McS w M B ty tail S m X) : Calls Tryz.prog 36 #[.pointer (some ⟨M, 0, none⟩)] w fun e w' => e = .returned (.int .i64 m.line) ∧ w' = w := by
  have c6 := h.c6
  clear h
  go_enter Tryz.func36, Tryz.ntmps36
  go_wp2_with fail
  go_ret
  exact ⟨rfl, rfl⟩
theorem refuse_any (kind fuel : Int) (w : World) (hk : 0 ≤ kind ∧ kind ≤ 3) (hf : 0 ≤ fuel ∧ fuel ≤ 1000) : Calls Tryz.prog 10 #[.int .i64 kind, .int .i64 fuel] w fun e w' => e = .returned (.int .i64 0) ∧ w' = w := by
  have h1 : ¬ kind < 0 := by omega
  have h2 : ¬ 3 < kind := by omega
  have h3 : ¬ fuel < 0 := by omega
  have h4 : ¬ 1000 < fuel := by omega
  go_enter Tryz.func10, Tryz.ntmps10
  go_wp2_with fail
  go_ret
  exact ⟨rfl, rfl⟩
abbrev mvA (kind fuel d0 mv : Int) : Array Value := #[.int .i64 kind, .int .i64 fuel, .int .i64 d0, .int .i64 mv]
set_option maxHeartbeats 1000000 in
theorem reached_any (w : World) (P B : Nat) (S : Rt.Src) (cap : Int) (s : Rt.Se) (X : McX) (jv : Value) (h : SesS w P B S cap s X jv) (kind fuel d0 mv : Int) :
    Calls Tryz.prog 35 #[.pointer (some ⟨P, 0, none⟩), .agg (mvA kind fuel d0 mv)] w fun e w' => e = .returned (.bool (Rt.reachedB kind d0 s.m.frames.length)) ∧ Below w.heap.size w w' := by
  have hb := (Below.refl w.heap.size w).alloc (Nat.le_refl _) (.cells (mvA kind fuel d0 mv) 52)
  have bM := heap_alloc_new w (.cells (mvA kind fuel d0 mv) 52)
  have hs := h.later hb
  have HB := hide hb
  clear h hb
  go_enter Tryz.func35, Tryz.ntmps35
  go_wp2_with fail
  refine (depth_any _ P B _ _ S s.m X hs.mc).mono ?_
  rintro e w1 ⟨rfl, rfl⟩
  generalize hd : s.m.frames.length = d at *
  have HD := hide hd
  clear hs bM hd
  by_cases h0 : kind = 0
  · have HE := hide (show Rt.reachedB kind d0 d = true by unfold Rt.reachedB; rw [if_pos h0])
    have h0' : (kind == 0) = true := by simpa using h0
    clear h0
    go_wp2_with fail
    go_ret
    exact ⟨by rw [unhide HD, unhide HE]; rfl, unhide HB⟩
  · have h0' : (kind == 0) = false := by simpa using h0
    by_cases h1 : kind = 1
    · have HE := hide (show Rt.reachedB kind d0 d = decide ((d : Int) ≤ d0) by unfold Rt.reachedB; rw [if_neg h0, if_pos h1])
      have h1' : (kind == 1) = true := by simpa using h1
      clear h0 h1
      go_wp2_with fail
      go_ret
      exact ⟨by rw [unhide HD, unhide HE]; rfl, unhide HB⟩
    · have h1' : (kind == 1) = false := by simpa using h1
      by_cases h2 : kind = 2
      · have HE := hide (show Rt.reachedB kind d0 d = decide ((d : Int) < d0) by unfold Rt.reachedB; rw [if_neg h0, if_neg h1, if_pos h2])
        have h2' : (kind == 2) = true := by simpa using h2
        clear h0 h1 h2
        go_wp2_with fail
        go_ret
        exact ⟨by rw [unhide HD, unhide HE]; rfl, unhide HB⟩
      · have HE := hide (show Rt.reachedB kind d0 d = false by unfold Rt.reachedB; rw [if_neg h0, if_neg h1, if_neg h2])
        have h2' : (kind == 2) = false := by simpa using h2
        clear h0 h1 h2
        go_wp2_with fail
        go_ret
        exact ⟨by rw [unhide HD, unhide HE]; rfl, unhide HB⟩
theorem SesS.markCell {w : World} {P B : Nat} {S : Rt.Src} {cap : Int} {s : Rt.Se} {X : McX} {jv : Value} (h : SesS w P B S cap s X jv) (hm : s.marks.length = 101) (j : Nat) (hj : j < 101) : w.cell? ⟨P, 12 + j, none⟩ = some (.bool (s.marks[j]'(by omega))) := by
  have := cell_of_row w P (12 + j) _ _ _ h.mc.block
  rw [this]
  simp only [List.getElem?_toArray]
  unfold tailS
  rw [← List.append_assoc, List.getElem?_append_right (by simp), List.getElem?_map, List.getElem?_eq_getElem (by simp; omega)]
  simp
set_option maxHeartbeats 1000000 in
theorem arrived_any (w : World) (P B : Nat) (S : Rt.Src) (cap : Int) (s : Rt.Se) (X : McX) (jv : Value) (h : SesS w P B S cap s X jv) (hm : s.marks.length = 101) (kind fuel d0 mv : Int) :
    Calls Tryz.prog 23 #[.pointer (some ⟨P, 0, none⟩), .agg (mvA kind fuel d0 mv)] w fun e w' => e = .returned (.int .i64 (Rt.arrivedI s kind d0 mv)) ∧ Below w.heap.size w w' := by
  have hb := (Below.refl w.heap.size w).alloc (Nat.le_refl _) (.cells (mvA kind fuel d0 mv) 52)
  have hs := h.later hb
  have HB := hide hb
  clear h hb
  by_cases h0 : mv = 0
  · have HE := hide (show Rt.arrivedI s kind d0 mv = 0 by unfold Rt.arrivedI; rw [if_pos h0])
    have h0' : (mv == 0) = true := by simpa using h0
    clear h0
    go_enter Tryz.func23, Tryz.ntmps23
    go_wp2_with fail
    go_ret
    exact ⟨by rw [unhide HE]; rfl, unhide HB⟩
  · have h0' : (mv == 0) = false := by simpa using h0
    have HE := hide (show Rt.arrivedI s kind d0 mv = if Rt.reachedB kind d0 s.m.frames.length = true then 1 else if Rt.markedB s = true then 2 else 0 by unfold Rt.arrivedI; rw [if_neg h0])
    clear h0
    go_enter Tryz.func23, Tryz.ntmps23
    go_wp2_with fail
    refine (reached_any _ P B S cap s X jv hs kind fuel d0 mv).mono ?_
    rintro e w1 ⟨rfl, hb1⟩
    have HB1 := hide ((unhide HB).trans (hb1.mono (unhide HB).size))
    have hs1 := hs.later hb1
    clear hs hb1 HB
    cases hr : Rt.reachedB kind d0 s.m.frames.length with
    | true =>
      replace HE := hide ((unhide HE).trans (if_pos hr))
      clear hr hs1
      go_wp2_with fail
      go_ret
      exact ⟨by rw [unhide HE]; rfl, unhide HB1⟩
    | false =>
      replace HE := hide ((unhide HE).trans (show _ = if Rt.markedB s = true then (2 : Int) else 0 by rw [hr]; rfl))
      clear hr
      go_wp2_with fail
      refine (lineM_any _ P B _ _ S s.m X hs1.mc).mono ?_
      rintro e w2 ⟨rfl, rfl⟩
      by_cases hl : 0 ≤ s.m.line ∧ s.m.line < 101
      · obtain ⟨j, hj⟩ := Int.eq_ofNat_of_zero_le hl.1
        have hj101 : j < 101 := by omega
        have hjm : j < s.marks.length := by omega
        have cm := hs1.markCell hm j hj101
        have hmk : Rt.markedB s = s.marks[j]'hjm := by
          unfold Rt.markedB
          rw [show decide (0 ≤ s.m.line ∧ s.m.line < 101) = true by simpa using hl, hj]
          simp [hjm]
        replace HE := hide ((unhide HE).trans (by rw [hmk]))
        have hlo : (0 : Int) ≤ (j : Int) := by omega
        have hhi : (j : Int) < 101 := by omega
        rw [hj]
        clear hs1 hl hj hmk
        generalize s.marks[j]'hjm = b at *
        cases b with
        | true =>
          replace HE := hide ((unhide HE).trans (if_pos rfl))
          go_wp2_with fail
          go_ret
          exact ⟨by rw [unhide HE]; rfl, unhide HB1⟩
        | false =>
          replace HE := hide ((unhide HE).trans (if_neg (by simp)))
          go_wp2_with fail
          go_ret
          exact ⟨by rw [unhide HE]; rfl, unhide HB1⟩
      · have hmk : Rt.markedB s = false := by
          unfold Rt.markedB
          rw [show decide (0 ≤ s.m.line ∧ s.m.line < 101) = false by simpa using hl]
          rfl
        replace HE := hide ((unhide HE).trans (show _ = (0 : Int) by rw [hmk]; rfl))
        clear hs1 hmk
        by_cases hl0 : 0 ≤ s.m.line
        · have hl1 : ¬ s.m.line < 101 := fun e => hl ⟨hl0, e⟩
          clear hl
          go_wp2_with fail
          go_ret
          exact ⟨by rw [unhide HE]; rfl, unhide HB1⟩
        · clear hl
          go_wp2_with fail
          go_ret
          exact ⟨by rw [unhide HE]; rfl, unhide HB1⟩
set_option maxHeartbeats 1000000 in
theorem forwardEnds_any (w : World) (P B : Nat) (S : Rt.Src) (cap : Int) (s : Rt.Se) (X : McX) (jv : Value) (h : SesS w P B S cap s X jv) (hm : s.marks.length = 101) (kind fuel d0 mv : Int) :
    Calls Tryz.prog 12 #[.pointer (some ⟨P, 0, none⟩), .agg (mvA kind fuel d0 mv)] w fun e w' => e = .returned (.int .i64 (Rt.fwdEnds s kind fuel d0 mv)) ∧ Below w.heap.size w w' := by
  have hb := (Below.refl w.heap.size w).alloc (Nat.le_refl _) (.cells (mvA kind fuel d0 mv) 52)
  have bM := heap_alloc_new w (.cells (mvA kind fuel d0 mv) 52)
  have hs := h.later hb
  have HB := hide hb
  clear h hb
  go_enter Tryz.func12, Tryz.ntmps12
  go_wp2_with fail
  refine (end_any _ P B _ _ S s.m X hs.mc).mono ?_
  rintro e w1 ⟨rfl, rfl⟩
  by_cases hz : s.m.fin = 0
  · have hz' : (s.m.fin != 0) = false := by simpa using hz
    have HE := hide (show Rt.fwdEnds s kind fuel d0 mv = if Rt.arrivedI s kind d0 mv = 0 ∧ fuel ≤ mv then 4 else Rt.arrivedI s kind d0 mv by unfold Rt.fwdEnds; rw [if_neg (by simpa using hz)])
    clear hz
    go_wp2_with fail
    refine (arrived_any _ P B S cap s X jv hs hm kind fuel d0 mv).mono ?_
    rintro e w2 ⟨rfl, hb2⟩
    have HB2 := hide ((unhide HB).trans (hb2.mono (unhide HB).size))
    have bM2 := block_later bM hb2
    have m1 : w2.cell? ⟨w.heap.size, 1, none⟩ = some (.int .i64 fuel) := by have := cell_of_block bM2 1 (by simp); simpa using this
    have m3 : w2.cell? ⟨w.heap.size, 3, none⟩ = some (.int .i64 mv) := by have := cell_of_block bM2 3 (by simp); simpa using this
    clear hs hb2 bM bM2 HB
    generalize Rt.arrivedI s kind d0 mv = a at *
    by_cases ha : a = 0
    · have ha' : (a == 0) = true := by simpa using ha
      by_cases hf : fuel ≤ mv
      · replace HE := hide ((unhide HE).trans (if_pos ⟨ha, hf⟩))
        clear ha
        go_wp2_with fail
        go_ret
        exact ⟨by rw [unhide HE]; rfl, unhide HB2⟩
      · replace HE := hide ((unhide HE).trans (if_neg (fun e => hf e.2)))
        clear ha
        go_wp2_with fail
        go_ret
        exact ⟨by rw [unhide HE]; rfl, unhide HB2⟩
    · have ha' : (a == 0) = false := by simpa using ha
      replace HE := hide ((unhide HE).trans (if_neg (fun e => ha e.1)))
      clear ha
      go_wp2_with fail
      go_ret
      exact ⟨by rw [unhide HE]; rfl, unhide HB2⟩
  · have hz' : (s.m.fin != 0) = true := by simpa using hz
    have HE := hide (show Rt.fwdEnds s kind fuel d0 mv = 3 by unfold Rt.fwdEnds; rw [if_pos hz])
    clear hz hs bM
    go_wp2_with fail
    go_ret
    exact ⟨by rw [unhide HE]; rfl, unhide HB⟩
theorem SesS.c11 {w : World} {P B : Nat} {S : Rt.Src} {cap : Int} {s : Rt.Se} {X : McX} {jv : Value} (h : SesS w P B S cap s X jv) : w.cell? ⟨P, 11, none⟩ = some (.int .i64 s.idx) := by
  have := cell_of_row w P 11 _ _ _ h.mc.block
  rw [this]
  simp [tailS]
abbrev replyA (reason mv : Int) (s : Rt.Se) : Array Value := #[.int .i64 reason, .int .i64 mv, .int .i64 s.m.fin, .int .i64 s.m.line, .int .i64 (s.m.frames.length : Int), .int .i64 s.idx]
theorem six_any {w : World} {b : Nat} {v0 v1 v2 v3 v4 v5 : Value} {t : TypeId} (h : w.heap[b]? = some (.cells #[v0, v1, v2, v3, v4, v5] t (0, 0))) : w.cell? ⟨b, 0, none⟩ = some v0 ∧ w.cell? ⟨b, 1, none⟩ = some v1 ∧ w.cell? ⟨b, 2, none⟩ = some v2 ∧ w.cell? ⟨b, 3, none⟩ = some v3 ∧ w.cell? ⟨b, 4, none⟩ = some v4 ∧ w.cell? ⟨b, 5, none⟩ = some v5 ∧ ∀ i, w.frozen? ⟨b, i, none⟩ = false := by
  refine ⟨?_, ?_, ?_, ?_, ?_, ?_, fun i => free_of_block h i⟩
  · have := cell_of_block h 0 (by simp); simpa using this
  · have := cell_of_block h 1 (by simp); simpa using this
  · have := cell_of_block h 2 (by simp); simpa using this
  · have := cell_of_block h 3 (by simp); simpa using this
  · have := cell_of_block h 4 (by simp); simpa using this
  · have := cell_of_block h 5 (by simp); simpa using this
set_option maxHeartbeats 1000000 in
theorem where_any (w : World) (P B : Nat) (S : Rt.Src) (cap : Int) (s : Rt.Se) (X : McX) (jv : Value) (h : SesS w P B S cap s X jv) :
    Calls Tryz.prog 26 #[.pointer (some ⟨P, 0, none⟩)] w fun e w' => e = .returned (.agg (replyA 0 0 s)) ∧ Below w.heap.size w w' := by
  have c11 := h.c11
  have hPlt := block_lt h.mc.block
  have hne : ¬ P = w.heap.size := by omega
  have hne2 : ¬ w.heap.size = P := by omega
  have HB0 := hide ((Below.refl w.heap.size w).alloc (Nat.le_refl _) (.cells #[.int .i64 0, .int .i64 0, .int .i64 0, .int .i64 0, .int .i64 0, .int .i64 0] 26))
  have HH := hide h
  clear h
  go_enter Tryz.func26, Tryz.ntmps26
  go_wp2_with fail
  go_region_held3 (fun w' => w'.cell? ⟨P, 11, none⟩ = some (.int .i64 s.idx)) (go_keep) (first | (go_at_call 22; refine (end_any _ P B _ _ S s.m X ((unhide HH).mc.later ((unhide HB0).drew))).mono ?_; rintro e w1 ⟨rfl, rfl⟩) | (go_at_call 36; refine (lineM_any _ P B _ _ S s.m X ((unhide HH).mc.later ((unhide HB0).drew))).mono ?_; rintro e w1 ⟨rfl, rfl⟩) | (go_at_call 11; refine (depth_any _ P B _ _ S s.m X ((unhide HH).mc.later ((unhide HB0).drew))).mono ?_; rintro e w1 ⟨rfl, rfl⟩))
  go_wp2_with fail
  have HF := hide (((Below.refl w.heap.size w).alloc (Nat.le_refl _) (.cells (replyA 0 0 s) 26)).drew)
  have E := block_later (heap_alloc_new w (.cells (replyA 0 0 s) 26)) (below_to_drew _)
  refine bodyPost_ret (v := .agg (replyA 0 0 s)) ?_ rfl ⟨rfl, unhide HF⟩
  revert E
  generalize (w.alloc (.cells (replyA 0 0 s) 26)).drew = wz
  intro E
  obtain ⟨y0, y1, y2, y3, y4, y5, _⟩ := six_any E
  simp [results, Tryz.results26, go_sem, y0, y1, y2, y3, y4, y5]
set_option maxHeartbeats 1000000 in
theorem reply_any (w : World) (P B : Nat) (S : Rt.Src) (cap : Int) (s : Rt.Se) (X : McX) (jv : Value) (h : SesS w P B S cap s X jv) (kind fuel d0 mv reason : Int) :
    Calls Tryz.prog 14 #[.pointer (some ⟨P, 0, none⟩), .agg (mvA kind fuel d0 mv), .int .i64 reason] w fun e w' => e = .returned (.agg (replyA reason mv s)) ∧ Below w.heap.size w w' := by
  have HH := hide h
  have hPlt := block_lt h.mc.block
  clear h
  go_enter Tryz.func14, Tryz.ntmps14
  go_wp2_with fail
  have hbA := ((Below.refl w.heap.size w).alloc (Nat.le_refl _) (.cells (mvA kind fuel d0 mv) 52)).alloc (by simp) (.cells #[.int .i64 0, .int .i64 0, .int .i64 0, .int .i64 0, .int .i64 0, .int .i64 0] 26)
  have bM := block_alloc (heap_alloc_new w (.cells (mvA kind fuel d0 mv) 52)) (.cells #[.int .i64 0, .int .i64 0, .int .i64 0, .int .i64 0, .int .i64 0, .int .i64 0] 26)
  have bZ := alloc2_plain w (.cells (mvA kind fuel d0 mv) 52) (.cells #[.int .i64 0, .int .i64 0, .int .i64 0, .int .i64 0, .int .i64 0, .int .i64 0] 26)
  refine (where_any _ P B S cap s X jv ((unhide HH).later hbA)).mono ?_
  rintro e w1 ⟨rfl, hb1⟩
  have bM1 := block_later bM hb1
  have bZ1 := block_later bZ hb1
  have HB1 := hide (hbA.trans (hb1.mono (B' := w.heap.size) (by simp; omega)))
  have m3 : w1.cell? ⟨w.heap.size, 3, none⟩ = some (.int .i64 mv) := by have := cell_of_block bM1 3 (by simp); simpa using this
  obtain ⟨y0, y1, y2, y3, y4, y5, z⟩ := six_any bZ1
  have hlt1 := block_lt bZ1
  have hlt2 := block_lt bM1
  have hn1 : ¬ w.heap.size = w1.heap.size := by omega
  have hn2 : ¬ w.heap.size + 1 = w1.heap.size := by omega
  have hn3 : ¬ w1.heap.size = w.heap.size := by omega
  have hn4 : ¬ w1.heap.size = w.heap.size + 1 := by omega
  have HZ := hide bZ1
  clear hbA bM bZ hb1 bM1 bZ1
  go_wp2_with fail
  have hb6 := below_set6 (unhide HB1) (N := w.heap.size + 1) (by omega) (.int .i64 reason) (.int .i64 mv) (.int .i64 s.m.fin) (.int .i64 s.m.line) (.int .i64 (s.m.frames.length : Int)) (.int .i64 s.idx)
  have b6 : (W6 w1 (w.heap.size + 1) (.int .i64 reason) (.int .i64 mv) (.int .i64 s.m.fin) (.int .i64 s.m.line) (.int .i64 (s.m.frames.length : Int)) (.int .i64 s.idx)).heap[w.heap.size + 1]? = some (.cells (replyA reason mv s) 26 (0, 0)) := by
    have := set_block (set_block (set_block (set_block (set_block (set_block (unhide HZ) 0 (.int .i64 reason)) 1 (.int .i64 mv)) 2 (.int .i64 s.m.fin)) 3 (.int .i64 s.m.line)) 4 (.int .i64 (s.m.frames.length : Int))) 5 (.int .i64 s.idx)
    simpa using this
  have HF := hide (hb6.trans (((Below.refl _ (W6 w1 (w.heap.size + 1) (.int .i64 reason) (.int .i64 mv) (.int .i64 s.m.fin) (.int .i64 s.m.line) (.int .i64 (s.m.frames.length : Int)) (.int .i64 s.idx))).alloc (Nat.le_refl _) (.cells (replyA reason mv s) 26)).mono (B' := w.heap.size) hb6.size))
  have E := block_alloc b6 (.cells (replyA reason mv s) 26)
  clear hb6 b6
  refine bodyPost_ret (v := .agg (replyA reason mv s)) ?_ rfl ⟨rfl, unhide HF⟩
  clear HF
  revert E
  generalize (W6 w1 (w.heap.size + 1) (.int .i64 reason) (.int .i64 mv) (.int .i64 s.m.fin) (.int .i64 s.m.line) (.int .i64 (s.m.frames.length : Int)) (.int .i64 s.idx)).alloc (.cells (replyA reason mv s) 26) = wz
  intro E
  obtain ⟨x0, x1, x2, x3, x4, x5, _⟩ := six_any E
  simp [results, Tryz.results14, go_sem, x0, x1, x2, x3, x4, x5]
end Go.Proofs.YtbpajiljfppjcaaGreat

