/- The document's session in memory. -/
import Derived.Test.YthleadfkfnnadaaGreatRnC
import Derived.Test.YthleadfkfnnadaaGreatPlE
import Derived.Laws.OwnMore
import Derived.Test.YthleadfkfnnadaaGreatNwC
namespace Go.Proofs.YthleadfkfnnadaaGreat
open Go.RowKit
attribute [local go_sem ↓] Go.wp_at_zero Go.wp_at_succ
theorem form_case (P : List Rt.PL) (n : Int) : Rt.formAt P n = Rt.zF ∨ ∃ p ∈ P, Rt.formAt P n = p.form := by
  unfold Rt.formAt
  split
  · exact Or.inl rfl
  · cases e : P[n.toNat]? with
    | none => exact Or.inl rfl
    | some p => exact Or.inr ⟨p, List.mem_of_getElem? e, rfl⟩
theorem good_of {s : ByteArray} {pls : List Rt.PL} {inp : List Int} (h : Rt.readS s = (0, 0, pls)) (hl : inp.length ≤ 100) : Good (srcOf s pls inp) := by
  obtain ⟨h1, h2, _⟩ := Rt.read_small h
  have hsm : ∀ p ∈ (srcOf s pls inp).pls, Rt.Small p.form := fun p hp => by
    obtain ⟨q, hq, rfl⟩ := List.mem_map.mp hp
    exact h1 q hq
  refine ⟨fun n => ?_, Rt.read_fwd h, ?_⟩
  · rcases form_case (srcOf s pls inp).pls n with e | ⟨p, hp, e⟩
    · rw [e]; exact Rt.small_z
    · rw [e]; exact hsm p hp
  · refine ⟨by simpa [srcOf] using h2, hl, by simp [Rt.firstM], by simpa [Rt.firstM, srcOf] using h2, by simp [Rt.firstM], ?_, ?_, hsm⟩
    · intro f hf
      simp only [Rt.firstM, List.mem_singleton] at hf
      rw [hf]
      simp [Rt.noFm]
    · intro l hl2
      simp only [Rt.firstM, List.mem_map] at hl2
      obtain ⟨p, hp, rfl⟩ := hl2
      have := (hsm p hp).cells
      unfold Rt.zerosI
      rw [List.length_replicate]
      split <;> omega
end Go.Proofs.YthleadfkfnnadaaGreat
namespace Go.Proofs.YthleadfkfnnadaaGreat
open Go.RowKit
namespace Rt
theorem nameErr_each (pls : List PL) : ∀ (rem : List PL) (n : Nat), 0 < n → nameErr pls n rem = 0 → ∀ (j : Nat) (p : PL), rem[j]? = some p → namFit pls (n + j) p = true
  | [], _, _, _, j, p, h => by simp at h
  | q :: r, n, h0, he, j, p, h => by
    unfold nameErr at he
    split at he
    · next hq =>
      cases j with
      | zero => simp at h; subst h; exact hq
      | succ j =>
        have := nameErr_each pls r (n + 1) (by omega) he j p (by simpa using h)
        rw [show n + (j + 1) = n + 1 + j by omega]
        exact this
    · omega
end Rt
theorem nest_zero_aux : ∀ (ps : List Rt.PL) (n : Nat) (bs : List Rt.Blk) (acc ls : List Rt.PL) (b2 : List Rt.Blk) (p : Rt.PL), Rt.nestFrom ps n bs (p :: acc) = (0, ls, b2) → 0 < n → ls[0]? = some p
  | [], n, bs, acc, ls, b2, p, h, _ => by simp [Rt.nestFrom] at h; rw [← h.1]; rfl
  | q :: r, n, bs, acc, ls, b2, p, h, h0 => by
    rw [Rt.nestFrom] at h
    split at h
    · rw [List.cons_append] at h
      exact nest_zero_aux r (n + 1) _ _ ls b2 p h (by omega)
    · simp at h; omega
theorem nest_zero {ps ls : List Rt.PL} {b2 : List Rt.Blk} (h : Rt.nestFrom ps 1 [] [Rt.zPL] = (0, ls, b2)) : ls[0]? = some Rt.zPL := nest_zero_aux ps 1 [] [] ls b2 Rt.zPL h (by omega)
def Call4 (S : Rt.Src) : Prop := ∀ n, (Rt.formAt S.pls n).kind = 12 → (Rt.formAt S.pls n).values.length ≤ 4
theorem call4_of {s : ByteArray} {pls : List Rt.PL} {inp : List Int} (h : Rt.readS s = (0, 0, pls)) : Call4 (srcOf s pls inp) := by
  obtain ⟨hsm, _, _⟩ := Rt.read_small h
  obtain ⟨_, _, _, hn, _⟩ := Rt.read_nest h
  have key : ∀ p ∈ pls, p.form.kind = 12 → p.form.values.length ≤ 4 := by
    intro p hp hk
    obtain ⟨i, hi⟩ := List.mem_iff_getElem?.mp hp
    cases i with
    | zero =>
      -- the zeroth line is empty
      have h0 : pls[0]? = some Rt.zPL := by
        obtain ⟨h1, h2, h3, _, _⟩ := Rt.read_nest h
        exact nest_zero h3
      rw [h0] at hi
      injection hi with hi
      subst hi
      exact absurd hk (by decide)
    | succ i =>
      have := Rt.nameErr_each pls (pls.drop 1) 1 (by omega) hn i p (by rw [List.getElem?_drop, Nat.add_comm]; exact hi)
      unfold Rt.namFit at this
      rw [if_neg (by omega), if_neg (by omega), if_neg (by omega), if_neg (by omega), if_pos hk, Bool.and_eq_true] at this
      have h2 := this.1
      unfold Rt.callFit at h2
      rw [Bool.and_eq_true, decide_eq_true_eq, decide_eq_true_eq] at h2
      rw [← h2.2]
      unfold Rt.declForm
      rcases form_case pls (Rt.declP pls p.form.name) with e | ⟨q, hq, e⟩
      · rw [e]; simp [Rt.zF]
      · rw [e]; exact (hsm q hq).params
  intro n hk
  rcases form_case (srcOf s pls inp).pls n with e | ⟨p, hp, e⟩
  · rw [e]; simp [Rt.zF]
  · rw [e] at hk ⊢
    obtain ⟨q, hq, rfl⟩ := List.mem_map.mp hp
    exact key q hq hk
end Go.Proofs.YthleadfkfnnadaaGreat
namespace Go.Proofs.YthleadfkfnnadaaGreat
open Go.RowKit
attribute [local go_sem ↓] Go.wp_at_zero Go.wp_at_succ
structure JrS (w : World) (P : Nat) (ty : TypeId) (cs : Array Value) (cap : Int) (rs : List Rt.Rec) (low : Int) (jv : Value) : Prop where
  block : w.heap[P]? = some (.cells cs ty (0, 0))
  c8 : cs[8]? = some (.int .i64 cap)
  c9 : cs[9]? = some jv
  c10 : cs[10]? = some (.int .i64 low)
  own : w.ownsRow 0 162 5 jv rs.length (recsCells rs)
  ty : ty ≠ 162
section
variable {w : World} {P : Nat} {ty : TypeId} {cs : Array Value} {cap : Int} {rs : List Rt.Rec} {low : Int} {jv : Value} (h : JrS w P ty cs cap rs low jv)
include h
theorem JrS.k9 : w.cell? ⟨P, 9, none⟩ = some jv := (cell_of_row w P 9 cs ty (0, 0) h.block).trans h.c9
theorem JrS.k10 : w.cell? ⟨P, 10, none⟩ = some (.int .i64 low) := (cell_of_row w P 10 cs ty (0, 0) h.block).trans h.c10
theorem JrS.ne : jv.ownBlock ≠ some P := by
  intro e
  obtain ⟨c, hc⟩ := own_blk h.own e
  rw [h.block] at hc
  injection hc with hc
  injection hc with _ hc
  exact h.ty hc
end
structure JFr (P : Nat) (jv : Value) (w w' : World) : Prop where
  os : w'.os = w.os
  tape : w'.tape = w.tape
  output : w'.output = w.output
  size : w.heap.size ≤ w'.heap.size
  block : ∀ k, k < w.heap.size → k ≠ P → jv.ownBlock ≠ some k → w'.heap[k]? = w.heap[k]?
namespace Rt
structure Se where
  m : Mc
  recs : List Rec
  low : Int
  idx : Int
  marks : List Bool
end Rt
def tailS (cap : Int) (jv : Value) (low idx : Int) (marks : List Bool) : List Value := [.int .i64 cap, jv, .int .i64 low, .int .i64 idx] ++ marks.map Value.bool
structure SesS (w : World) (P B : Nat) (S : Rt.Src) (cap : Int) (s : Rt.Se) (X : McX) (jv : Value) : Prop where
  mc : McS w P B 105 (tailS cap jv s.low s.idx s.marks) S s.m X
  jr : w.ownsRow 0 162 5 jv s.recs.length (recsCells s.recs)
theorem SesS.later {w w' : World} {P B : Nat} {S : Rt.Src} {cap : Int} {s : Rt.Se} {X : McX} {jv : Value} (h : SesS w P B S cap s X jv) (hb : Below w.heap.size w w') : SesS w' P B S cap s X jv := ⟨h.mc.later hb, own_later h.jr hb⟩
theorem SesS.jrS {w : World} {P B : Nat} {S : Rt.Src} {cap : Int} {s : Rt.Se} {X : McX} {jv : Value} (h : SesS w P B S cap s X jv) : JrS w P 105 (mcCells X s.m (tailS cap jv s.low s.idx s.marks)) cap s.recs s.low jv :=
  ⟨h.mc.block, by simp [mcCells, tailS], by simp [mcCells, tailS], by simp [mcCells, tailS], h.jr, by decide⟩
structure SFr (P : Nat) (X : McX) (jv : Value) (w w' : World) : Prop where
  os : w'.os = w.os
  tape : w'.tape = w.tape
  output : w'.output = w.output
  size : w.heap.size ≤ w'.heap.size
  block : ∀ k, k < w.heap.size → k ∉ P :: blkX X → jv.ownBlock ≠ some k → w'.heap[k]? = w.heap[k]?
theorem SFr.of_below {P : Nat} (X : McX) (jv : Value) {w w' : World} (h : Below w.heap.size w w') : SFr P X jv w w' := ⟨h.os, h.tape, h.output, h.size, fun k hk _ _ => h.block k hk⟩
structure SAft (P B : Nat) (S : Rt.Src) (cap : Int) (X X' : McX) (jv jv' : Value) (s' : Rt.Se) (w w' : World) : Prop where
  ses : SesS w' P B S cap s' X' jv'
  frm : SFr P X jv w w'
  grow : Grows w (blkX X) (blkX X')
  jg : ∀ g, jv'.ownBlock = some g → jv.ownBlock = some g ∨ w.heap.size ≤ g
  lt : P < w.heap.size
theorem SAft.start {w w' : World} {P B : Nat} {S : Rt.Src} {cap : Int} {s : Rt.Se} {X : McX} {jv : Value} (h : SesS w P B S cap s X jv) (hb : Below w.heap.size w w') : SAft P B S cap X X jv jv s w w' :=
  ⟨h.later hb, SFr.of_below X jv hb, Grows.refl _ _, fun _ h => Or.inl h, block_lt h.mc.block⟩
theorem SAft.trans {w w1 w2 : World} {P B : Nat} {S : Rt.Src} {cap : Int} {s1 s2 : Rt.Se} {X X1 X2 : McX} {jv jv1 jv2 : Value} (h : SAft P B S cap X X1 jv jv1 s1 w w1) (g : SAft P B S cap X1 X2 jv1 jv2 s2 w1 w2) : SAft P B S cap X X2 jv jv2 s2 w w2 := by
  refine ⟨g.ses, ⟨g.frm.os.trans h.frm.os, g.frm.tape.trans h.frm.tape, g.frm.output.trans h.frm.output, Nat.le_trans h.frm.size g.frm.size, ?_⟩, h.grow.trans g.grow h.frm.size, ?_, h.lt⟩
  · intro k hk hn hv
    refine (g.frm.block k (Nat.lt_of_lt_of_le hk h.frm.size) (fun hm => ?_) (fun e => ?_)).trans (h.frm.block k hk hn hv)
    · rcases List.mem_cons.mp hm with rfl | hm
      · exact hn (List.mem_cons_self ..)
      · rcases h.grow k hm with h' | h'
        · exact hn (List.mem_cons_of_mem _ h')
        · omega
    · rcases h.jg k e with h' | h'
      · exact hv h'
      · omega
  · intro q hq
    rcases g.jg q hq with h' | h'
    · exact h.jg q h'
    · exact Or.inr (Nat.le_trans h.frm.size h')
theorem McS.retail {w w2 : World} {P B : Nat} {ty : TypeId} {tail tail' : List Value} {S : Rt.Src} {m : Rt.Mc} {X : McX} {jv : Value} {n : Nat} {xs : List Value} (h : McS w P B ty tail S m X) (hj : w.ownsRow 0 162 5 jv n xs) (hf : JFr P jv w w2) (hb : w2.heap[P]? = some (.cells (mcCells X m tail') ty (0, 0))) : McS w2 P B ty tail' S m X := by
  have hjt : ∀ k, jv.ownBlock = some k → ∃ c, w.heap[k]? = some (.cells c 162 (0, 0)) := fun k hk => own_blk hj hk
  refine h.next hb hf.size ?_ ?_ rfl rfl h.fl h.vl
  · intro k x hx hne hp
    rw [hf.block k (block_lt hx) hne (fun e => by
      obtain ⟨c, hc⟩ := hjt k e
      rw [hx] at hc
      injection hc with hc
      obtain ⟨c', t', e2, hp⟩ := hp
      rw [hc] at e2
      injection e2 with _ e2
      rw [← e2] at hp
      exact absurd hp (by unfold PTy; decide))]
    exact hx
  · refine ⟨fun r hr => own_same (h.own.rows r hr) (fun g hg => ?_), h.own.apart⟩
    obtain ⟨c, hc⟩ := own_blk (h.own.rows r hr) hg
    have h3 := rows_ty3 hr
    refine hf.block g (block_lt hc) (fun e => ?_) (fun e => ?_)
    · rw [e, h.block] at hc
      injection hc with hc
      injection hc with _ hc
      rw [← hc] at h3
      rcases h3 with e | e | e
      · exact h.ty.1 e
      · exact h.ty.2.1 e
      · exact h.ty.2.2.1 e
    · obtain ⟨c', hc'⟩ := hjt g e
      rw [hc] at hc'
      injection hc' with hc'
      injection hc' with _ hc'
      rw [hc'] at h3
      exact absurd h3 (by decide)
theorem depth_any (w : World) (M B : Nat) (ty : TypeId) (tail : List Value) (S : Rt.Src) (m : Rt.Mc) (X : McX) (h : McS w M B ty tail S m X) : Calls Tryz.prog 101 #[.pointer (some ⟨M, 0, none⟩)] w fun e w' => e = .returned (.int .i64 (m.frames.length : Int)) ∧ w' = w := by
  have c2 := h.c2
  obtain ⟨fad, fcap, hfv⟩ := ownsRow_form h.frames
  rw [hfv] at c2
  clear h hfv
  go_enter Tryz.func101, Tryz.ntmps101
  go_wp2_with fail
  go_ret
  exact ⟨rfl, rfl⟩
theorem lineM_any (w : World) (M B : Nat) (ty : TypeId) (tail : List Value) (S : Rt.Src) (m : Rt.Mc) (X : McX) (h : McS w M B ty tail S m X) : Calls Tryz.prog 100 #[.pointer (some ⟨M, 0, none⟩)] w fun e w' => e = .returned (.int .i64 m.line) ∧ w' = w := by
  have c6 := h.c6
  clear h
  go_enter Tryz.func100, Tryz.ntmps100
  go_wp2_with fail
  go_ret
  exact ⟨rfl, rfl⟩
theorem SesS.markCell {w : World} {P B : Nat} {S : Rt.Src} {cap : Int} {s : Rt.Se} {X : McX} {jv : Value} (h : SesS w P B S cap s X jv) (hm : s.marks.length = 101) (j : Nat) (hj : j < 101) : w.cell? ⟨P, 12 + j, none⟩ = some (.bool (s.marks[j]'(by omega))) := by
  have := cell_of_row w P (12 + j) _ _ _ h.mc.block
  rw [this]
  simp only [List.getElem?_toArray]
  unfold tailS
  rw [← List.append_assoc, List.getElem?_append_right (by simp), List.getElem?_map, List.getElem?_eq_getElem (by simp; omega)]
  simp
theorem SesS.c11 {w : World} {P B : Nat} {S : Rt.Src} {cap : Int} {s : Rt.Se} {X : McX} {jv : Value} (h : SesS w P B S cap s X jv) : w.cell? ⟨P, 11, none⟩ = some (.int .i64 s.idx) := by
  have := cell_of_row w P 11 _ _ _ h.mc.block
  rw [this]
  simp [tailS]
abbrev replyA (reason mv : Int) (s : Rt.Se) : Array Value := #[.int .i64 reason, .int .i64 mv, .int .i64 s.m.fin, .int .i64 s.m.line, .int .i64 (s.m.frames.length : Int), .int .i64 s.idx]
theorem six_any {w : World} {b : Nat} {v0 v1 v2 v3 v4 v5 : Value} {t : TypeId} (h : w.heap[b]? = some (.cells #[v0, v1, v2, v3, v4, v5] t (0, 0))) : w.cell? ⟨b, 0, none⟩ = some v0 ∧ w.cell? ⟨b, 1, none⟩ = some v1 ∧ w.cell? ⟨b, 2, none⟩ = some v2 ∧ w.cell? ⟨b, 3, none⟩ = some v3 ∧ w.cell? ⟨b, 4, none⟩ = some v4 ∧ w.cell? ⟨b, 5, none⟩ = some v5 ∧ ∀ i, w.frozen? ⟨b, i, none⟩ = false := by
  refine ⟨?_, ?_, ?_, ?_, ?_, ?_, fun i => free_of_block h i⟩
  · have := cell_of_block h 0 (by simp); simpa using this
  · have := cell_of_block h 1 (by simp); simpa using this
  · have := cell_of_block h 2 (by simp); simpa using this
  · have := cell_of_block h 3 (by simp); simpa using this
  · have := cell_of_block h 4 (by simp); simpa using this
  · have := cell_of_block h 5 (by simp); simpa using this
set_option maxHeartbeats 1000000 in
theorem where_any (w : World) (P B : Nat) (S : Rt.Src) (cap : Int) (s : Rt.Se) (X : McX) (jv : Value) (h : SesS w P B S cap s X jv) :
    Calls Tryz.prog 59 #[.pointer (some ⟨P, 0, none⟩)] w fun e w' => e = .returned (.agg (replyA 0 0 s)) ∧ Below w.heap.size w w' := by
  have c11 := h.c11
  have hPlt := block_lt h.mc.block
  have hne : ¬ P = w.heap.size := by omega
  have hne2 : ¬ w.heap.size = P := by omega
  have HB0 := hide ((Below.refl w.heap.size w).alloc (Nat.le_refl _) (.cells #[.int .i64 0, .int .i64 0, .int .i64 0, .int .i64 0, .int .i64 0, .int .i64 0] 111))
  have HH := hide h
  clear h
  go_enter Tryz.func59, Tryz.ntmps59
  go_wp2_with fail
  go_region_held3 (fun w' => w'.cell? ⟨P, 11, none⟩ = some (.int .i64 s.idx)) (go_keep) (first | (go_at_call 50; refine (end_any _ P B _ _ S s.m X ((unhide HH).mc.later ((unhide HB0).drew))).mono ?_; rintro e w1 ⟨rfl, rfl⟩) | (go_at_call 100; refine (lineM_any _ P B _ _ S s.m X ((unhide HH).mc.later ((unhide HB0).drew))).mono ?_; rintro e w1 ⟨rfl, rfl⟩) | (go_at_call 101; refine (depth_any _ P B _ _ S s.m X ((unhide HH).mc.later ((unhide HB0).drew))).mono ?_; rintro e w1 ⟨rfl, rfl⟩))
  go_wp2_with fail
  have HF := hide (((Below.refl w.heap.size w).alloc (Nat.le_refl _) (.cells (replyA 0 0 s) 111)).drew)
  have E := block_later (heap_alloc_new w (.cells (replyA 0 0 s) 111)) (below_to_drew _)
  refine bodyPost_ret (v := .agg (replyA 0 0 s)) ?_ rfl ⟨rfl, unhide HF⟩
  revert E
  generalize (w.alloc (.cells (replyA 0 0 s) 111)).drew = wz
  intro E
  obtain ⟨y0, y1, y2, y3, y4, y5, _⟩ := six_any E
  simp [results, Tryz.results59, go_sem, y0, y1, y2, y3, y4, y5]
theorem SAft.below {w w1 w2 : World} {P B : Nat} {S : Rt.Src} {cap : Int} {s' : Rt.Se} {X X' : McX} {jv jv' : Value} (h : SAft P B S cap X X' jv jv' s' w w1) (hb : Below w1.heap.size w1 w2) : SAft P B S cap X X' jv jv' s' w w2 := h.trans (SAft.start h.ses hb)
end Go.Proofs.YthleadfkfnnadaaGreat
namespace Go.Proofs.YthleadfkfnnadaaGreat
open Go.RowKit
namespace Rt
def atM (S : Src) : Nat → Mc
  | 0 => firstM S
  | n + 1 => (stepM S (atM S n)).1
def recsAt (S : Src) (i : Nat) : List Rec := (stepM S (atM S i)).2
def recsOf (S : Src) (lo : Nat) : Nat → List Rec
  | 0 => []
  | k + 1 => recsOf S lo k ++ recsAt S (lo + k)
def seAt (S : Src) (n low : Nat) (marks : List Bool) : Se := ⟨atM S n, recsOf S low (n - low), low, n, marks⟩
structure SeOk (S : Src) (cap : Int) (n low : Nat) : Prop where
  run : ∀ i, i < n → (atM S i).fin = 0
  le : low ≤ n
  room : ((recsOf S low (n - low)).length : Int) ≤ cap
end Rt
section
variable (f : Nat → Rf.Pl)
def trC : Nat → List PlX → List Value
  | _, [] => []
  | i, X :: r => (plA X.fv X.vv X.cv X.ov (f i)).toList ++ trC (i + 1) r
theorem trC_get : ∀ i (xs : List PlX) k (h : k < xs.length) j (hj : j < 7), (trC f i xs)[k * 7 + j]? = some ((plA xs[k].fv xs[k].vv xs[k].cv xs[k].ov (f (i + k)))[j]'(by simpa [plA] using hj))
  | _, [], k, h, _, _ => by simp at h
  | i, X :: r, 0, _, j, hj => by
    have hl : (plA X.fv X.vv X.cv X.ov (f i)).toList.length = 7 := by simp [plA]
    rw [trC, Nat.zero_mul, Nat.zero_add, List.getElem?_append_left (by omega)]
    simp
  | i, X :: r, k + 1, h, j, hj => by
    have hl : (plA X.fv X.vv X.cv X.ov (f i)).toList.length = 7 := by simp [plA]
    have := trC_get (i + 1) r k (by simpa using h) j hj
    rw [trC, List.getElem?_append_right (by omega), hl, show (k + 1) * 7 + j - 7 = k * 7 + j by omega, this]
    simp only [List.getElem_cons_succ]
    rw [show i + 1 + k = i + (k + 1) by omega]
end
structure CuX where
  sb : Nat
  sg : Nat
  sc : Nat
  iv : Value
  tv : Value
  rv : Value
  mv : Value
  xs : List PlX
def cuA (Y : CuX) (cap : Int) (n low : Nat) : Array Value := #[.pointer (some ⟨Y.sb, 0, none⟩), Y.iv, .int .i64 cap, Y.tv, Y.rv, .int .i64 n, .int .i64 low, Y.mv]
def recL (S : Rt.Src) (n : Nat) : List Int := (List.range n).map (fun i => ((Rt.recsAt S i).length : Int))
def plN (pls : List Rt.PL) (S : Rt.Src) (i : Nat) : Rf.Pl := Rf.plOf pls (Rt.atM S i)
structure CurG (w : World) (C : Nat) (pls : List Rt.PL) (ls : List (List ByteArray)) (S : Rt.Src) (cap : Int) (len n low : Nat) (mk : List Bool) (Y : CuX) : Prop where
  block : w.heap[C]? = some (.cells (cuA Y cap n low) 109 (0, 0))
  src : SrcG w Y.sb Y.sg Y.sc ls
  inp : w.ownsRow 0 3 1 Y.iv S.input.length (intsV S.input)
  tr : w.ownsRow 0 72 7 Y.tv (len + 1) (trC (plN pls S) 0 Y.xs)
  xl : Y.xs.length = len + 1
  plq : ∀ i (h : i < Y.xs.length), PlQ w 0 (plN pls S i) Y.xs[i]
  rcs : w.ownsRow 0 3 1 Y.rv len (intsV (recL S len))
  mks : w.ownsRow 0 4 1 Y.mv mk.length (mk.map Value.bool)
  far : ∀ g, Y.rv.ownBlock = some g → Y.iv.ownBlock ≠ some g ∧ ∀ i (h : i < Y.xs.length), g ∉ blks (plRows Y.xs[i] (plN pls S i))
def cuM (C : Nat) (Y : CuX) : List Nat := C :: (Y.tv.ownBlock.toList ++ Y.rv.ownBlock.toList ++ Y.mv.ownBlock.toList)
def cuP (pls : List Rt.PL) (S : Rt.Src) : Nat → List PlX → List Nat
  | _, [] => []
  | i, X :: r => blks (plRows X (plN pls S i)) ++ cuP pls S (i + 1) r
def cuL (pls : List Rt.PL) (S : Rt.Src) (C : Nat) (Y : CuX) : List Nat := cuM C Y ++ (Y.iv.ownBlock.toList ++ cuP pls S 0 Y.xs)
theorem cuP_in {pls : List Rt.PL} {S : Rt.Src} : ∀ {i : Nat} {xs : List PlX} {k : Nat} (h : k < xs.length) {g : Nat}, g ∈ blks (plRows xs[k] (plN pls S (i + k))) → g ∈ cuP pls S i xs
  | _, [], k, h, _, _ => by simp at h
  | i, X :: r, 0, _, g, hg => List.mem_append_left _ (by simpa using hg)
  | i, X :: r, k + 1, h, g, hg => by
    refine List.mem_append_right _ (cuP_in (i := i + 1) (k := k) (by simpa using h) ?_)
    rw [show i + 1 + k = i + (k + 1) by omega]
    simpa using hg
theorem in_cuP {pls : List Rt.PL} {S : Rt.Src} : ∀ {i : Nat} {xs : List PlX} {g : Nat}, g ∈ cuP pls S i xs → ∃ k, ∃ h : k < xs.length, g ∈ blks (plRows xs[k] (plN pls S (i + k)))
  | _, [], _, hg => by simp [cuP] at hg
  | i, X :: r, g, hg => by
    rcases List.mem_append.mp hg with hg | hg
    · exact ⟨0, by simp, by simpa using hg⟩
    · obtain ⟨k, h, h2⟩ := in_cuP hg
      refine ⟨k + 1, by simpa using h, ?_⟩
      rw [show i + (k + 1) = i + 1 + k by omega]
      simpa using h2
section
variable {w w' : World} {C : Nat} {pls : List Rt.PL} {ls : List (List ByteArray)} {S : Rt.Src} {cap : Int} {len n low : Nat} {mk : List Bool} {Y : CuX}
theorem mem_tol {o : Option Nat} {g : Nat} (h : o = some g) : g ∈ o.toList := by rw [h]; simp
theorem CurG.stay (h : CurG w C pls ls S cap len n low mk Y) (hk : ∀ k ∈ cuL pls S C Y, w'.heap[k]? = w.heap[k]?) (hs : ∀ k t, STy t → TyAt w k t → w'.heap[k]? = w.heap[k]?) : CurG w' C pls ls S cap len n low mk Y := by
  have hm : ∀ k ∈ cuM C Y, w'.heap[k]? = w.heap[k]? := fun k hk' => hk k (List.mem_append_left _ hk')
  refine ⟨(hm C (List.mem_cons_self ..)).trans h.block, h.src.stay hs, own_same h.inp (fun g hg => hk g (List.mem_append_right _ (List.mem_append_left _ (mem_tol hg)))), own_same h.tr (fun g hg => hm g ?_), h.xl, fun i hi => ?_, own_same h.rcs (fun g hg => hm g ?_), own_same h.mks (fun g hg => hm g ?_), h.far⟩
  · exact List.mem_cons_of_mem _ (List.mem_append_left _ (List.mem_append_left _ (mem_tol hg)))
  · have hq := h.plq i hi
    refine ⟨⟨fun r hr => own_same (hq.own.rows r hr) (fun g hg => hk g (List.mem_append_right _ (List.mem_append_right _ (cuP_in (i := 0) hi ?_)))), hq.own.apart⟩, hq.fl, hq.cl, hq.new⟩
    rw [Nat.zero_add]
    exact mem_blks hr hg
  · exact List.mem_cons_of_mem _ (List.mem_append_left _ (List.mem_append_right _ (mem_tol hg)))
  · exact List.mem_cons_of_mem _ (List.mem_append_right _ (mem_tol hg))
theorem CurG.lt (h : CurG w C pls ls S cap len n low mk Y) {k : Nat} (hk : k ∈ cuL pls S C Y) : k < w.heap.size := by
  have ot : ∀ {o : Option Nat} {g : Nat}, g ∈ o.toList → o = some g := fun hg => by simpa using hg
  rcases List.mem_append.mp hk with hk | hk
  · rcases List.mem_cons.mp hk with rfl | hk
    · exact block_lt h.block
    · rcases List.mem_append.mp hk with hk | hk
      · rcases List.mem_append.mp hk with hk | hk
        · exact (h.tr.lt k (ot hk)).2
        · exact (h.rcs.lt k (ot hk)).2
      · exact (h.mks.lt k (ot hk)).2
  · rcases List.mem_append.mp hk with hk | hk
    · exact (h.inp.lt k (ot hk)).2
    · obtain ⟨i, hi, hg⟩ := in_cuP hk
      rw [Nat.zero_add] at hg
      exact (h.plq i hi).own.lt k hg
theorem CurG.later (h : CurG w C pls ls S cap len n low mk Y) (hb : Below w.heap.size w w') : CurG w' C pls ls S cap len n low mk Y :=
  h.stay (fun k hk => hb.block k (h.lt hk)) (fun k _ _ ⟨_, hc⟩ => hb.block k (block_lt hc))
theorem CurG.cells (h : CurG w C pls ls S cap len n low mk Y) {k : Nat} (hk : k ≤ len) : ∃ g c X, Y.xs[k]? = some X ∧ Y.tv = .slice (some ⟨g, 0, none⟩) (len + 1) c ∧ PlQ w 0 (plN pls S k) X ∧ ∀ j (hj : j < 7), w.cell? ⟨g, k * 7 + j, none⟩ = some ((plA X.fv X.vv X.cv X.ov (plN pls S k))[j]'(by simpa [plA] using hj)) := by
  have hkl : k < Y.xs.length := by rw [h.xl]; omega
  have hg := trC_get (plN pls S) 0 Y.xs k hkl
  rw [Nat.zero_add] at hg
  obtain ⟨g, c, e, _, _, _⟩ := own_cell h.tr (hg 0 (by omega))
  refine ⟨g, c, Y.xs[k], List.getElem?_eq_getElem hkl, e, h.plq k hkl, fun j hj => ?_⟩
  obtain ⟨g', c', e', _, _, r⟩ := own_cell h.tr (hg j hj)
  rw [e] at e'
  injection e' with e' _ _
  injection e' with e'
  injection e' with e'
  subst e'
  exact r
end
end Go.Proofs.YthleadfkfnnadaaGreat
