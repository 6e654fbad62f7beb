/- Run, of a source that calls nothing. -/
import Derived.Test.YthleadfkfnnadaaGreatNwC
import Derived.Test.YthleadfkfnnadaaGreatPlE
import Derived.Test.YthleadfkfnnadaaGreatRefW
namespace Go.Proofs.YthleadfkfnnadaaGreat
open Go.RowKit
theorem mem_blks_mid {A B : List Rw} {r : Rw} {k : Nat} (h : k ∈ blks (A ++ r :: B)) : k ∈ blks (A ++ B) ∨ r.v.ownBlock = some k := by
  rw [blks_app, blks_cons] at h
  rw [blks_app]
  rcases List.mem_append.mp h with h | h
  · exact Or.inl (List.mem_append_left _ h)
  · cases e : r.v.ownBlock with
    | none => rw [e] at h; exact Or.inl (List.mem_append_right _ h)
    | some g =>
      rw [e] at h
      rcases List.mem_cons.mp h with rfl | h
      · exact Or.inr rfl
      · exact Or.inl (List.mem_append_right _ h)
structure Good (S : Rt.Src) : Prop where
  small : ∀ n, Rt.Small (Rt.formAt S.pls n)
  fwd : LkFwd S.pls S.lk
  mok : Mok S (Rt.firstM S)
structure KeepG (S : Rt.Src) (m : Rt.Mc) : Prop where
  mok : Mok S m
  lo : 1 ≤ m.frames.length
  hi : m.frames.length ≤ 6
  out : m.output.length ≤ 50
theorem first_keepG {S : Rt.Src} (hS : Good S) : KeepG S (Rt.firstM S) := ⟨hS.mok, by simp [Rt.firstM], by simp [Rt.firstM], by simp [Rt.firstM]⟩
namespace Rf
open Rt
section
variable {ps pls : List PL} {ls : List (List ByteArray)} {S : Rt.Src} {m : Mc} (C : Ctx ps pls ls S) (F : Fine ps pls ls S m) (hfin : m.fin = 0) {l : Nat} (h1 : l < ps.length) (h2 : m.line = (l : Int) + 1) (h4 : stp ps l ≠ [])
include C h1 h2 h4
include F hfin
end
end Rf
theorem plRows_ty {X : PlX} {p : Rf.Pl} {r : Rw} (h : r ∈ plRows X p) : r.t = 3 ∨ r.t = 130 ∨ r.t = 24 := by
  unfold plRows at h
  have hz : ∀ (a : List Value) (b : List (List Int)), r ∈ List.zipWith iRow a b → r.t = 3 := by
    intro a
    induction a with
    | nil => intro b hb; simp at hb
    | cons x a ih => intro b hb; cases b with
      | nil => simp at hb
      | cons y b =>
        rw [List.zipWith_cons_cons] at hb
        rcases List.mem_cons.mp hb with rfl | hb
        · rfl
        · exact ih b hb
  rcases List.mem_append.mp h with h | h
  · simp only [List.mem_cons, List.not_mem_nil, or_false] at h
    rcases h with rfl | rfl | rfl | rfl
    · exact Or.inr (Or.inl rfl)
    · exact Or.inl rfl
    · exact Or.inr (Or.inr rfl)
    · exact Or.inl rfl
  · rcases List.mem_append.mp h with h | h
    · exact Or.inl (hz _ _ h)
    · exact Or.inl (hz _ _ h)
theorem PlO.apart {w : World} {B P : Nat} {p : Rf.Pl} {X : PlX} (h : PlO w B P p X) {k : Nat} (hk : k ∈ blks (plRows X p)) : k ≠ P := by
  obtain ⟨r, hr, hg⟩ := List.mem_filterMap.mp hk
  obtain ⟨c, hc⟩ := own_blk (h.own.rows r hr) hg
  rintro rfl
  rw [h.block] at hc
  injection hc with hc
  injection hc with _ hc
  rcases plRows_ty hr with e | e | e <;> rw [e] at hc <;> exact absurd hc (by decide)
theorem PlO.same {w w' : World} {B P : Nat} {p p' : Rf.Pl} {X : PlX} (h : PlO w B P p X) (hk : ∀ k ∈ blks (plRows X p), w'.heap[k]? = w.heap[k]?) (hP : w'.heap[P]? = some (.cells (plA X.fv X.vv X.cv X.ov p') 72 (0, 0))) (hr : plRows X p' = plRows X p) (hf : p'.frames.length = p.frames.length) (hc : p'.cells.length = p.cells.length) : PlO w' B P p' X :=
  ⟨hP, by rw [hr]; exact ⟨fun r hm => own_same (h.own.rows r hm) (fun g hg => hk g (mem_blks hm hg)), h.own.apart⟩, by rw [hf]; exact h.fl, by rw [hc]; exact h.cl, by rw [hr]; exact h.new, h.here⟩
theorem PlO.cell {w : World} {B P : Nat} {p p' : Rf.Pl} {X : PlX} (h : PlO w B P p X) (i : Nat) (v : Value) (hA : (plA X.fv X.vv X.cv X.ov p).setIfInBounds i v = plA X.fv X.vv X.cv X.ov p') (hr : plRows X p' = plRows X p) (hf : p'.frames.length = p.frames.length) (hc : p'.cells.length = p.cells.length) : PlO (w.setCell ⟨P, i, none⟩ v) B P p' X ∧ Below B w (w.setCell ⟨P, i, none⟩ v) :=
  ⟨h.same (fun k hk => Below.heap_setCell w ⟨P, i, none⟩ _ k (h.apart hk)) (by rw [set_block h.block, hA]) hr hf hc, below_one (Below.refl B w) h.here _ _⟩
theorem PlO.setLine {w : World} {B P : Nat} {p : Rf.Pl} {X : PlX} (h : PlO w B P p X) (n : Int) : PlO (w.setCell ⟨P, 5, none⟩ (.int .i64 n)) B P { p with line := n } X ∧ Below B w (w.setCell ⟨P, 5, none⟩ (.int .i64 n)) := h.cell 5 _ rfl rfl rfl rfl
theorem PlO.pushOut {w wy w1 : World} {B P : Nat} {p : Rf.Pl} {X : PlX} (h : PlO w B P p X) (hB : B ≤ w.heap.size) (hby : Below w.heap.size w wy) (x : Int) (hg : wy.grownBy w1 X.ov.ownBlock) (ov' : Value) (hown : w1.ownsRow 0 3 1 ov' (p.out.length + 1) (intsV p.out ++ [.int .i64 x])) (hat : ∀ g, ov'.ownBlock = some g → X.ov.ownBlock = some g ∨ w.heap.size ≤ g) :
    PlO (w1.setCell ⟨P, 4, none⟩ ov') B P { p with out := p.out ++ [x] } { X with ov := ov' } ∧ Below B w (w1.setCell ⟨P, 4, none⟩ ov') := by
  have hkx : ∀ k, k < w.heap.size → X.ov.ownBlock ≠ some k → w1.heap[k]? = w.heap[k]? := fun k hk hv => (hg.block k (Nat.lt_of_lt_of_le hk hby.size) (Ne.symm hv)).trans (hby.block k hk)
  have hPne : X.ov.ownBlock ≠ some P := fun e => h.apart (mem_blks (r := iRow X.ov p.out) (by simp [plRows]) e) rfl
  have hPlt := block_lt h.block
  have hbP : w1.heap[P]? = some (.cells (plA X.fv X.vv X.cv X.ov p) 72 (0, 0)) := (hkx P hPlt hPne).trans h.block
  have ho := h.own
  have hre : plRows X p = [frRow X.fv X.fps p.frames, iRow X.vv p.vars, lRow X.cv X.cps p.cells.length] ++ iRow X.ov p.out :: (List.zipWith iRow X.fps (p.frames.map Rf.Fr.args) ++ List.zipWith iRow X.cps p.cells) := by simp [plRows]
  rw [hre] at ho
  have hnew : iRow ov' (p.out ++ [x]) = ⟨3, 1, ov', p.out.length + 1, intsV p.out ++ [.int .i64 x]⟩ := by simp [iRow, intsV]
  obtain ⟨o1, o2⟩ := Own.swap (w' := w1) ho (r' := iRow ov' (p.out ++ [x])) hkx (by rw [hnew]; exact hown) hat
  have hre' : plRows { X with ov := ov' } { p with out := p.out ++ [x] } = [frRow X.fv X.fps p.frames, iRow X.vv p.vars, lRow X.cv X.cps p.cells.length] ++ iRow ov' (p.out ++ [x]) :: (List.zipWith iRow X.fps (p.frames.map Rf.Fr.args) ++ List.zipWith iRow X.cps p.cells) := by simp [plRows]
  have hnewk : ∀ k ∈ blks (plRows { X with ov := ov' } { p with out := p.out ++ [x] }), B ≤ k := by
    intro k hk
    rw [hre'] at hk
    rcases o2 k hk with hk | hk
    · rw [← hre] at hk; exact h.new k hk
    · omega
  have hPn : ∀ k ∈ blks (plRows { X with ov := ov' } { p with out := p.out ++ [x] }), k ≠ P := by
    intro k hk
    rw [hre'] at hk
    rcases o2 k hk with hk | hk
    · rw [← hre] at hk; exact h.apart hk
    · omega
  refine ⟨⟨?_, ?_, h.fl, h.cl, hnewk, h.here⟩, ?_⟩
  · rw [set_block hbP]; rfl
  · rw [← hre'] at o1
    exact ⟨fun r hm => own_same (o1.rows r hm) (fun g hg => Below.heap_setCell w1 ⟨P, 4, none⟩ _ g (hPn g (mem_blks hm hg))), o1.apart⟩
  · refine below_one ?_ h.here _ _
    refine ⟨hg.os.trans hby.os, hg.tape.trans hby.tape, hg.output.trans hby.output, Nat.le_trans hby.size hg.size, fun k hk => hkx k (by omega) (fun e => ?_)⟩
    have := h.new k (mem_blks (r := iRow X.ov p.out) (by simp [plRows]) e)
    omega
theorem PlO.pushFrame {w wx wy w1 : World} {B P : Nat} {p : Rf.Pl} {X : PlX} (h : PlO w B P p X) (hB : B ≤ w.heap.size) (hb : Below w.heap.size w wx) (hby : Below wx.heap.size wx wy) (pv : Value) (f : Rf.Fr) (hn : wx.ownsRow w.heap.size 3 1 pv f.args.length (intsV f.args))
    (hg : wy.grownBy w1 X.fv.ownBlock) (fv' : Value) (hown : w1.ownsRow 0 130 3 fv' (p.frames.length + 1) (frCells X.fps p.frames ++ [.int .i64 f.proc, pv, .int .i64 f.call])) (hat : ∀ g, fv'.ownBlock = some g → X.fv.ownBlock = some g ∨ wx.heap.size ≤ g) :
    PlO (w1.setCell ⟨P, 0, none⟩ fv') B P { p with frames := p.frames ++ [f] } { X with fv := fv', fps := X.fps ++ [pv] } ∧ Below B w (w1.setCell ⟨P, 0, none⟩ fv') := by
  have hkx : ∀ k, k < wx.heap.size → X.fv.ownBlock ≠ some k → w1.heap[k]? = wx.heap[k]? := fun k hk hv => (hg.block k (Nat.lt_of_lt_of_le hk hby.size) (Ne.symm hv)).trans (hby.block k hk)
  have hkeep : ∀ k, k < w.heap.size → X.fv.ownBlock ≠ some k → w1.heap[k]? = w.heap[k]? := fun k hk hv => (hkx k (Nat.lt_of_lt_of_le hk hb.size) hv).trans (hb.block k hk)
  have hPne : X.fv.ownBlock ≠ some P := fun e => h.apart (mem_blks (r := frRow X.fv X.fps p.frames) (by simp [plRows]) e) rfl
  have hPlt := block_lt h.block
  have hbP : w1.heap[P]? = some (.cells (plA X.fv X.vv X.cv X.ov p) 72 (0, 0)) := (hkeep P hPlt hPne).trans h.block
  have ho0 := h.own.later hb
  have hpv : ∀ g, pv.ownBlock = some g → g ∉ blks (plRows X p) := fun g hg hm => by
    have h1 := h.own.lt g hm
    have h2 := (hn.lt g hg).1
    omega
  have ho1 : Own wx (([frRow X.fv X.fps p.frames, iRow X.vv p.vars, lRow X.cv X.cps p.cells.length, iRow X.ov p.out] ++ List.zipWith iRow X.fps (p.frames.map Rf.Fr.args)) ++ iRow pv f.args :: List.zipWith iRow X.cps p.cells) :=
    Own.add (by rw [List.append_assoc]; exact ho0) (own_zero hn) (fun g hg => by rw [List.append_assoc]; exact hpv g hg)
  have hre : ([frRow X.fv X.fps p.frames, iRow X.vv p.vars, lRow X.cv X.cps p.cells.length, iRow X.ov p.out] ++ List.zipWith iRow X.fps (p.frames.map Rf.Fr.args)) ++ iRow pv f.args :: List.zipWith iRow X.cps p.cells = [] ++ frRow X.fv X.fps p.frames :: ([iRow X.vv p.vars, lRow X.cv X.cps p.cells.length, iRow X.ov p.out] ++ (List.zipWith iRow X.fps (p.frames.map Rf.Fr.args) ++ iRow pv f.args :: List.zipWith iRow X.cps p.cells)) := by simp
  have ho2 := ho1
  rw [hre] at ho2
  have hnew : frRow fv' (X.fps ++ [pv]) (p.frames ++ [f]) = ⟨130, 3, fv', p.frames.length + 1, frCells X.fps p.frames ++ [.int .i64 f.proc, pv, .int .i64 f.call]⟩ := by
    simp only [frRow, frCells_snoc _ _ _ _ h.fl, List.length_append, List.length_singleton]
  obtain ⟨o1, o2⟩ := Own.swap (w' := w1) ho2 (r' := frRow fv' (X.fps ++ [pv]) (p.frames ++ [f])) hkx (by rw [hnew]; exact hown) hat
  have hz : List.zipWith iRow (X.fps ++ [pv]) ((p.frames ++ [f]).map Rf.Fr.args) = List.zipWith iRow X.fps (p.frames.map Rf.Fr.args) ++ [iRow pv f.args] := by
    rw [List.map_append, List.zipWith_append (by rw [List.length_map]; exact h.fl)]; rfl
  have hre' : plRows { X with fv := fv', fps := X.fps ++ [pv] } { p with frames := p.frames ++ [f] } = [] ++ frRow fv' (X.fps ++ [pv]) (p.frames ++ [f]) :: ([iRow X.vv p.vars, lRow X.cv X.cps p.cells.length, iRow X.ov p.out] ++ (List.zipWith iRow X.fps (p.frames.map Rf.Fr.args) ++ iRow pv f.args :: List.zipWith iRow X.cps p.cells)) := by
    unfold plRows
    simp only [hz, List.append_assoc, List.cons_append, List.nil_append]
  have hcase : ∀ k ∈ blks (plRows { X with fv := fv', fps := X.fps ++ [pv] } { p with frames := p.frames ++ [f] }), k ∈ blks (plRows X p) ∨ w.heap.size ≤ k := by
    intro k hk
    rw [hre'] at hk
    rcases o2 k hk with hk | hk
    · rw [← hre] at hk
      rcases mem_blks_mid hk with hk | hk
      · rw [List.append_assoc] at hk; exact Or.inl hk
      · exact Or.inr (hn.lt k hk).1
    · exact Or.inr (Nat.le_trans hb.size hk)
  refine ⟨⟨?_, ?_, by simp [h.fl], h.cl, fun k hk => ?_, h.here⟩, ?_⟩
  · rw [set_block hbP]; rfl
  · rw [← hre'] at o1
    exact ⟨fun r hm => own_same (o1.rows r hm) (fun g hg => Below.heap_setCell w1 ⟨P, 0, none⟩ _ g (by
      show g ≠ P
      rcases hcase g (mem_blks hm hg) with hk | hk
      · exact h.apart hk
      · omega)), o1.apart⟩
  · rcases hcase k hk with hk | hk
    · exact h.new k hk
    · omega
  · refine below_one ?_ h.here _ _
    refine ⟨hg.os.trans (hby.os.trans hb.os), hg.tape.trans (hby.tape.trans hb.tape), hg.output.trans (hby.output.trans hb.output), Nat.le_trans (Nat.le_trans hb.size hby.size) hg.size, fun k hk => hkeep k (by omega) (fun e => ?_)⟩
    have := h.new k (mem_blks (r := frRow X.fv X.fps p.frames) (by simp [plRows]) e)
    omega
theorem PlO.swapRow {w w1 : World} {B P : Nat} {p p' : Rf.Pl} {X X' : PlX} (h : PlO w B P p X) (hB : B ≤ w.heap.size) {A C : List Rw} {r r' : Rw} (i : Nat) (v : Value) (hre : plRows X p = A ++ r :: C) (hre' : plRows X' p' = A ++ r' :: C)
    (hkx : ∀ k, k < w.heap.size → r.v.ownBlock ≠ some k → w1.heap[k]? = w.heap[k]?) (hos : w1.os = w.os ∧ w1.tape = w.tape ∧ w1.output = w.output ∧ w.heap.size ≤ w1.heap.size)
    (hr : w1.ownsRow 0 r'.t r'.size r'.v r'.n r'.xs) (hat : ∀ g, r'.v.ownBlock = some g → r.v.ownBlock = some g ∨ w.heap.size ≤ g) (hA : (plA X.fv X.vv X.cv X.ov p).setIfInBounds i v = plA X'.fv X'.vv X'.cv X'.ov p') (fl : X'.fps.length = p'.frames.length) (cl : X'.cps.length = p'.cells.length) :
    PlO (w1.setCell ⟨P, i, none⟩ v) B P p' X' ∧ Below B w (w1.setCell ⟨P, i, none⟩ v) := by
  have hrm : ∀ k, r.v.ownBlock = some k → k ∈ blks (plRows X p) := fun k e => by rw [hre]; exact mem_blks (r := r) (by simp) e
  have hPne : r.v.ownBlock ≠ some P := fun e => h.apart (hrm P e) rfl
  have hPlt := block_lt h.block
  have hbP : w1.heap[P]? = some (.cells (plA X.fv X.vv X.cv X.ov p) 72 (0, 0)) := (hkx P hPlt hPne).trans h.block
  have ho := h.own
  rw [hre] at ho
  obtain ⟨o1, o2⟩ := Own.swap (w' := w1) ho (r' := r') hkx hr hat
  have hcase : ∀ k ∈ blks (plRows X' p'), k ∈ blks (plRows X p) ∨ w.heap.size ≤ k := by
    intro k hk
    rw [hre'] at hk
    rcases o2 k hk with hk | hk
    · rw [← hre] at hk; exact Or.inl hk
    · exact Or.inr hk
  refine ⟨⟨by rw [set_block hbP, hA], ?_, fl, cl, fun k hk => ?_, h.here⟩, ?_⟩
  · rw [← hre'] at o1
    exact ⟨fun r hm => own_same (o1.rows r hm) (fun g hg => Below.heap_setCell w1 ⟨P, i, none⟩ _ g (by
      show g ≠ P
      rcases hcase g (mem_blks hm hg) with hk | hk
      · exact h.apart hk
      · omega)), o1.apart⟩
  · rcases hcase k hk with hk | hk
    · exact h.new k hk
    · omega
  · refine below_one ?_ h.here _ _
    refine ⟨hos.1, hos.2.1, hos.2.2.1, hos.2.2.2, fun k hk => hkx k (by omega) (fun e => ?_)⟩
    have := h.new k (hrm k e)
    omega
theorem below_os {B : Nat} {w w1 : World} (h : Below B w w1) : w1.os = w.os ∧ w1.tape = w.tape ∧ w1.output = w.output ∧ w.heap.size ≤ w1.heap.size := ⟨h.os, h.tape, h.output, h.size⟩
theorem PlO.newVars {w w1 : World} {B P : Nat} {p : Rf.Pl} {X : PlX} (h : PlO w B P p X) (hB : B ≤ w.heap.size) (hb : Below w.heap.size w w1) (v : Value) (xs : List Int) (hn : w1.ownsRow w.heap.size 3 1 v xs.length (intsV xs)) : PlO (w1.setCell ⟨P, 1, none⟩ v) B P { p with vars := xs } { X with vv := v } ∧ Below B w (w1.setCell ⟨P, 1, none⟩ v) :=
  h.swapRow hB (A := [frRow X.fv X.fps p.frames]) (r := iRow X.vv p.vars) (r' := iRow v xs) 1 v rfl rfl (fun k hk _ => hb.block k hk) (below_os hb) (own_zero hn) (fun g hg => Or.inr (hn.lt g hg).1) rfl h.fl h.cl
structure PlQ (w : World) (B : Nat) (p : Rf.Pl) (X : PlX) : Prop where
  own : Own w (plRows X p)
  fl : X.fps.length = p.frames.length
  cl : X.cps.length = p.cells.length
  new : ∀ k ∈ blks (plRows X p), B ≤ k
theorem PlO.rows {w : World} {B P : Nat} {p : Rf.Pl} {X : PlX} (h : PlO w B P p X) : PlQ w B p X := ⟨h.own, h.fl, h.cl, h.new⟩
theorem PlQ.aside {w w0 : World} {B : Nat} {p : Rf.Pl} {X : PlX} {N : Nat} {c : Array Value} (h : PlQ w B p X ∧ w.heap[N]? = some (.cells c 72 (0, 0)) ∧ Below B w0 w) (hB : B ≤ N) (i : Nat) (v : Value) : PlQ (w.setCell ⟨N, i, none⟩ v) B p X ∧ (w.setCell ⟨N, i, none⟩ v).heap[N]? = some (.cells (c.setIfInBounds i v) 72 (0, 0)) ∧ Below B w0 (w.setCell ⟨N, i, none⟩ v) := by
  obtain ⟨h, hN, hb⟩ := h
  refine ⟨⟨⟨fun r hr => own_same (h.own.rows r hr) (fun g hg => Below.heap_setCell w ⟨N, i, none⟩ _ g ?_), h.own.apart⟩, h.fl, h.cl, h.new⟩, set_block hN i v, below_one hb hB i v⟩
  rintro rfl
  obtain ⟨c', hc'⟩ := own_blk (h.own.rows r hr) hg
  rw [hN] at hc'
  injection hc' with hc'
  injection hc' with _ hc'
  rcases plRows_ty hr with e | e | e <;> rw [e] at hc' <;> exact absurd hc' (by decide)
def nilX : PlX := ⟨.slice none 0 0, .slice none 0 0, .slice none 0 0, .slice none 0 0, [], []⟩
theorem PlO.start {w : World} {B Q : Nat} {p : Rf.Pl} (hf : p.frames = []) (hv : p.vars = []) (hc : p.cells = []) (ho : p.out = []) (hb : w.heap[Q]? = some (.cells #[.slice none 0 0, .slice none 0 0, .slice none 0 0, .int .i64 p.read, .slice none 0 0, .int .i64 p.line, .int .i64 p.fin] 72 (0, 0))) (hB : B ≤ Q) : PlO w B Q p nilX := by
  have hr : plRows nilX p = [⟨130, 3, .slice none 0 0, 0, []⟩, ⟨3, 1, .slice none 0 0, 0, []⟩, ⟨24, 1, .slice none 0 0, 0, []⟩, ⟨3, 1, .slice none 0 0, 0, []⟩] := by
    unfold plRows
    rw [hf, hv, hc, ho]
    rfl
  have hbl : blks (plRows nilX p) = [] := by rw [hr]; rfl
  refine ⟨hb, ⟨fun r hm => ?_, by rw [hbl]; exact List.nodup_nil⟩, by rw [hf]; rfl, by rw [hc]; rfl, fun k hk => by rw [hbl] at hk; simp at hk, hB⟩
  rw [hr] at hm
  simp only [List.mem_cons, List.not_mem_nil, or_false] at hm
  rcases hm with rfl | rfl | rfl | rfl <;> exact World.ownsRow_nil _ _ _ _
theorem Tryz.infoFrameR : (Tryz.prog.info? 130).map (fun i => (i.zero, i.size, i.bytes)) = some (some (.agg #[.int .i64 0, .slice none 0 0, .int .i64 0]), 3, 40) := by kernel_rfl
def PlW (w : World) (B : Nat) (fv vv cv ov : Value) (p : Rf.Pl) : Prop := 0 < p.frames.length ∧ 0 < p.cells.length ∧ ∃ fps cps, PlQ w B p ⟨fv, vv, cv, ov, fps, cps⟩
theorem PlQ.whole {w : World} {B : Nat} {p : Rf.Pl} {X : PlX} (h : PlQ w B p X) (hf : 0 < p.frames.length) (hc : 0 < p.cells.length) : PlW w B X.fv X.vv X.cv X.ov p := ⟨hf, hc, X.fps, X.cps, h⟩
theorem PlQ.mono {w : World} {B B' : Nat} {p : Rf.Pl} {X : PlX} (h : PlQ w B p X) (hB : B' ≤ B) : PlQ w B' p X := ⟨h.own, h.fl, h.cl, fun k hk => Nat.le_trans hB (h.new k hk)⟩
abbrev W7 (w : World) (R : Nat) (a b c d e f g : Value) : World := ((((((w.setCell ⟨R, 0, none⟩ a).setCell ⟨R, 1, none⟩ b).setCell ⟨R, 2, none⟩ c).setCell ⟨R, 3, none⟩ d).setCell ⟨R, 4, none⟩ e).setCell ⟨R, 5, none⟩ f).setCell ⟨R, 6, none⟩ g
theorem PlQ.w7 {w w0 : World} {B : Nat} {p : Rf.Pl} {X : PlX} {N : Nat} {c : Array Value} (h : PlQ w B p X) (hN : w.heap[N]? = some (.cells c 72 (0, 0))) (hb : Below B w0 w) (hBN : B ≤ N) (v0 v1 v2 v3 v4 v5 v6 : Value) : PlQ (W7 w N v0 v1 v2 v3 v4 v5 v6) B p X ∧ Below B w0 (W7 w N v0 v1 v2 v3 v4 v5 v6) := by
  have h0 := PlQ.aside ⟨h, hN, hb⟩ hBN 0 v0
  have h1 := PlQ.aside h0 hBN 1 v1
  have h2 := PlQ.aside h1 hBN 2 v2
  have h3 := PlQ.aside h2 hBN 3 v3
  have h4 := PlQ.aside h3 hBN 4 v4
  have h5 := PlQ.aside h4 hBN 5 v5
  have h6 := PlQ.aside h5 hBN 6 v6
  exact ⟨h6.1, h6.2.2⟩
theorem seven {w : World} {R : Nat} {t : TypeId} {a b c d e f g : Value} (h : w.heap[R]? = some (.cells #[a, b, c, d, e, f, g] t (0, 0))) : w.cell? ⟨R, 0, none⟩ = some a ∧ w.cell? ⟨R, 1, none⟩ = some b ∧ w.cell? ⟨R, 2, none⟩ = some c ∧ w.cell? ⟨R, 3, none⟩ = some d ∧ w.cell? ⟨R, 4, none⟩ = some e ∧ w.cell? ⟨R, 5, none⟩ = some f ∧ w.cell? ⟨R, 6, none⟩ = some g :=
  ⟨cell_of_block h 0 (by simp), cell_of_block h 1 (by simp), cell_of_block h 2 (by simp), cell_of_block h 3 (by simp), cell_of_block h 4 (by simp), cell_of_block h 5 (by simp), cell_of_block h 6 (by simp)⟩
theorem PlO.forms {w : World} {B P : Nat} {p : Rf.Pl} {X : PlX} (h : PlO w B P p X) : ∃ xa xc ya yc za zc oa oc, X.fv = .slice xa p.frames.length xc ∧ X.vv = .slice ya p.vars.length yc ∧ X.cv = .slice za p.cells.length zc ∧ X.ov = .slice oa p.out.length oc := by
  obtain ⟨xa, xc, hxf⟩ := ownsRow_form h.frow
  obtain ⟨ya, yc, hyf⟩ := ownsRow_form h.vrow
  obtain ⟨za, zc, hzf⟩ := ownsRow_form h.crow
  obtain ⟨oa, oc, hof⟩ := ownsRow_form h.orow
  exact ⟨xa, xc, ya, yc, za, zc, oa, oc, hxf, hyf, hzf, hof⟩
theorem zip_set {α β γ : Type} (f : α → β → γ) : ∀ (xs : List α) (ys : List β) (i : Nat) (a : α) (b : β), List.zipWith f (xs.set i a) (ys.set i b) = (List.zipWith f xs ys).set i (f a b)
  | [], _, _, _, _ => by simp
  | _ :: _, [], i, _, _ => by cases i <;> simp
  | _ :: _, _ :: _, 0, _, _ => rfl
  | _ :: xs, _ :: ys, i + 1, a, b => by simp [zip_set f xs ys i a b]
theorem zip_rep {α β γ : Type} (f : α → β → γ) (a : α) (b : β) : ∀ n : Nat, List.zipWith f (List.replicate n a) (List.replicate n b) = List.replicate n (f a b)
  | 0 => rfl
  | n + 1 => by simp [List.replicate_succ, zip_rep f a b n]
theorem set_split {α : Type} (l : List α) {i : Nat} (h : i < l.length) (y : α) : l = l.take i ++ l[i] :: l.drop (i + 1) ∧ l.set i y = l.take i ++ y :: l.drop (i + 1) :=
  ⟨by simp, by rw [List.set_eq_take_append_cons_drop, if_pos h]⟩
theorem Own.nils {w : World} {R N : List Rw} (h : Own w R) (hn : ∀ r ∈ N, r.v.ownBlock = none ∧ w.ownsRow 0 r.t r.size r.v r.n r.xs) : Own w (R ++ N) ∧ blks (R ++ N) = blks R := by
  have hb : blks N = [] := by
    unfold blks
    rw [List.filterMap_eq_nil_iff]
    exact fun r hr => (hn r hr).1
  have e : blks (R ++ N) = blks R := by rw [blks_app, hb, List.append_nil]
  refine ⟨⟨fun r hr => ?_, by rw [e]; exact h.apart⟩, e⟩
  rcases List.mem_append.mp hr with hr | hr
  · exact h.rows r hr
  · exact (hn r hr).2
theorem PlO.newCels {w w1 : World} {B P : Nat} {p : Rf.Pl} {X : PlX} (h : PlO w B P p X) (hB : B ≤ w.heap.size) (hb : Below w.heap.size w w1) (v : Value) (n : Nat) (hc : p.cells = []) (hx : X.cps = []) (hn : w1.ownsRow w.heap.size 24 1 v n (List.replicate n (.slice none 0 0))) :
    PlO (w1.setCell ⟨P, 2, none⟩ v) B P { p with cells := List.replicate n [] } { X with cv := v, cps := List.replicate n (.slice none 0 0) } ∧ Below B w (w1.setCell ⟨P, 2, none⟩ v) := by
  have hPlt := block_lt h.block
  have hbP := block_later h.block hb
  have hre : plRows X p = [frRow X.fv X.fps p.frames, iRow X.vv p.vars] ++ lRow X.cv [] 0 :: (iRow X.ov p.out :: List.zipWith iRow X.fps (p.frames.map Rf.Fr.args)) := by
    unfold plRows
    rw [hc, hx]
    simp
  have ho := h.own
  rw [hre] at ho
  obtain ⟨o1, o2⟩ := Own.swap (w' := w1) ho (r' := lRow v (List.replicate n (.slice none 0 0)) n) (fun k hk _ => hb.block k hk) (own_zero hn) (fun g hg => Or.inr (hn.lt g hg).1)
  obtain ⟨o3, o4⟩ := o1.nils (N := List.replicate n (iRow (.slice none 0 0) [])) (fun r hr => by
    rw [List.mem_replicate] at hr
    rw [hr.2]
    exact ⟨rfl, World.ownsRow_nil _ _ _ _⟩)
  have hre' : plRows { X with cv := v, cps := List.replicate n (.slice none 0 0) } { p with cells := List.replicate n [] } = ([frRow X.fv X.fps p.frames, iRow X.vv p.vars] ++ lRow v (List.replicate n (.slice none 0 0)) n :: (iRow X.ov p.out :: List.zipWith iRow X.fps (p.frames.map Rf.Fr.args))) ++ List.replicate n (iRow (.slice none 0 0) []) := by
    unfold plRows
    simp only [zip_rep, List.length_replicate]
    simp
  have hcase : ∀ k ∈ blks (plRows { X with cv := v, cps := List.replicate n (.slice none 0 0) } { p with cells := List.replicate n [] }), k ∈ blks (plRows X p) ∨ w.heap.size ≤ k := by
    intro k hk
    rw [hre', o4] at hk
    rw [hre]
    exact o2 k hk
  refine ⟨⟨by rw [set_block hbP]; rfl, ?_, h.fl, by simp, fun k hk => ?_, h.here⟩, ?_⟩
  · rw [← hre'] at o3
    exact ⟨fun r hm => own_same (o3.rows r hm) (fun g hg => Below.heap_setCell w1 ⟨P, 2, none⟩ _ g (by
      show g ≠ P
      rcases hcase g (mem_blks hm hg) with hk | hk
      · exact h.apart hk
      · omega)), o3.apart⟩
  · rcases hcase k hk with hk | hk
    · exact h.new k hk
    · omega
  · exact below_one (hb.mono hB) h.here _ _
theorem PlO.newCel {w w1 : World} {B P : Nat} {p : Rf.Pl} {X : PlX} (h : PlO w B P p X) (hB : B ≤ w.heap.size) (hb : Below w.heap.size w w1) {i g : Nat} (hi : i < p.cells.length) (hg : X.cv.ownBlock = some g) (hz : X.cps[i]? = some (.slice none 0 0)) (v : Value) (xs : List Int) (hn : w1.ownsRow w.heap.size 3 1 v xs.length (intsV xs)) :
    PlO (w1.setCell ⟨g, i, none⟩ v) B P { p with cells := p.cells.set i xs } { X with cps := X.cps.set i v } ∧ Below B w (w1.setCell ⟨g, i, none⟩ v) := by
  have hi' : i < X.cps.length := by rw [h.cl]; exact hi
  have hz' : X.cps[i] = .slice none 0 0 := by rw [List.getElem?_eq_getElem hi'] at hz; exact Option.some.inj hz
  obtain ⟨Z, hZ⟩ : ∃ Z, Z = List.zipWith iRow X.cps p.cells := ⟨_, rfl⟩
  have hzl : i < Z.length := by rw [hZ, List.length_zipWith]; omega
  have hzi : Z[i] = iRow (.slice none 0 0) p.cells[i] := by subst hZ; rw [List.getElem_zipWith, hz']
  obtain ⟨s1, s2⟩ := set_split Z hzl (iRow v xs)
  rw [hzi] at s1
  have hcm : g ∈ blks (plRows X p) := mem_blks (r := lRow X.cv X.cps p.cells.length) (by simp [plRows]) hg
  have hgP := h.apart hcm
  have hPlt := block_lt h.block
  have hgl := h.own.lt g hcm
  obtain ⟨F, hF⟩ : ∃ F, F = List.zipWith iRow X.fps (p.frames.map Rf.Fr.args) := ⟨_, rfl⟩
  have hre : plRows X p = ([frRow X.fv X.fps p.frames, iRow X.vv p.vars, lRow X.cv X.cps p.cells.length, iRow X.ov p.out] ++ (F ++ Z.take i)) ++ iRow (.slice none 0 0) p.cells[i] :: Z.drop (i + 1) := by
    unfold plRows
    rw [← hZ, ← hF]
    conv => lhs; rw [s1]
    simp
  have ho := h.own
  rw [hre] at ho
  obtain ⟨o1, o2⟩ := Own.swap (w' := w1) ho (r' := iRow v xs) (fun k hk _ => hb.block k hk) (own_zero hn) (fun g hg => Or.inr (hn.lt g hg).1)
  have hre1 : ([frRow X.fv X.fps p.frames, iRow X.vv p.vars, lRow X.cv X.cps p.cells.length, iRow X.ov p.out] ++ (F ++ Z.take i)) ++ iRow v xs :: Z.drop (i + 1) = [frRow X.fv X.fps p.frames, iRow X.vv p.vars] ++ lRow X.cv X.cps p.cells.length :: (iRow X.ov p.out :: (F ++ Z.set i (iRow v xs))) := by
    rw [s2]
    simp
  rw [hre1] at o1 o2
  have hrow : w1.ownsRow 0 24 1 X.cv p.cells.length X.cps := own_later h.crow hb
  obtain ⟨ad, cap, hcv⟩ := ownsRow_form hrow
  have hv : X.cv = .slice (some ⟨g, 0, none⟩) p.cells.length cap := by
    rcases hrow.2 with ⟨h', _⟩ | ⟨g', cap', cur, h', _⟩
    · rw [h'] at hg; cases hg
    · rw [h'] at hg hcv
      simp [Value.ownBlock] at hg
      injection hcv with _ _ hcv
      rw [h', hg, hcv]
  have hst := hrow
  rw [hv] at hst
  have hst := (hst.stored i v).1
  rw [← hv] at hst
  have hother : ∀ k, k ≠ g → (w1.setCell ⟨g, i, none⟩ v).heap[k]? = w1.heap[k]? := fun k hk => Below.heap_setCell w1 ⟨g, i, none⟩ _ k hk
  obtain ⟨o3, o4⟩ := Own.swap (w' := w1.setCell ⟨g, i, none⟩ v) o1 (r' := lRow X.cv (X.cps.set i v) p.cells.length) (fun k _ hk => hother k (fun e => hk (by rw [e]; exact hg))) hst (fun g' hg' => Or.inl hg')
  have hre' : plRows { X with cps := X.cps.set i v } { p with cells := p.cells.set i xs } = [frRow X.fv X.fps p.frames, iRow X.vv p.vars] ++ lRow X.cv (X.cps.set i v) p.cells.length :: (iRow X.ov p.out :: (F ++ Z.set i (iRow v xs))) := by
    unfold plRows
    simp only [zip_set, List.length_set, ← hZ, ← hF]
    simp
  rw [← hre'] at o3 o4
  have hcase : ∀ k ∈ blks (plRows { X with cps := X.cps.set i v } { p with cells := p.cells.set i xs }), k ∈ blks (plRows X p) ∨ w.heap.size ≤ k := by
    intro k hk
    rcases o4 k hk with hk | hk
    · rw [hre]
      exact o2 k hk
    · have := hb.size
      exact Or.inr (by omega)
  refine ⟨⟨by rw [hother P (Ne.symm hgP)]; exact block_later h.block hb, o3, h.fl, by simp [h.cl], fun k hk => ?_, h.here⟩, below_one (hb.mono hB) (h.new g hcm) _ _⟩
  rcases hcase k hk with hk | hk
  · exact h.new k hk
  · omega
theorem PlQ.forms {w : World} {B : Nat} {p : Rf.Pl} {X : PlX} (h : PlQ w B p X) : ∃ xa xc ya yc za zc oa oc, X.fv = .slice xa p.frames.length xc ∧ X.vv = .slice ya p.vars.length yc ∧ X.cv = .slice za p.cells.length zc ∧ X.ov = .slice oa p.out.length oc := by
  obtain ⟨xa, xc, hxf⟩ := ownsRow_form (h.own.rows (frRow X.fv X.fps p.frames) (by simp [plRows]))
  obtain ⟨ya, yc, hyf⟩ := ownsRow_form (h.own.rows (iRow X.vv p.vars) (by simp [plRows]))
  obtain ⟨za, zc, hzf⟩ := ownsRow_form (h.own.rows (lRow X.cv X.cps p.cells.length) (by simp [plRows]))
  obtain ⟨oa, oc, hof⟩ := ownsRow_form (h.own.rows (iRow X.ov p.out) (by simp [plRows]))
  exact ⟨xa, xc, ya, yc, za, zc, oa, oc, hxf, hyf, hzf, hof⟩
theorem PlQ.later {w w' : World} {B : Nat} {p : Rf.Pl} {X : PlX} (h : PlQ w B p X) (hb : Below w.heap.size w w') : PlQ w' B p X := ⟨h.own.later hb, h.fl, h.cl, h.new⟩
end Go.Proofs.YthleadfkfnnadaaGreat
namespace Go.Proofs.YthleadfkfnnadaaGreat
open Go.RowKit
attribute [local go_sem ↓] Go.wp_at_zero Go.wp_at_succ
theorem end_any (w : World) (M B : Nat) (ty : TypeId) (tail : List Value) (S : Rt.Src) (m : Rt.Mc) (X : McX) (h : McS w M B ty tail S m X) :
    Calls Tryz.prog 50 #[.pointer (some ⟨M, 0, none⟩)] w fun e w' => e = .returned (.int .i64 m.fin) ∧ w' = w := by
  have c7 := h.c7
  clear h
  go_enter Tryz.func50, Tryz.ntmps50
  go_wp2_with fail
  go_ret
  exact ⟨rfl, rfl⟩
theorem McS.moved {w w' : World} {M M' B : Nat} {ty ty' : TypeId} {tail tail' : List Value} {S : Rt.Src} {m : Rt.Mc} {X : McX} (h : McS w M B ty tail S m X) (hb : Below w.heap.size w w') (hM : w'.heap[M']? = some (.cells (mcCells X m tail') ty' (0, 0))) (ht : TyOk ty') : McS w' M' B ty' tail' S m X := by
  have h' := h.later hb
  refine ⟨hM, ⟨block_lt hM, ?_, h'.prog.own, h'.prog.lines, h'.prog.links, h'.prog.len⟩, h'.own, h'.fl, h'.vl, ht⟩
  have := cell_of_block hM 0 (by simp [mcCells])
  simpa [mcCells] using this
end Go.Proofs.YthleadfkfnnadaaGreat
