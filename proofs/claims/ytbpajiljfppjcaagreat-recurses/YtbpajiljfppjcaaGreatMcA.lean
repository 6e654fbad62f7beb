/- The machine in memory. -/
import Derived.Test.YtbpajiljfppjcaaGreatPrgM
import Derived.Test.YtbpajiljfppjcaaGreatRowA
namespace Go.Proofs.YtbpajiljfppjcaaGreat
open Go.RowKit
attribute [local go_sem ↓] Go.wp_at_zero Go.wp_at_succ

def intsV (l : List Int) : List Value := l.map (Value.int .i64)
/-- What the machine's cells and rows hold: values that point to rows. -/
structure McX where
  lv : Value
  iv : Value
  fv : Value
  vv : Value
  ov : Value
  fps : List Value
  vps : List Value
  cs : List (List Value)
def iRow (v : Value) (l : List Int) : Rw := ⟨3, 1, v, l.length, intsV l⟩
def fCells : List Value → List Rt.Fm → List Value
  | v :: vs, f :: fs => v :: .int .i64 f.call :: fCells vs fs
  | _, _ => []
theorem fCells_len : ∀ (vs : List Value) (fs : List Rt.Fm), vs.length = fs.length → (fCells vs fs).length = fs.length * 2
  | [], [], _ => rfl
  | [], _ :: _, h => by simp at h
  | _ :: _, [], h => by simp at h
  | v :: vs, f :: fs, h => by
    have := fCells_len vs fs (by simpa using h)
    simp only [fCells, List.length_cons, this]
    omega
theorem fCells_snoc : ∀ (vs : List Value) (fs : List Rt.Fm) (v : Value) (f : Rt.Fm), vs.length = fs.length → fCells (vs ++ [v]) (fs ++ [f]) = fCells vs fs ++ [v, .int .i64 f.call]
  | [], [], _, _, _ => rfl
  | [], _ :: _, _, _, h => by simp at h
  | _ :: _, [], _, _, h => by simp at h
  | v :: vs, f :: fs, v', f', h => by
    have := fCells_snoc vs fs v' f' (by simpa using h)
    simp only [List.cons_append, fCells, this]
theorem fCells_get : ∀ (vs : List Value) (fs : List Rt.Fm) (h : vs.length = fs.length) (i : Nat) (hi : i < fs.length), (fCells vs fs)[i * 2]? = some (vs[i]'(by rw [h]; exact hi)) ∧ (fCells vs fs)[i * 2 + 1]? = some (.int .i64 fs[i].call)
  | [], [], _, i, hi => by simp at hi
  | [], _ :: _, h, _, _ => by simp at h
  | _ :: _, [], h, _, _ => by simp at h
  | v :: vs, f :: fs, h, 0, hi => by simp [fCells]
  | v :: vs, f :: fs, h, i + 1, hi => by
    have := fCells_get vs fs (by simpa using h) i (by simpa using hi)
    simp only [fCells, show (i + 1) * 2 = i * 2 + 2 by omega]
    simpa using this
def rowsOf (inp : List Int) (X : McX) (m : Rt.Mc) : List Rw :=
  [iRow X.iv inp, ⟨68, 2, X.fv, m.frames.length, fCells X.fps m.frames⟩, ⟨24, 1, X.vv, m.values.length, X.vps⟩, iRow X.ov m.output] ++ (List.zipWith iRow X.fps (m.frames.map Rt.Fm.params) ++ List.zipWith iRow X.vps m.values)
/-- The types of blocks that are none of the machine's rows, nor the program's. -/
def TyOk (t : TypeId) : Prop := t ≠ 3 ∧ t ≠ 68 ∧ t ≠ 24 ∧ t ≠ 79 ∧ t ≠ 127 ∧ t ≠ 9 ∧ t ≠ 141 ∧ t ≠ 74
/-- The machine at block M. -/
structure McS (w : World) (M B : Nat) (ty : TypeId) (tail : List Value) (S : Rt.Src) (m : Rt.Mc) (X : McX) : Prop where
  block : w.heap[M]? = some (.cells ([X.lv, X.iv, X.fv, X.vv, .int .i64 m.taken, X.ov, .int .i64 m.line, .int .i64 m.fin] ++ tail).toArray ty (0, 0))
  prog : ProgM w M B S.pls S.lk X.lv X.cs
  own : Own w (rowsOf S.input X m)
  fl : X.fps.length = m.frames.length
  vl : X.vps.length = m.values.length
  ty : TyOk ty
/-- The bounds that a run keeps to. -/
structure Mok (S : Rt.Src) (m : Rt.Mc) : Prop where
  pls : S.pls.length ≤ 101
  input : S.input.length ≤ 100
  frames : m.frames.length ≤ 1000
  values : m.values.length ≤ 101
  output : m.output.length ≤ 1000
  params : ∀ f ∈ m.frames, f.params.length ≤ 1000
  cells : ∀ l ∈ m.values, l.length ≤ 1000
  forms : ∀ p ∈ S.pls, Rt.Small p.form

theorem McS.later {w w' : World} {M B : Nat} {ty : TypeId} {tail : List Value} {S : Rt.Src} {m : Rt.Mc} {X : McX} (h : McS w M B ty tail S m X) (hb : Below w.heap.size w w') : McS w' M B ty tail S m X :=
  ⟨block_later h.block hb, h.prog.later hb, h.own.later hb, h.fl, h.vl, h.ty⟩
section
variable {w : World} {M B : Nat} {ty : TypeId} {tail : List Value} {S : Rt.Src} {m : Rt.Mc} {X : McX} (h : McS w M B ty tail S m X)
include h
theorem McS.c1 : w.cell? ⟨M, 1, none⟩ = some X.iv := by have := cell_of_block h.block 1 (by simp); simpa using this
theorem McS.c2 : w.cell? ⟨M, 2, none⟩ = some X.fv := by have := cell_of_block h.block 2 (by simp); simpa using this
theorem McS.c3 : w.cell? ⟨M, 3, none⟩ = some X.vv := by have := cell_of_block h.block 3 (by simp); simpa using this
theorem McS.c4 : w.cell? ⟨M, 4, none⟩ = some (.int .i64 m.taken) := by have := cell_of_block h.block 4 (by simp); simpa using this
theorem McS.c5 : w.cell? ⟨M, 5, none⟩ = some X.ov := by have := cell_of_block h.block 5 (by simp); simpa using this
theorem McS.c6 : w.cell? ⟨M, 6, none⟩ = some (.int .i64 m.line) := by have := cell_of_block h.block 6 (by simp); simpa using this
theorem McS.c7 : w.cell? ⟨M, 7, none⟩ = some (.int .i64 m.fin) := by have := cell_of_block h.block 7 (by simp); simpa using this
theorem McS.fz (i : Nat) : w.frozen? ⟨M, i, none⟩ = false := free_of_block h.block i
theorem McS.input : w.ownsRow 0 3 1 X.iv S.input.length (intsV S.input) := h.own.rows (iRow X.iv S.input) (by simp [rowsOf])
theorem McS.frames : w.ownsRow 0 68 2 X.fv m.frames.length (fCells X.fps m.frames) := h.own.rows ⟨68, 2, X.fv, m.frames.length, fCells X.fps m.frames⟩ (by simp [rowsOf])
theorem McS.vals : w.ownsRow 0 24 1 X.vv m.values.length X.vps := h.own.rows ⟨24, 1, X.vv, m.values.length, X.vps⟩ (by simp [rowsOf])
theorem McS.out : w.ownsRow 0 3 1 X.ov m.output.length (intsV m.output) := h.own.rows (iRow X.ov m.output) (by simp [rowsOf])
theorem McS.parRow (i : Nat) (hi : i < m.frames.length) : w.ownsRow 0 3 1 (X.fps[i]'(by rw [h.fl]; exact hi)) m.frames[i].params.length (intsV m.frames[i].params) := by
  have hi' : i < X.fps.length := by rw [h.fl]; exact hi
  refine h.own.rows (iRow X.fps[i] m.frames[i].params) ?_
  unfold rowsOf
  refine List.mem_append_right _ (List.mem_append_left _ ?_)
  have : (List.zipWith iRow X.fps (m.frames.map Rt.Fm.params))[i]? = some (iRow X.fps[i] m.frames[i].params) := by
    rw [List.getElem?_zipWith, List.getElem?_eq_getElem hi', List.getElem?_map, List.getElem?_eq_getElem hi]
    rfl
  exact List.mem_of_getElem? this
theorem McS.valRow (i : Nat) (hi : i < m.values.length) : w.ownsRow 0 3 1 (X.vps[i]'(by rw [h.vl]; exact hi)) m.values[i].length (intsV m.values[i]) := by
  have hi' : i < X.vps.length := by rw [h.vl]; exact hi
  refine h.own.rows (iRow X.vps[i] m.values[i]) ?_
  unfold rowsOf
  refine List.mem_append_right _ (List.mem_append_right _ ?_)
  have : (List.zipWith iRow X.vps m.values)[i]? = some (iRow X.vps[i] m.values[i]) := by
    rw [List.getElem?_zipWith, List.getElem?_eq_getElem hi', List.getElem?_eq_getElem hi]
  exact List.mem_of_getElem? this
end
/-- The value that points to the cells of a line, or to the present frame's parameters. -/
def cellsV (X : McX) (m : Rt.Mc) (l : Int) : Value :=
  if 0 < l ∧ l < m.values.length then (X.vps[l.toNat]?).getD (.slice none 0 0)
  else if l = 0 ∧ 0 < m.frames.length then (X.fps[m.frames.length - 1]?).getD (.slice none 0 0)
  else .slice none 0 0
theorem McS.cellsRow {w : World} {M B : Nat} {ty : TypeId} {tail : List Value} {S : Rt.Src} {m : Rt.Mc} {X : McX} (h : McS w M B ty tail S m X) (l : Int) : w.ownsRow 0 3 1 (cellsV X m l) (Rt.cellsOf m l).length (intsV (Rt.cellsOf m l)) := by
  unfold cellsV Rt.cellsOf
  by_cases h1 : 0 < l ∧ l < m.values.length
  · rw [if_pos h1, if_pos h1]
    have hi : l.toNat < m.values.length := by omega
    rw [List.getElem?_eq_getElem hi, List.getElem?_eq_getElem (by rw [h.vl]; exact hi)]
    exact h.valRow _ hi
  · rw [if_neg h1, if_neg h1]
    by_cases h2 : l = 0 ∧ 0 < m.frames.length
    · rw [if_pos h2, if_pos h2]
      have hi : m.frames.length - 1 < m.frames.length := by omega
      rw [List.getElem?_eq_getElem (by rw [h.fl]; exact hi)]
      have e : m.frames.getLastD Rt.noFm = m.frames[m.frames.length - 1] := by
        rw [List.getLastD_eq_getLast?, List.getLast?_eq_getElem?, List.getElem?_eq_getElem hi]
        rfl
      rw [e]
      exact h.parRow _ hi
    · rw [if_neg h2, if_neg h2]
      exact World.ownsRow_nil _ _ _ _
theorem cells_len {S : Rt.Src} {m : Rt.Mc} (h : Mok S m) (l : Int) : (Rt.cellsOf m l).length ≤ 1000 := by
  unfold Rt.cellsOf
  split
  · cases e : m.values[l.toNat]? with
    | none => simp
    | some x => exact h.cells x (List.mem_of_getElem? e)
  · split
    · next h2 =>
      have hne : m.frames ≠ [] := by intro e; rw [e] at h2; simp at h2
      rw [List.getLastD_eq_getLast?, List.getLast?_eq_some_getLast hne]
      exact h.params _ (List.getLast_mem hne)
    · simp

set_option maxHeartbeats 1000000 in
theorem cells_any (w : World) (M B : Nat) (ty : TypeId) (tail : List Value) (S : Rt.Src) (m : Rt.Mc) (X : McX) (l : Int) (h : McS w M B ty tail S m X) (hm : Mok S m) :
    Calls Tryz.prog 65 #[.pointer (some ⟨M, 0, none⟩), .int .i64 l] w fun e w' => e = .returned (cellsV X m l) ∧ Below w.heap.size w w' := by
  have c2 := h.c2
  have c3 := h.c3
  obtain ⟨fad, fcap, hfv⟩ := ownsRow_form h.frames
  obtain ⟨vad, vcap, hvv⟩ := ownsRow_form h.vals
  rw [hfv] at c2
  rw [hvv] at c3
  by_cases h1 : 0 < l ∧ l < m.values.length
  · obtain ⟨k, rfl⟩ := Int.eq_ofNat_of_zero_le (show 0 ≤ l by omega)
    have hk : k < m.values.length := by omega
    have hk' : (k : Int) < (m.values.length : Int) := by omega
    have hk1 : (0 : Int) < (k : Int) := h1.1
    have hk0 : (0 : Int) ≤ (k : Int) := by omega
    obtain ⟨g, gcap, hgv, _, _, ca⟩ := own_cell h.vals (j := k) (u := X.vps[k]'(by rw [h.vl]; exact hk)) (List.getElem?_eq_getElem _)
    rw [hvv] at hgv
    injection hgv with e1 _ e2
    subst e1 e2
    have HE := hide (show cellsV X m (k : Int) = X.vps[k]'(by rw [h.vl]; exact hk) by
      unfold cellsV
      rw [if_pos h1]
      simp only [Int.toNat_natCast]
      rw [List.getElem?_eq_getElem (by rw [h.vl]; exact hk)]
      rfl)
    have hrow := h.valRow k hk
    obtain ⟨ad, cap, hv⟩ := ownsRow_form hrow
    rw [hv] at ca HE
    clear h hm h1 hrow hv hvv hfv
    go_enter Tryz.func65, Tryz.ntmps65
    go_wp2_with fail
    go_ret
    exact ⟨by rw [unhide HE]; rfl, Below.refl _ _⟩
  · by_cases h2 : l = 0 ∧ 0 < m.frames.length
    · obtain ⟨rfl, hpos⟩ := h2
      have hlen := hm.frames
      obtain ⟨k, hk⟩ : ∃ k, m.frames.length = k + 1 := ⟨m.frames.length - 1, by omega⟩
      have hkl : k < m.frames.length := by omega
      have hkf : k < X.fps.length := by rw [h.fl]; exact hkl
      have HE := hide (show cellsV X m 0 = X.fps[k] by
        unfold cellsV
        rw [if_neg (by omega), if_pos ⟨rfl, hpos⟩, show m.frames.length - 1 = k by omega, List.getElem?_eq_getElem hkf]
        rfl)
      have hrow := h.parRow k hkl
      obtain ⟨ad, cap, hv⟩ := ownsRow_form hrow
      have hfc : (fCells X.fps m.frames)[k * 2]? = some X.fps[k] := (fCells_get X.fps m.frames h.fl k hkl).1
      obtain ⟨g, gcap, hgv, _, _, ca⟩ := own_cell h.frames hfc
      rw [hfv] at hgv
      injection hgv with e1 _ e2
      subst e1 e2
      rw [hv] at ca HE
      rw [hk] at c2
      clear h hm h1 hrow hv hvv hfv hfc hpos
      have hk1 : k + 1 ≤ 1000 := by omega
      generalize m.frames[k].params.length = pn at *
      have hm0 : (0 : Int) ≤ (k : Int) := by omega
      have hm1 : (k : Int) < (k : Int) + 1 := by omega
      have hm2 : (k : Int) ≤ 1000 := by omega
      have hm3 := wrapm1 k hk1
      have hm4 := wrapm0 k hk1
      have hm5 : (0 : Int) < (k : Int) + 1 := by omega
      clear hk hkl hkf hlen
      go_enter Tryz.func65, Tryz.ntmps65
      go_wp2_with fail
      go_region_held3 (fun w' => w'.cell? ⟨M, 2, none⟩ = some (.slice (some ⟨g, 0, none⟩) (k + 1) fcap) ∧ w'.cell? ⟨g, k * 2, none⟩ = some (.slice ad pn cap)) (go_keep) (fail)
      go_wp2_with fail
      go_ret
      exact ⟨by rw [unhide HE]; rfl, (Below.refl _ _).drew⟩
    · have HE := hide (show cellsV X m l = .slice none 0 0 by unfold cellsV; rw [if_neg h1, if_neg h2])
      clear h hm hvv hfv
      by_cases h3 : 0 < l
      · have h4 : ¬ l < (m.values.length : Int) := fun e => h1 ⟨h3, e⟩
        have h5 : (l == 0) = false := by rw [beq_eq_false_iff_ne]; omega
        clear h1 h2
        go_enter Tryz.func65, Tryz.ntmps65
        go_wp2_with fail
        go_ret
        exact ⟨by rw [unhide HE]; rfl, Below.refl _ _⟩
      · by_cases h0 : l = 0
        · subst h0
          have h6 : m.frames.length = 0 := by omega
          rw [h6] at c2
          clear h1 h2 h3 h6
          go_enter Tryz.func65, Tryz.ntmps65
          go_wp2_with fail
          go_ret
          exact ⟨by rw [unhide HE]; rfl, Below.refl _ _⟩
        · have h5 : (l == 0) = false := by rw [beq_eq_false_iff_ne]; omega
          clear h1 h2 h0
          go_enter Tryz.func65, Tryz.ntmps65
          go_wp2_with fail
          go_ret
          exact ⟨by rw [unhide HE]; rfl, Below.refl _ _⟩

theorem Tryz.fieldL6 (a0 : Option Addr) (n0 k0 : Nat) (kd : Int) (nm : ByteArray) (cl : Int) (a1 : Option Addr) (n1 k1 : Nat) (a2 : Option Addr) (n2 k2 : Nat) (a3 : Option Addr) (n3 k3 : Nat) (d o x y p : Int) (w : World) :
    (Instr.field 79 (.agg #[.slice a0 n0 k0, .int .i64 kd, .string nm, .int .i64 cl, .slice a1 n1 k1, .slice a2 n2 k2, .slice a3 n3 k3, .int .i64 d, .int .i64 o, .int .i64 x, .int .i64 y, .int .i64 p]) 6).run Tryz.prog w = .ok (.int .i64 p) w := by kernel_rfl
theorem proc_any (w : World) (M B : Nat) (ty : TypeId) (tail : List Value) (S : Rt.Src) (m : Rt.Mc) (X : McX) (h : McS w M B ty tail S m X) :
    Calls Tryz.prog 41 #[.pointer (some ⟨M, 0, none⟩)] w fun e w' => e = .returned (.int .i64 (Rt.procOf S m)) ∧ Below w.heap.size w w' := by
  have c6 := h.c6
  have HH := hide h.prog
  have HE := hide (show Rt.procOf S m = (Rt.lineAtP S.pls m.line).proc from rfl)
  clear h
  go_enter Tryz.func41, Tryz.ntmps41
  go_wp2_with fail
  go_region_with ((go_at_call 37; refine (Line_m _ _ _ _ _ _ _ m.line ((unhide HH).later (below_to_drew _))).mono ?_; rintro e w1 ⟨a0, a1, a2, a3, k0, k1, k2, k3, rfl, _, _, hb⟩; have hf := Tryz.fieldL6 a0 (Rt.lineAtP S.pls m.line).toks.length k0 (Rt.lineAtP S.pls m.line).form.kind (Rt.lineAtP S.pls m.line).form.name (Rt.lineAtP S.pls m.line).form.cells a1 (Rt.lineAtP S.pls m.line).form.params.length k1 a2 (Rt.lineAtP S.pls m.line).form.index.length k2 a3 (Rt.lineAtP S.pls m.line).form.values.length k3 (Rt.lineAtP S.pls m.line).depth (Rt.lineAtP S.pls m.line).opener (Rt.lkAt S.lk m.line).1 (Rt.lkAt S.lk m.line).2 (Rt.lineAtP S.pls m.line).proc))
  all_goals
    have HB := hide (below_of_drew hb)
    clear hb
    go_wp2_with fail
    go_ret
    exact ⟨by rw [unhide HE]; rfl, unhide HB⟩

/-- A spot, as a value. -/
def spotV (s : Rt.Spot) : Value := .agg #[.int .i64 s.line, .int .i64 s.cell]
set_option maxHeartbeats 1000000 in
theorem get_any (w : World) (M B : Nat) (ty : TypeId) (tail : List Value) (S : Rt.Src) (m : Rt.Mc) (X : McX) (s : Rt.Spot) (h : McS w M B ty tail S m X) (hm : Mok S m) :
    Calls Tryz.prog 44 #[.pointer (some ⟨M, 0, none⟩), .agg #[.int .i64 s.line, .int .i64 s.cell]] w fun e w' => e = .returned (.int .i64 (Rt.getS m s)) ∧ Below w.heap.size w w' := by
  have hcl := cells_len hm s.line
  have hbA := (Below.refl w.heap.size w).alloc (Nat.le_refl _) (.cells #[.int .i64 s.line, .int .i64 s.cell] 85)
  have hA := h.later hbA
  clear h
  go_enter Tryz.func44, Tryz.ntmps44
  go_wp2_with fail
  refine (cells_any _ M B ty tail S m X s.line hA hm).mono ?_
  rintro e w1 ⟨rfl, hb⟩
  have hrow := own_later (hA.cellsRow s.line) hb
  have HB := hide (hbA.trans (hb.mono (B' := w.heap.size) (by simp)))
  have hS := block_later (heap_alloc_new w (.cells #[.int .i64 s.line, .int .i64 s.cell] 85)) hb
  have cS := cell_of_block hS 1 (by simp)
  simp at cS
  obtain ⟨ad, cap, hv⟩ := ownsRow_form hrow
  rw [hv] at hrow ⊢
  clear hb hA hm hbA hS hv
  generalize HC : Rt.cellsOf m s.line = l at *
  generalize HCell : s.cell = c at *
  have HG := hide (show Rt.getS m s = if c < 0 then 0 else (l[c.toNat]?).getD 0 by unfold Rt.getS; rw [HC, HCell])
  clear HC HCell
  by_cases h1 : c < 0
  · have HE := hide (show Rt.getS m s = 0 by rw [unhide HG, if_pos h1])
    clear hrow HG
    go_wp2_with fail
    go_ret
    exact ⟨by rw [unhide HE]; rfl, unhide HB⟩
  · obtain ⟨k, rfl⟩ := Int.eq_ofNat_of_zero_le (show 0 ≤ c by omega)
    by_cases h2 : k < l.length
    · obtain ⟨g, gcap, hgv, _, _, ca⟩ := own_cell hrow (j := k) (u := .int .i64 l[k]) (by simp [intsV, h2])
      injection hgv with e1 _ e2
      subst e1 e2
      have HE := hide (show Rt.getS m s = l[k] by rw [unhide HG, if_neg h1]; simp [h2])
      have h2' : ¬ (l.length : Int) ≤ (k : Int) := by omega
      have h3' : (k : Int) < (l.length : Int) := by omega
      have h0' : (0 : Int) ≤ (k : Int) := by omega
      clear hrow HG
      generalize l[k] = x at *
      go_wp2_with fail
      go_ret
      exact ⟨by rw [unhide HE]; rfl, unhide HB⟩
    · have HE := hide (show Rt.getS m s = 0 by rw [unhide HG, if_neg h1]; simp [List.getElem?_eq_none (show l.length ≤ k by omega)])
      have h2' : (l.length : Int) ≤ (k : Int) := by omega
      clear hrow HG
      go_wp2_with fail
      go_ret
      exact ⟨by rw [unhide HE]; rfl, unhide HB⟩
end Go.Proofs.YtbpajiljfppjcaaGreat

