/- The machine in memory. -/
import Derived.Test.YtbpajiljfppjcaaGreatDoorPlainb
import Derived.Test.YtbpajiljfppjcaaGreatDoorPrgM
namespace Go.Proofs.YtbpajiljfppjcaaGreatDoor
open Go.RowKit

/-- A row in memory: its element type, its value, how many elements it shows, its cells. -/
structure Rw where
  t : TypeId
  size : Nat
  v : Value
  n : Nat
  xs : List Value
def Rw.blk (r : Rw) : Option Nat := r.v.ownBlock
def blks (R : List Rw) : List Nat := R.filterMap Rw.blk
/-- Rows that are owned, each apart from the others. -/
structure Own (w : World) (R : List Rw) : Prop where
  rows : ∀ r ∈ R, w.ownsRow 0 r.t r.size r.v r.n r.xs
  apart : (blks R).Nodup
/-- All blocks stay but these. -/
structure Frm (w w' : World) (F : List Nat) : Prop where
  os : w'.os = w.os
  tape : w'.tape = w.tape
  output : w'.output = w.output
  size : w.heap.size ≤ w'.heap.size
  block : ∀ k, k < w.heap.size → k ∉ F → w'.heap[k]? = w.heap[k]?
theorem Frm.refl (w : World) (F : List Nat) : Frm w w F := ⟨rfl, rfl, rfl, Nat.le_refl _, fun _ _ _ => rfl⟩
theorem Frm.mono {w w' : World} {F G : List Nat} (h : Frm w w' F) (hs : ∀ k ∈ F, k ∈ G) : Frm w w' G := ⟨h.os, h.tape, h.output, h.size, fun k hk hn => h.block k hk (fun hf => hn (hs k hf))⟩
theorem Frm.of_below {w w' : World} (F : List Nat) (h : Below w.heap.size w w') : Frm w w' F := ⟨h.os, h.tape, h.output, h.size, fun k hk _ => h.block k hk⟩
/-- What grows F is new. -/
def Grows (w : World) (F F' : List Nat) : Prop := ∀ k ∈ F', k ∈ F ∨ w.heap.size ≤ k
theorem Frm.trans {w w1 w2 : World} {F F1 : List Nat} (h : Frm w w1 F) (h2 : Frm w1 w2 F1) (hg : Grows w F F1) : Frm w w2 F :=
  ⟨h2.os.trans h.os, h2.tape.trans h.tape, h2.output.trans h.output, Nat.le_trans h.size h2.size, fun k hk hn => (h2.block k (Nat.lt_of_lt_of_le hk h.size) (fun hf => by rcases hg k hf with h' | h'; exact hn h'; omega)).trans (h.block k hk hn)⟩
theorem Grows.refl (w : World) (F : List Nat) : Grows w F F := fun _ h => Or.inl h
theorem Grows.trans {w w1 : World} {F F1 F2 : List Nat} (h : Grows w F F1) (h2 : Grows w1 F1 F2) (hs : w.heap.size ≤ w1.heap.size) : Grows w F F2 := fun k hk => by
  rcases h2 k hk with h' | h'
  · exact h k h'
  · exact Or.inr (Nat.le_trans hs h')
theorem Frm.below {w w' : World} {F : List Nat} (h : Frm w w' F) {B : Nat} (hB : B ≤ w.heap.size) (hF : ∀ k ∈ F, B ≤ k) : Below B w w' :=
  ⟨h.os, h.tape, h.output, h.size, fun k hk => h.block k (by omega) (fun hf => by have := hF k hf; omega)⟩

theorem own_blk {w : World} {B : Nat} {e : TypeId} {size n : Nat} {v : Value} {xs : List Value} (h : w.ownsRow B e size v n xs) {g : Nat} (hg : v.ownBlock = some g) : ∃ c, w.heap[g]? = some (.cells c e (0, 0)) := by
  rcases h.2 with ⟨h', _⟩ | ⟨g', _, cur, h', _, hh, _⟩
  · rw [h'] at hg; cases hg
  · rw [h'] at hg
    simp [Value.ownBlock] at hg
    subst hg
    exact ⟨_, hh⟩
theorem own_base {w : World} {B B' : Nat} {e : TypeId} {size n : Nat} {v : Value} {xs : List Value} (h : w.ownsRow B e size v n xs) (hb : ∀ g, v.ownBlock = some g → B' ≤ g) : w.ownsRow B' e size v n xs := ownsRow_base h hb
theorem own_zero {w : World} {B : Nat} {e : TypeId} {size n : Nat} {v : Value} {xs : List Value} (h : w.ownsRow B e size v n xs) : w.ownsRow 0 e size v n xs := ownsRow_mono h (Nat.zero_le _)
/-- A row whose block stays stays. -/
theorem own_same {w w' : World} {B : Nat} {e : TypeId} {size n : Nat} {v : Value} {xs : List Value} (h : w.ownsRow B e size v n xs) (hb : ∀ g, v.ownBlock = some g → w'.heap[g]? = w.heap[g]?) : w'.ownsRow B e size v n xs := by
  obtain ⟨h1, h2⟩ := h
  refine ⟨h1, ?_⟩
  rcases h2 with h2 | ⟨g, cap, cur, hv, hg, hh, r⟩
  · exact Or.inl h2
  · exact Or.inr ⟨g, cap, cur, hv, hg, by rw [hb g (by rw [hv]; rfl)]; exact hh, r⟩
theorem mem_blks {R : List Rw} {r : Rw} (h : r ∈ R) {g : Nat} (hg : r.v.ownBlock = some g) : g ∈ blks R := List.mem_filterMap.mpr ⟨r, h, hg⟩
theorem blks_app (A B : List Rw) : blks (A ++ B) = blks A ++ blks B := by simp [blks]
theorem blks_cons (r : Rw) (B : List Rw) : blks (r :: B) = (match r.v.ownBlock with | none => blks B | some g => g :: blks B) := by
  unfold blks Rw.blk
  rw [List.filterMap_cons]
  cases r.v.ownBlock <;> rfl
theorem Own.lt {w : World} {R : List Rw} (h : Own w R) : ∀ k ∈ blks R, k < w.heap.size := by
  intro k hk
  obtain ⟨r, hr, hg⟩ := List.mem_filterMap.mp hk
  exact ((h.rows r hr).lt k hg).2
theorem Own.later {w w' : World} {R : List Rw} (h : Own w R) (hb : Below w.heap.size w w') : Own w' R := ⟨fun r hr => own_later (h.rows r hr) hb, h.apart⟩
/-- Rows whose blocks all stay. -/
theorem Own.frm {w w' : World} {R : List Rw} {F : List Nat} (h : Own w R) (hf : Frm w w' F) (hd : ∀ k ∈ blks R, k ∉ F) : Own w' R :=
  ⟨fun r hr => own_same (h.rows r hr) (fun g hg => hf.block g (((h.rows r hr).lt g hg).2) (hd g (mem_blks hr hg))), h.apart⟩
theorem Own.left {w : World} {A B : List Rw} (h : Own w (A ++ B)) : Own w A := ⟨fun r hr => h.rows r (List.mem_append_left _ hr), by have := h.apart; rw [blks_app] at this; exact (List.nodup_append.mp this).1⟩
theorem Own.right {w : World} {A B : List Rw} (h : Own w (A ++ B)) : Own w B := ⟨fun r hr => h.rows r (List.mem_append_right _ hr), by have := h.apart; rw [blks_app] at this; exact (List.nodup_append.mp this).2.1⟩
theorem Own.ne {w : World} {A B : List Rw} {r : Rw} (h : Own w (A ++ r :: B)) {g : Nat} (hg : r.v.ownBlock = some g) : g ∉ blks A ∧ g ∉ blks B := by
  have h1 := h.apart
  rw [blks_app, blks_cons, hg] at h1
  simp only at h1
  obtain ⟨h2, h3, h4⟩ := List.nodup_append.mp h1
  exact ⟨fun hA => h4 g hA g (List.mem_cons_self ..) rfl, (List.nodup_cons.mp h3).1⟩
/-- One row in the middle is changed, all others stay: it may lie in its old block or in a new one. -/
theorem Own.swap {w w' : World} {A B : List Rw} {r r' : Rw} (h : Own w (A ++ r :: B)) (hb : ∀ k, k < w.heap.size → r.v.ownBlock ≠ some k → w'.heap[k]? = w.heap[k]?) (hr : w'.ownsRow 0 r'.t r'.size r'.v r'.n r'.xs) (hat : ∀ g, r'.v.ownBlock = some g → r.v.ownBlock = some g ∨ w.heap.size ≤ g) :
    Own w' (A ++ r' :: B) ∧ Grows w (blks (A ++ r :: B)) (blks (A ++ r' :: B)) := by
  have hA : ∀ k ∈ blks A, r.v.ownBlock ≠ some k := fun k hk e => (h.ne e).1 hk
  have hB : ∀ k ∈ blks B, r.v.ownBlock ≠ some k := fun k hk e => (h.ne e).2 hk
  refine ⟨⟨?_, ?_⟩, ?_⟩
  · intro x hx
    rcases List.mem_append.mp hx with hx | hx
    · have := h.rows x (List.mem_append_left _ hx)
      exact own_same this (fun g hg => hb g (this.lt g hg).2 (hA g (mem_blks hx hg)))
    · rcases List.mem_cons.mp hx with rfl | hx
      · exact hr
      · have := h.rows x (List.mem_append_right _ (List.mem_cons_of_mem _ hx))
        exact own_same this (fun g hg => hb g (this.lt g hg).2 (hB g (mem_blks hx hg)))
  · have h1 := h.apart
    have hlt := h.lt
    rw [blks_app, blks_cons] at h1 ⊢
    rw [blks_app, blks_cons] at hlt
    obtain ⟨n1, n2, n3⟩ := List.nodup_append.mp h1
    have n2' : (blks B).Nodup := by
      cases e : r.v.ownBlock with
      | none => rw [e] at n2; exact n2
      | some g => rw [e] at n2; exact (List.nodup_cons.mp n2).2
    have hltA : ∀ k ∈ blks A, k < w.heap.size := fun k hk => hlt k (List.mem_append_left _ hk)
    have hltB : ∀ k ∈ blks B, k < w.heap.size := fun k hk => hlt k (List.mem_append_right _ (by
      cases e : r.v.ownBlock with
      | none => exact hk
      | some g => exact List.mem_cons_of_mem _ hk))
    have n4 : ∀ a ∈ blks A, ∀ b ∈ blks B, a ≠ b := fun a ha b hb2 => n3 a ha b (by
      cases e : r.v.ownBlock with
      | none => exact hb2
      | some g => exact List.mem_cons_of_mem _ hb2)
    cases e : r'.v.ownBlock with
    | none => exact List.nodup_append.mpr ⟨n1, n2', n4⟩
    | some g =>
      have hgA : g ∉ blks A := fun hg => by rcases hat g e with h' | h'; exact hA g hg h'; have := hltA g hg; omega
      have hgB : g ∉ blks B := fun hg => by rcases hat g e with h' | h'; exact hB g hg h'; have := hltB g hg; omega
      refine List.nodup_append.mpr ⟨n1, List.nodup_cons.mpr ⟨hgB, n2'⟩, ?_⟩
      intro a ha b hb2
      rcases List.mem_cons.mp hb2 with rfl | hb2
      · intro e2; rw [e2] at ha; exact hgA ha
      · exact n4 a ha b hb2
  · intro k hk
    rw [blks_app, blks_cons] at hk ⊢
    rcases List.mem_append.mp hk with hk | hk
    · exact Or.inl (List.mem_append_left _ hk)
    · have hkB : k ∈ blks B → k ∈ blks A ++ (match r.v.ownBlock with | none => blks B | some g => g :: blks B) := fun hk => List.mem_append_right _ (by
        cases e : r.v.ownBlock with
        | none => exact hk
        | some g => exact List.mem_cons_of_mem _ hk)
      cases e : r'.v.ownBlock with
      | none => rw [e] at hk; exact Or.inl (hkB hk)
      | some g =>
        rw [e] at hk
        rcases List.mem_cons.mp hk with rfl | hk
        · rcases hat k e with h' | h'
          · rw [h']; exact Or.inl (List.mem_append_right _ (List.mem_cons_self ..))
          · exact Or.inr h'
        · exact Or.inl (hkB hk)
/-- One row more, in a new block. -/
theorem Own.add {w : World} {A B : List Rw} {r : Rw} (h : Own w (A ++ B)) (hr : w.ownsRow 0 r.t r.size r.v r.n r.xs) (hn : ∀ g, r.v.ownBlock = some g → g ∉ blks (A ++ B)) : Own w (A ++ r :: B) := by
  refine ⟨?_, ?_⟩
  · intro x hx
    rcases List.mem_append.mp hx with hx | hx
    · exact h.rows x (List.mem_append_left _ hx)
    · rcases List.mem_cons.mp hx with rfl | hx
      · exact hr
      · exact h.rows x (List.mem_append_right _ hx)
  · have h1 := h.apart
    rw [blks_app] at h1
    obtain ⟨n1, n2, n3⟩ := List.nodup_append.mp h1
    rw [blks_app, blks_cons]
    cases e : r.v.ownBlock with
    | none => exact h1
    | some g =>
      have := hn g e
      rw [blks_app] at this
      have h2 : g ∉ blks A := fun hg => this (List.mem_append_left _ hg)
      have h3 : g ∉ blks B := fun hg => this (List.mem_append_right _ hg)
      refine List.nodup_append.mpr ⟨n1, List.nodup_cons.mpr ⟨h3, n2⟩, ?_⟩
      intro a ha b hb2
      rcases List.mem_cons.mp hb2 with rfl | hb2
      · intro e2; rw [e2] at ha; exact h2 ha
      · exact n3 a ha b hb2
/-- One row less. -/
theorem Own.drop {w : World} {A B : List Rw} {r : Rw} (h : Own w (A ++ r :: B)) : Own w (A ++ B) := by
  refine ⟨fun x hx => h.rows x (by rcases List.mem_append.mp hx with hx | hx; exact List.mem_append_left _ hx; exact List.mem_append_right _ (List.mem_cons_of_mem _ hx)), ?_⟩
  have h1 := h.apart
  rw [blks_app, blks_cons] at h1
  obtain ⟨n1, n2, n3⟩ := List.nodup_append.mp h1
  rw [blks_app]
  cases e : r.v.ownBlock with
  | none => rw [e] at h1; exact h1
  | some g =>
    rw [e] at n2 n3
    exact List.nodup_append.mpr ⟨n1, (List.nodup_cons.mp n2).2, fun a ha b hb => n3 a ha b (List.mem_cons_of_mem _ hb)⟩
theorem blks_drop (A B : List Rw) (r : Rw) : ∀ k ∈ blks (A ++ B), k ∈ blks (A ++ r :: B) := by
  intro k hk
  rw [blks_app] at hk ⊢
  rcases List.mem_append.mp hk with hk | hk
  · exact List.mem_append_left _ hk
  · refine List.mem_append_right _ ?_
    rw [blks_cons]
    cases r.v.ownBlock with
    | none => exact hk
    | some g => exact List.mem_cons_of_mem _ hk
end Go.Proofs.YtbpajiljfppjcaaGreatDoor

namespace Go.Proofs.YtbpajiljfppjcaaGreatDoor
open Go.RowKit
attribute [local go_sem ↓] Go.wp_at_zero Go.wp_at_succ

def intsV (l : List Int) : List Value := l.map (Value.int .i64)
/-- What the machine's cells and rows hold: values that point to rows. -/
structure McX where
  lv : Value
  iv : Value
  fv : Value
  vv : Value
  ov : Value
  fps : List Value
  vps : List Value
  cs : List (List Value)
def iRow (v : Value) (l : List Int) : Rw := ⟨3, 1, v, l.length, intsV l⟩
def fCells : List Value → List Rt.Fm → List Value
  | v :: vs, f :: fs => v :: .int .i64 f.call :: fCells vs fs
  | _, _ => []
theorem fCells_len : ∀ (vs : List Value) (fs : List Rt.Fm), vs.length = fs.length → (fCells vs fs).length = fs.length * 2
  | [], [], _ => rfl
  | [], _ :: _, h => by simp at h
  | _ :: _, [], h => by simp at h
  | v :: vs, f :: fs, h => by
    have := fCells_len vs fs (by simpa using h)
    simp only [fCells, List.length_cons, this]
    omega
theorem fCells_snoc : ∀ (vs : List Value) (fs : List Rt.Fm) (v : Value) (f : Rt.Fm), vs.length = fs.length → fCells (vs ++ [v]) (fs ++ [f]) = fCells vs fs ++ [v, .int .i64 f.call]
  | [], [], _, _, _ => rfl
  | [], _ :: _, _, _, h => by simp at h
  | _ :: _, [], _, _, h => by simp at h
  | v :: vs, f :: fs, v', f', h => by
    have := fCells_snoc vs fs v' f' (by simpa using h)
    simp only [List.cons_append, fCells, this]
theorem fCells_get : ∀ (vs : List Value) (fs : List Rt.Fm) (h : vs.length = fs.length) (i : Nat) (hi : i < fs.length), (fCells vs fs)[i * 2]? = some (vs[i]'(by rw [h]; exact hi)) ∧ (fCells vs fs)[i * 2 + 1]? = some (.int .i64 fs[i].call)
  | [], [], _, i, hi => by simp at hi
  | [], _ :: _, h, _, _ => by simp at h
  | _ :: _, [], h, _, _ => by simp at h
  | v :: vs, f :: fs, h, 0, hi => by simp [fCells]
  | v :: vs, f :: fs, h, i + 1, hi => by
    have := fCells_get vs fs (by simpa using h) i (by simpa using hi)
    simp only [fCells, show (i + 1) * 2 = i * 2 + 2 by omega]
    simpa using this
def rowsOf (inp : List Int) (X : McX) (m : Rt.Mc) : List Rw :=
  [iRow X.iv inp, ⟨124, 2, X.fv, m.frames.length, fCells X.fps m.frames⟩, ⟨22, 1, X.vv, m.values.length, X.vps⟩, iRow X.ov m.output] ++ (List.zipWith iRow X.fps (m.frames.map Rt.Fm.params) ++ List.zipWith iRow X.vps m.values)
/-- The types of blocks that are none of the machine's rows, nor the program's. -/
def TyOk (t : TypeId) : Prop := t ≠ 3 ∧ t ≠ 124 ∧ t ≠ 22 ∧ t ≠ 122 ∧ t ≠ 154 ∧ t ≠ 9 ∧ t ≠ 200 ∧ t ≠ 117
/-- The machine at block M. -/
structure McS (w : World) (M B : Nat) (ty : TypeId) (tail : List Value) (S : Rt.Src) (m : Rt.Mc) (X : McX) : Prop where
  block : w.heap[M]? = some (.cells ([X.lv, X.iv, X.fv, X.vv, .int .i64 m.taken, X.ov, .int .i64 m.line, .int .i64 m.fin] ++ tail).toArray ty (0, 0))
  prog : ProgM w M B S.pls S.lk X.lv X.cs
  own : Own w (rowsOf S.input X m)
  fl : X.fps.length = m.frames.length
  vl : X.vps.length = m.values.length
  ty : TyOk ty
/-- The bounds that a run keeps to. -/
structure Mok (S : Rt.Src) (m : Rt.Mc) : Prop where
  pls : S.pls.length ≤ 101
  input : S.input.length ≤ 100
  frames : m.frames.length ≤ 1000
  values : m.values.length ≤ 101
  output : m.output.length ≤ 1000
  params : ∀ f ∈ m.frames, f.params.length ≤ 1000
  cells : ∀ l ∈ m.values, l.length ≤ 1000
  forms : ∀ p ∈ S.pls, Rt.Small p.form

theorem McS.later {w w' : World} {M B : Nat} {ty : TypeId} {tail : List Value} {S : Rt.Src} {m : Rt.Mc} {X : McX} (h : McS w M B ty tail S m X) (hb : Below w.heap.size w w') : McS w' M B ty tail S m X :=
  ⟨block_later h.block hb, h.prog.later hb, h.own.later hb, h.fl, h.vl, h.ty⟩
section
variable {w : World} {M B : Nat} {ty : TypeId} {tail : List Value} {S : Rt.Src} {m : Rt.Mc} {X : McX} (h : McS w M B ty tail S m X)
include h
theorem McS.c1 : w.cell? ⟨M, 1, none⟩ = some X.iv := by have := cell_of_block h.block 1 (by simp); simpa using this
theorem McS.c2 : w.cell? ⟨M, 2, none⟩ = some X.fv := by have := cell_of_block h.block 2 (by simp); simpa using this
theorem McS.c3 : w.cell? ⟨M, 3, none⟩ = some X.vv := by have := cell_of_block h.block 3 (by simp); simpa using this
theorem McS.c4 : w.cell? ⟨M, 4, none⟩ = some (.int .i64 m.taken) := by have := cell_of_block h.block 4 (by simp); simpa using this
theorem McS.c5 : w.cell? ⟨M, 5, none⟩ = some X.ov := by have := cell_of_block h.block 5 (by simp); simpa using this
theorem McS.c6 : w.cell? ⟨M, 6, none⟩ = some (.int .i64 m.line) := by have := cell_of_block h.block 6 (by simp); simpa using this
theorem McS.c7 : w.cell? ⟨M, 7, none⟩ = some (.int .i64 m.fin) := by have := cell_of_block h.block 7 (by simp); simpa using this
theorem McS.fz (i : Nat) : w.frozen? ⟨M, i, none⟩ = false := free_of_block h.block i
theorem McS.input : w.ownsRow 0 3 1 X.iv S.input.length (intsV S.input) := h.own.rows (iRow X.iv S.input) (by simp [rowsOf])
theorem McS.frames : w.ownsRow 0 124 2 X.fv m.frames.length (fCells X.fps m.frames) := h.own.rows ⟨124, 2, X.fv, m.frames.length, fCells X.fps m.frames⟩ (by simp [rowsOf])
theorem McS.vals : w.ownsRow 0 22 1 X.vv m.values.length X.vps := h.own.rows ⟨22, 1, X.vv, m.values.length, X.vps⟩ (by simp [rowsOf])
theorem McS.out : w.ownsRow 0 3 1 X.ov m.output.length (intsV m.output) := h.own.rows (iRow X.ov m.output) (by simp [rowsOf])
theorem McS.parRow (i : Nat) (hi : i < m.frames.length) : w.ownsRow 0 3 1 (X.fps[i]'(by rw [h.fl]; exact hi)) m.frames[i].params.length (intsV m.frames[i].params) := by
  have hi' : i < X.fps.length := by rw [h.fl]; exact hi
  refine h.own.rows (iRow X.fps[i] m.frames[i].params) ?_
  unfold rowsOf
  refine List.mem_append_right _ (List.mem_append_left _ ?_)
  have : (List.zipWith iRow X.fps (m.frames.map Rt.Fm.params))[i]? = some (iRow X.fps[i] m.frames[i].params) := by
    rw [List.getElem?_zipWith, List.getElem?_eq_getElem hi', List.getElem?_map, List.getElem?_eq_getElem hi]
    rfl
  exact List.mem_of_getElem? this
theorem McS.valRow (i : Nat) (hi : i < m.values.length) : w.ownsRow 0 3 1 (X.vps[i]'(by rw [h.vl]; exact hi)) m.values[i].length (intsV m.values[i]) := by
  have hi' : i < X.vps.length := by rw [h.vl]; exact hi
  refine h.own.rows (iRow X.vps[i] m.values[i]) ?_
  unfold rowsOf
  refine List.mem_append_right _ (List.mem_append_right _ ?_)
  have : (List.zipWith iRow X.vps m.values)[i]? = some (iRow X.vps[i] m.values[i]) := by
    rw [List.getElem?_zipWith, List.getElem?_eq_getElem hi', List.getElem?_eq_getElem hi]
  exact List.mem_of_getElem? this
end
/-- The value that points to the cells of a line, or to the present frame's parameters. -/
def cellsV (X : McX) (m : Rt.Mc) (l : Int) : Value :=
  if 0 < l ∧ l < m.values.length then (X.vps[l.toNat]?).getD (.slice none 0 0)
  else if l = 0 ∧ 0 < m.frames.length then (X.fps[m.frames.length - 1]?).getD (.slice none 0 0)
  else .slice none 0 0
theorem McS.cellsRow {w : World} {M B : Nat} {ty : TypeId} {tail : List Value} {S : Rt.Src} {m : Rt.Mc} {X : McX} (h : McS w M B ty tail S m X) (l : Int) : w.ownsRow 0 3 1 (cellsV X m l) (Rt.cellsOf m l).length (intsV (Rt.cellsOf m l)) := by
  unfold cellsV Rt.cellsOf
  by_cases h1 : 0 < l ∧ l < m.values.length
  · rw [if_pos h1, if_pos h1]
    have hi : l.toNat < m.values.length := by omega
    rw [List.getElem?_eq_getElem hi, List.getElem?_eq_getElem (by rw [h.vl]; exact hi)]
    exact h.valRow _ hi
  · rw [if_neg h1, if_neg h1]
    by_cases h2 : l = 0 ∧ 0 < m.frames.length
    · rw [if_pos h2, if_pos h2]
      have hi : m.frames.length - 1 < m.frames.length := by omega
      rw [List.getElem?_eq_getElem (by rw [h.fl]; exact hi)]
      have e : m.frames.getLastD Rt.noFm = m.frames[m.frames.length - 1] := by
        rw [List.getLastD_eq_getLast?, List.getLast?_eq_getElem?, List.getElem?_eq_getElem hi]
        rfl
      rw [e]
      exact h.parRow _ hi
    · rw [if_neg h2, if_neg h2]
      exact World.ownsRow_nil _ _ _ _
theorem cells_len {S : Rt.Src} {m : Rt.Mc} (h : Mok S m) (l : Int) : (Rt.cellsOf m l).length ≤ 1000 := by
  unfold Rt.cellsOf
  split
  · cases e : m.values[l.toNat]? with
    | none => simp
    | some x => exact h.cells x (List.mem_of_getElem? e)
  · split
    · next h2 =>
      have hne : m.frames ≠ [] := by intro e; rw [e] at h2; simp at h2
      rw [List.getLastD_eq_getLast?, List.getLast?_eq_some_getLast hne]
      exact h.params _ (List.getLast_mem hne)
    · simp

set_option maxHeartbeats 1000000 in
theorem cells_any (w : World) (M B : Nat) (ty : TypeId) (tail : List Value) (S : Rt.Src) (m : Rt.Mc) (X : McX) (l : Int) (h : McS w M B ty tail S m X) (hm : Mok S m) :
    Calls Tryz.prog 131 #[.pointer (some ⟨M, 0, none⟩), .int .i64 l] w fun e w' => e = .returned (cellsV X m l) ∧ Below w.heap.size w w' := by
  have c2 := h.c2
  have c3 := h.c3
  obtain ⟨fad, fcap, hfv⟩ := ownsRow_form h.frames
  obtain ⟨vad, vcap, hvv⟩ := ownsRow_form h.vals
  rw [hfv] at c2
  rw [hvv] at c3
  by_cases h1 : 0 < l ∧ l < m.values.length
  · obtain ⟨k, rfl⟩ := Int.eq_ofNat_of_zero_le (show 0 ≤ l by omega)
    have hk : k < m.values.length := by omega
    have hk' : (k : Int) < (m.values.length : Int) := by omega
    have hk1 : (0 : Int) < (k : Int) := h1.1
    have hk0 : (0 : Int) ≤ (k : Int) := by omega
    obtain ⟨g, gcap, hgv, _, _, ca⟩ := own_cell h.vals (j := k) (u := X.vps[k]'(by rw [h.vl]; exact hk)) (List.getElem?_eq_getElem _)
    rw [hvv] at hgv
    injection hgv with e1 _ e2
    subst e1 e2
    have HE := hide (show cellsV X m (k : Int) = X.vps[k]'(by rw [h.vl]; exact hk) by
      unfold cellsV
      rw [if_pos h1]
      simp only [Int.toNat_natCast]
      rw [List.getElem?_eq_getElem (by rw [h.vl]; exact hk)]
      rfl)
    have hrow := h.valRow k hk
    obtain ⟨ad, cap, hv⟩ := ownsRow_form hrow
    rw [hv] at ca HE
    clear h hm h1 hrow hv hvv hfv
    go_enter Tryz.func131, Tryz.ntmps131
    go_wp2_with fail
    go_ret
    exact ⟨by rw [unhide HE]; rfl, Below.refl _ _⟩
  · by_cases h2 : l = 0 ∧ 0 < m.frames.length
    · obtain ⟨rfl, hpos⟩ := h2
      have hlen := hm.frames
      obtain ⟨k, hk⟩ : ∃ k, m.frames.length = k + 1 := ⟨m.frames.length - 1, by omega⟩
      have hkl : k < m.frames.length := by omega
      have hkf : k < X.fps.length := by rw [h.fl]; exact hkl
      have HE := hide (show cellsV X m 0 = X.fps[k] by
        unfold cellsV
        rw [if_neg (by omega), if_pos ⟨rfl, hpos⟩, show m.frames.length - 1 = k by omega, List.getElem?_eq_getElem hkf]
        rfl)
      have hrow := h.parRow k hkl
      obtain ⟨ad, cap, hv⟩ := ownsRow_form hrow
      have hfc : (fCells X.fps m.frames)[k * 2]? = some X.fps[k] := (fCells_get X.fps m.frames h.fl k hkl).1
      obtain ⟨g, gcap, hgv, _, _, ca⟩ := own_cell h.frames hfc
      rw [hfv] at hgv
      injection hgv with e1 _ e2
      subst e1 e2
      rw [hv] at ca HE
      rw [hk] at c2
      clear h hm h1 hrow hv hvv hfv hfc hpos
      have hk1 : k + 1 ≤ 1000 := by omega
      generalize m.frames[k].params.length = pn at *
      have hm0 : (0 : Int) ≤ (k : Int) := by omega
      have hm1 : (k : Int) < (k : Int) + 1 := by omega
      have hm2 : (k : Int) ≤ 1000 := by omega
      have hm3 := wrapm1 k hk1
      have hm4 := wrapm0 k hk1
      have hm5 : (0 : Int) < (k : Int) + 1 := by omega
      clear hk hkl hkf hlen
      go_enter Tryz.func131, Tryz.ntmps131
      go_wp2_with fail
      go_region_held3 (fun w' => w'.cell? ⟨M, 2, none⟩ = some (.slice (some ⟨g, 0, none⟩) (k + 1) fcap) ∧ w'.cell? ⟨g, k * 2, none⟩ = some (.slice ad pn cap)) (go_keep) (fail)
      go_wp2_with fail
      go_ret
      exact ⟨by rw [unhide HE]; rfl, (Below.refl _ _).drew⟩
    · have HE := hide (show cellsV X m l = .slice none 0 0 by unfold cellsV; rw [if_neg h1, if_neg h2])
      clear h hm hvv hfv
      by_cases h3 : 0 < l
      · have h4 : ¬ l < (m.values.length : Int) := fun e => h1 ⟨h3, e⟩
        have h5 : (l == 0) = false := by rw [beq_eq_false_iff_ne]; omega
        clear h1 h2
        go_enter Tryz.func131, Tryz.ntmps131
        go_wp2_with fail
        go_ret
        exact ⟨by rw [unhide HE]; rfl, Below.refl _ _⟩
      · by_cases h0 : l = 0
        · subst h0
          have h6 : m.frames.length = 0 := by omega
          rw [h6] at c2
          clear h1 h2 h3 h6
          go_enter Tryz.func131, Tryz.ntmps131
          go_wp2_with fail
          go_ret
          exact ⟨by rw [unhide HE]; rfl, Below.refl _ _⟩
        · have h5 : (l == 0) = false := by rw [beq_eq_false_iff_ne]; omega
          clear h1 h2 h0
          go_enter Tryz.func131, Tryz.ntmps131
          go_wp2_with fail
          go_ret
          exact ⟨by rw [unhide HE]; rfl, Below.refl _ _⟩

theorem Tryz.fieldL6 (a0 : Option Addr) (n0 k0 : Nat) (kd : Int) (nm : ByteArray) (cl : Int) (a1 : Option Addr) (n1 k1 : Nat) (a2 : Option Addr) (n2 k2 : Nat) (a3 : Option Addr) (n3 k3 : Nat) (d o x y p : Int) (w : World) :
    (Instr.field 122 (.agg #[.slice a0 n0 k0, .int .i64 kd, .string nm, .int .i64 cl, .slice a1 n1 k1, .slice a2 n2 k2, .slice a3 n3 k3, .int .i64 d, .int .i64 o, .int .i64 x, .int .i64 y, .int .i64 p]) 6).run Tryz.prog w = .ok (.int .i64 p) w := by kernel_rfl
theorem proc_any (w : World) (M B : Nat) (ty : TypeId) (tail : List Value) (S : Rt.Src) (m : Rt.Mc) (X : McX) (h : McS w M B ty tail S m X) :
    Calls Tryz.prog 108 #[.pointer (some ⟨M, 0, none⟩)] w fun e w' => e = .returned (.int .i64 (Rt.procOf S m)) ∧ Below w.heap.size w w' := by
  have c6 := h.c6
  have HH := hide h.prog
  have HE := hide (show Rt.procOf S m = (Rt.lineAtP S.pls m.line).proc from rfl)
  clear h
  go_enter Tryz.func108, Tryz.ntmps108
  go_wp2_with fail
  go_region_with ((go_at_call 68; refine (Line_m _ _ _ _ _ _ _ m.line ((unhide HH).later (below_to_drew _))).mono ?_; rintro e w1 ⟨a0, a1, a2, a3, k0, k1, k2, k3, rfl, _, _, hb⟩; have hf := Tryz.fieldL6 a0 (Rt.lineAtP S.pls m.line).toks.length k0 (Rt.lineAtP S.pls m.line).form.kind (Rt.lineAtP S.pls m.line).form.name (Rt.lineAtP S.pls m.line).form.cells a1 (Rt.lineAtP S.pls m.line).form.params.length k1 a2 (Rt.lineAtP S.pls m.line).form.index.length k2 a3 (Rt.lineAtP S.pls m.line).form.values.length k3 (Rt.lineAtP S.pls m.line).depth (Rt.lineAtP S.pls m.line).opener (Rt.lkAt S.lk m.line).1 (Rt.lkAt S.lk m.line).2 (Rt.lineAtP S.pls m.line).proc))
  all_goals
    have HB := hide (below_of_drew hb)
    clear hb
    go_wp2_with fail
    go_ret
    exact ⟨by rw [unhide HE]; rfl, unhide HB⟩

/-- A spot, as a value. -/
def spotV (s : Rt.Spot) : Value := .agg #[.int .i64 s.line, .int .i64 s.cell]
set_option maxHeartbeats 1000000 in
theorem get_any (w : World) (M B : Nat) (ty : TypeId) (tail : List Value) (S : Rt.Src) (m : Rt.Mc) (X : McX) (s : Rt.Spot) (h : McS w M B ty tail S m X) (hm : Mok S m) :
    Calls Tryz.prog 111 #[.pointer (some ⟨M, 0, none⟩), .agg #[.int .i64 s.line, .int .i64 s.cell]] w fun e w' => e = .returned (.int .i64 (Rt.getS m s)) ∧ Below w.heap.size w w' := by
  have hcl := cells_len hm s.line
  have hbA := (Below.refl w.heap.size w).alloc (Nat.le_refl _) (.cells #[.int .i64 s.line, .int .i64 s.cell] 131)
  have hA := h.later hbA
  clear h
  go_enter Tryz.func111, Tryz.ntmps111
  go_wp2_with fail
  refine (cells_any _ M B ty tail S m X s.line hA hm).mono ?_
  rintro e w1 ⟨rfl, hb⟩
  have hrow := own_later (hA.cellsRow s.line) hb
  have HB := hide (hbA.trans (hb.mono (B' := w.heap.size) (by simp)))
  have hS := block_later (heap_alloc_new w (.cells #[.int .i64 s.line, .int .i64 s.cell] 131)) hb
  have cS := cell_of_block hS 1 (by simp)
  simp at cS
  obtain ⟨ad, cap, hv⟩ := ownsRow_form hrow
  rw [hv] at hrow ⊢
  clear hb hA hm hbA hS hv
  generalize HC : Rt.cellsOf m s.line = l at *
  generalize HCell : s.cell = c at *
  have HG := hide (show Rt.getS m s = if c < 0 then 0 else (l[c.toNat]?).getD 0 by unfold Rt.getS; rw [HC, HCell])
  clear HC HCell
  by_cases h1 : c < 0
  · have HE := hide (show Rt.getS m s = 0 by rw [unhide HG, if_pos h1])
    clear hrow HG
    go_wp2_with fail
    go_ret
    exact ⟨by rw [unhide HE]; rfl, unhide HB⟩
  · obtain ⟨k, rfl⟩ := Int.eq_ofNat_of_zero_le (show 0 ≤ c by omega)
    by_cases h2 : k < l.length
    · obtain ⟨g, gcap, hgv, _, _, ca⟩ := own_cell hrow (j := k) (u := .int .i64 l[k]) (by simp [intsV, h2])
      injection hgv with e1 _ e2
      subst e1 e2
      have HE := hide (show Rt.getS m s = l[k] by rw [unhide HG, if_neg h1]; simp [h2])
      have h2' : ¬ (l.length : Int) ≤ (k : Int) := by omega
      have h3' : (k : Int) < (l.length : Int) := by omega
      have h0' : (0 : Int) ≤ (k : Int) := by omega
      clear hrow HG
      generalize l[k] = x at *
      go_wp2_with fail
      go_ret
      exact ⟨by rw [unhide HE]; rfl, unhide HB⟩
    · have HE := hide (show Rt.getS m s = 0 by rw [unhide HG, if_neg h1]; simp [List.getElem?_eq_none (show l.length ≤ k by omega)])
      have h2' : (l.length : Int) ≤ (k : Int) := by omega
      clear hrow HG
      go_wp2_with fail
      go_ret
      exact ⟨by rw [unhide HE]; rfl, unhide HB⟩
end Go.Proofs.YtbpajiljfppjcaaGreatDoor

