/- Where the document's answer parts an expression. -/
import Derived.Test.YthleadfkfnnadaaGreatRows
import Derived.Test.YthleadfkfnnadaaGreatChecked
import Derived.ProofKit
import Derived.OpenShut
import Derived.SizedLaws
import Derived.Carry
import Derived.Deep.Slices
import Derived.Test.YthleadfkfnnadaaGreatLwE
import Derived.Test.YthleadfkfnnadaaGreatRfDefs
namespace Go.Proofs.YthleadfkfnnadaaGreat
open Go.ChangeShapes Go.WideShapes Go.ChangeAt Go.RowKit
theorem Tryz.own : ownKnob Tryz.prog.godebug = none := by kernel_rfl
theorem Tryz.laidOut : laidOutB Tryz.prog = true := by kernel_rfl
theorem Tryz.bytesOp : Tryz.prog.bytesOf 32 = 72 := by kernel_rfl
theorem Tryz.bytesInt : Tryz.prog.bytesOf 3 = 8 := by kernel_rfl
theorem Tryz.cellsInt : Tryz.prog.cellsOf 3 = 1 := by kernel_rfl
theorem Tryz.cellsStr : Tryz.prog.cellsOf 9 = 1 := by kernel_rfl
theorem Tryz.cellsInts : Tryz.prog.cellsOf 24 = 1 := by kernel_rfl
theorem Tryz.cellsOp : Tryz.prog.cellsOf 32 = 6 := by kernel_rfl
set_option maxRecDepth 100000 in
theorem ints_in {H : Type} {enc : TypeId × Value → H} {W : World} {base : Nat} {spare : Nat → Bool} {held : Bool} {n : Nat} {cs : List Value} {x : DataW H × List MemPlace} (h : DataW.trod enc Tryz.prog W base spare held n 24 cs = some x) (hw : (x.1.weights Tryz.prog 24).all (· ≤ reachBytes) = true) :
    ∃ v xs, cs = [v] ∧ Ints W v xs ∧ xs.length ≤ 17592186044416 := by
  rcases Go.Deep.open_slice1 Tryz.underlying24 Tryz.cellsInt h with ⟨rfl, _⟩ | ⟨a, len, cap, m, n, V, D, Pl, rfl, _, hl, hm, hmm, hx, hcells⟩
  · exact ⟨_, [], rfl, ⟨none, 0, rfl, Or.inl rfl⟩, by simp⟩
  · have hlm : len ≤ m := by rw [hmm]; split <;> omega
    obtain ⟨f, hfo⟩ := Go.Deep.choose_lt (α := Int) (n := m) (p := fun i k => W.cell? (a.add i) = some (.int .i64 k)) (fun i hi => by
      obtain ⟨h1, h2⟩ := hcells i hi
      obtain ⟨k, hk, _, _⟩ := DataW.trod_int Tryz.underlying3 h2
      simp at hk
      rw [hk] at h1
      exact ⟨k, h1⟩)
    refine ⟨_, (List.range len).map f, rfl, ⟨some a, cap, by simp, ?_⟩, ?_⟩
    · by_cases hl0 : len = 0
      · subst hl0; exact Or.inl rfl
      · obtain ⟨b, off, spot⟩ := a
        have hspot : spot = none := by
          have := World.cell?_spot (hfo 0 (by omega))
          simpa [Addr.add] using this
        subst hspot
        refine Or.inr ⟨b, off, rfl, fun j hj => ?_⟩
        simp at hj
        simp only [List.getElem_map, List.getElem_range]
        have := hfo j (by omega)
        rw [show (⟨b, off, none⟩ : Addr).add j = ⟨b, off + j, none⟩ by simp [Addr.add]] at this
        exact this
    · rw [hx] at hw
      unfold DataW.weights at hw
      rw [Tryz.underlying24] at hw
      simp only [List.all_cons, Bool.and_eq_true, decide_eq_true_eq, List.length_map, List.length_range, Tryz.bytesInt] at hw
      have := reachBytes_lt
      have := hw.1
      simp
      omega
theorem six_op (cs : List Value) (k a b c : Int) (s : ByteArray) (v : Value) (hl : cs.length = 6) (h0 : (cs.drop 0).take 1 = [.int .i64 k]) (h1 : (cs.drop 1).take 1 = [.int .i64 a]) (h2 : (cs.drop 2).take 1 = [.int .i64 b]) (h3 : (cs.drop 3).take 1 = [.int .i64 c]) (h4 : (cs.drop 4).take 1 = [.string s]) (h5 : (cs.drop 5).take 1 = [v]) :
    cs = [.int .i64 k, .int .i64 a, .int .i64 b, .int .i64 c, .string s, v] := by
  match cs, hl with
  | [c0, c1, c2, c3, c4, c5], _ => simp_all
def OpOK (w : World) (op : OpE) : Prop := op.s.size ≤ maxLen ∧ (Ints w op.v op.l ∧ op.l.length ≤ 17592186044416) ∧ (-9223372036854775808 ≤ op.a ∧ op.a ≤ 9223372036854775807) ∧ (-9223372036854775808 ≤ op.b ∧ op.b ≤ 9223372036854775807) ∧ (-9223372036854775808 ≤ op.c ∧ op.c ≤ 9223372036854775807)
set_option maxRecDepth 100000 in
theorem op_in {H : Type} {enc : TypeId × Value → H} {w : World} {base : Nat} {spare : Nat → Bool} {held : Bool} {n : Nat} {cs : List Value} {x : DataW H × List MemPlace} (h : DataW.trod enc Tryz.prog w base spare held n 32 cs = some x) (hw : (x.1.weights Tryz.prog 32).all (· ≤ reachBytes) = true) :
    ∃ op : OpE, cs = [.int .i64 op.kind, .int .i64 op.a, .int .i64 op.b, .int .i64 op.c, .string op.s, op.v] ∧ OpOK w op := by
  obtain ⟨xs, m, rfl, hxe, hl, hxs, hf⟩ := DataW.trod_struct Tryz.underlying32 h
  rw [Tryz.cellsOp] at hl
  have hx6 : xs.length = 6 := hxs
  have get : ∀ i (hi : i < 6), xs[i]? = some xs[i] := fun i hi => List.getElem?_eq_getElem (by omega)
  have i0 : DataW.trod enc Tryz.prog w base spare held m 3 ((cs.drop 0).take (Tryz.prog.cellsOf 3)) = xs[0]? := hf 0 _ rfl
  have i1 : DataW.trod enc Tryz.prog w base spare held m 3 ((cs.drop 1).take (Tryz.prog.cellsOf 3)) = xs[1]? := hf 1 _ rfl
  have i2 : DataW.trod enc Tryz.prog w base spare held m 3 ((cs.drop 2).take (Tryz.prog.cellsOf 3)) = xs[2]? := hf 2 _ rfl
  have i3 : DataW.trod enc Tryz.prog w base spare held m 3 ((cs.drop 3).take (Tryz.prog.cellsOf 3)) = xs[3]? := hf 3 _ rfl
  have i4 : DataW.trod enc Tryz.prog w base spare held m 9 ((cs.drop 4).take (Tryz.prog.cellsOf 9)) = xs[4]? := hf 4 _ rfl
  have i5 : DataW.trod enc Tryz.prog w base spare held m 24 ((cs.drop 5).take (Tryz.prog.cellsOf 24)) = xs[5]? := hf 5 _ rfl
  rw [Tryz.cellsInt, get _ (by omega)] at i0 i1 i2 i3
  rw [Tryz.cellsStr, get _ (by omega)] at i4
  rw [Tryz.cellsInts, get _ (by omega)] at i5
  obtain ⟨k, k0, _⟩ := DataW.trod_int Tryz.underlying3 i0
  obtain ⟨a, a0, _, ab⟩ := DataW.trod_int Tryz.underlying3 i1
  obtain ⟨b, b0, _, bb⟩ := DataW.trod_int Tryz.underlying3 i2
  obtain ⟨c, c0, _, cb⟩ := DataW.trod_int Tryz.underlying3 i3
  obtain ⟨s, s0, _, hss⟩ := DataW.trod_string Tryz.underlying9 i4
  obtain ⟨v, l, v0, hv, hvl⟩ := ints_in i5 (by
    rw [hxe] at hw
    unfold DataW.weights at hw
    rw [Tryz.underlying32] at hw
    rw [List.all_eq_true] at hw ⊢
    intro q hq
    exact hw q (DataW.weights_mem_each (j := 5) (t := 24) (d := xs[5].1) rfl (by rw [List.getElem?_map, get 5 (by omega)]; rfl) q hq))
  exact ⟨⟨k, a, b, c, s, v, l⟩, six_op cs k a b c s v hl k0 a0 b0 c0 s0 v0, hss, ⟨hv, hvl⟩, bounds_i64 ab, bounds_i64 bb, bounds_i64 cb⟩
theorem weights_all {H : Type} {e : TypeId} : ∀ {ds : List (DataW H)} {d : DataW H}, d ∈ ds → ∀ q ∈ d.weights Tryz.prog e, q ∈ DataW.weightsAll Tryz.prog e ds
  | [], _, h, _, _ => by simp at h
  | a :: r, d, h, q, hq => by
    unfold DataW.weightsAll
    rcases List.mem_cons.mp h with rfl | h
    · exact List.mem_append_left _ hq
    · exact List.mem_append_right _ (weights_all h q hq)
set_option maxRecDepth 100000 in
theorem scr_in {H : Type} {enc : TypeId × Value → H} {W : World} {a0 : Option Addr} {len cap : Nat} {d0 : DataW H} {p : List MemPlace} (h0 : DataW.Trod enc Tryz.prog W 0 (fun _ => true) true 22 (.slice a0 len cap) d0 p) (hw : (d0.weights Tryz.prog 22).all (· ≤ reachBytes) = true) :
    ∃ ops, ScrE W (.slice a0 len cap) ops ∧ ops.length = len ∧ len * 72 ≤ 140737488351232 := by
  obtain ⟨fuel, hf⟩ := h0
  rcases Go.Deep.open_slice Tryz.underlying22 hf with ⟨hcs, hx⟩ | ⟨a, len', cap', m, n, D, Pl, hcs, _, hl, hm, hmm, hx, hcells⟩
  · simp [Value.cells] at hcs
    obtain ⟨rfl, rfl, rfl⟩ := hcs
    exact ⟨[], ⟨⟨none, 0, rfl, Or.inl rfl⟩, by simp, by simp, by simp⟩, rfl, by omega⟩
  · simp [Value.cells] at hcs
    obtain ⟨rfl, rfl, rfl⟩ := hcs
    simp only [Prod.mk.injEq] at hx
    obtain ⟨hd, _⟩ := hx
    simp only [if_true] at hmm
    subst hmm
    rw [hd] at hw
    unfold DataW.weights at hw
    rw [Tryz.underlying22] at hw
    simp only [List.all_cons, Bool.and_eq_true, decide_eq_true_eq, List.length_map, List.length_range, Tryz.bytesOp] at hw
    obtain ⟨hw1, hw2⟩ := hw
    rw [List.all_eq_true] at hw2
    rw [Tryz.cellsOp] at hcells
    haveI : Inhabited OpE := ⟨⟨0, 0, 0, 0, ⟨#[]⟩, .bool false, []⟩⟩
    obtain ⟨f, hfo⟩ := Go.Deep.choose_lt (α := OpE) (n := len) (p := fun i op => OpOK W op ∧ W.cell? (a.add (i * 6)) = some (.int .i64 op.kind) ∧ W.cell? (a.add (i * 6 + 1)) = some (.int .i64 op.a) ∧ W.cell? (a.add (i * 6 + 2)) = some (.int .i64 op.b) ∧ W.cell? (a.add (i * 6 + 3)) = some (.int .i64 op.c) ∧ W.cell? (a.add (i * 6 + 4)) = some (.string op.s) ∧ W.cell? (a.add (i * 6 + 5)) = some op.v) (fun i hi => by
      obtain ⟨cs', h1, h2⟩ := hcells i (by omega)
      obtain ⟨op, hcs', hok⟩ := op_in h2 (by
        rw [List.all_eq_true]
        intro q hq
        exact hw2 q (List.mem_append_left _ (weights_all (List.mem_map.mpr ⟨i, by simpa using hi, rfl⟩) q hq)))
      obtain ⟨_, _, hce⟩ := World.cells?_some h1
      subst hcs'
      have e : ∀ j, (a.add (i * 6)).add j = a.add (i * 6 + j) := fun j => Go.Deep.add_add a (i * 6) j
      exact ⟨op, hok, by have := hce 0 (by omega); rw [e] at this; simpa using this, by have := hce 1 (by omega); rw [e] at this; simpa using this, by have := hce 2 (by omega); rw [e] at this; simpa using this, by have := hce 3 (by omega); rw [e] at this; simpa using this, by have := hce 4 (by omega); rw [e] at this; simpa using this, by have := hce 5 (by omega); rw [e] at this; simpa using this⟩)
    have each : ∀ op ∈ (List.range len).map f, OpOK W op := fun op hop => by
      simp at hop
      obtain ⟨i, hi, rfl⟩ := hop
      exact (hfo i hi).1
    refine ⟨(List.range len).map f, ⟨⟨some a, m, by simp, ?_⟩, fun op h => (each op h).1, fun op h => (each op h).2.1, fun op h => (each op h).2.2⟩, by simp, by unfold reachBytes at hw1; omega⟩
    by_cases hl0 : len = 0
    · subst hl0; exact Or.inl rfl
    · obtain ⟨b, off, spot⟩ := a
      have hspot : spot = none := by
        have := World.cell?_spot (hfo 0 (by omega)).2.1
        simpa [Addr.add] using this
      subst hspot
      refine Or.inr ⟨b, off, rfl, fun j hj => ?_⟩
      simp at hj
      obtain ⟨_, h1, h2, h3, h4, h5, h6⟩ := hfo j (by omega)
      simp only [List.getElem_map, List.getElem_range]
      have e : ∀ q, (⟨b, off, none⟩ : Addr).add q = ⟨b, off + q, none⟩ := fun q => by simp [Addr.add]
      rw [e] at h1 h2 h3 h4 h5 h6
      exact ⟨h1, by rw [Nat.add_assoc]; exact h2, by rw [Nat.add_assoc]; exact h3, by rw [Nat.add_assoc]; exact h4, by rw [Nat.add_assoc]; exact h5, by rw [Nat.add_assoc]; exact h6⟩
end Go.Proofs.YthleadfkfnnadaaGreat
namespace Go.Proofs.YthleadfkfnnadaaGreat
namespace Rf
def minusW : ByteArray := ⟨#[45]⟩
def lparW : ByteArray := ⟨#[40]⟩
def rparW : ByteArray := ⟨#[41]⟩
def lbrW : ByteArray := ⟨#[91]⟩
def rbrW : ByteArray := ⟨#[93]⟩
inductive Is : Nat → List ByteArray → Prop
  | num (x : ByteArray) : numberB x = true → Is 3 [x]
  | nam (x : ByteArray) : nameB x = true → Is 3 [x]
  | neg (p : List ByteArray) : Is 3 p → Is 3 (minusW :: p)
  | par (p : List ByteArray) : Is 0 p → Is 3 (lparW :: (p ++ [rparW]))
  | cel (x : ByteArray) (p : List ByteArray) : nameB x = true → Is 0 p → Is 3 (x :: lbrW :: (p ++ [rbrW]))
  | t1 (p : List ByteArray) : Is 3 p → Is 2 p
  | t2 (p : List ByteArray) (o : ByteArray) (q : List ByteArray) : Is 2 p → inB divW o = true → Is 3 q → Is 2 (p ++ o :: q)
  | s1 (p : List ByteArray) : Is 2 p → Is 1 p
  | s2 (p : List ByteArray) (o : ByteArray) (q : List ByteArray) : Is 1 p → inB addW o = true → Is 2 q → Is 1 (p ++ o :: q)
  | e1 (p : List ByteArray) : Is 1 p → Is 0 p
  | e2 (p : List ByteArray) (o : ByteArray) (q : List ByteArray) : Is 1 p → inB cmpW o = true → Is 1 q → Is 0 (p ++ o :: q)
theorem div_cases {o : ByteArray} (h : inB divW o = true) : o = ⟨#[42]⟩ ∨ o = ⟨#[47]⟩ ∨ o = ⟨#[37]⟩ := by
  simp [inB, divW] at h
  rcases h with h | h | h <;> simp [← h]
theorem add_cases {o : ByteArray} (h : inB addW o = true) : o = ⟨#[43]⟩ ∨ o = ⟨#[45]⟩ := by
  simp [inB, addW] at h
  rcases h with h | h <;> simp [← h]
theorem cmp_cases {o : ByteArray} (h : inB cmpW o = true) : o = ⟨#[60]⟩ ∨ o = ⟨#[61]⟩ := by
  simp [inB, cmpW] at h
  rcases h with h | h <;> simp [← h]
structure Sgn (o : ByteArray) : Prop where
  dch : dch o = 0
  opd : opdB o = false
theorem sgn_one (b : UInt8) (h : b ∈ [42, 47, 37, 43, 45, 60, 61]) : Sgn ⟨#[b]⟩ := by
  have e : ∀ l : List UInt8, ((⟨#[b]⟩ : ByteArray).toList == l) = ([b] == l) := fun l => by rw [show (⟨#[b]⟩ : ByteArray).toList = [b] from ByteArray.toList_mk [b]]
  have hb : Rt.byteAt ⟨#[b]⟩ 0 = (b.toNat : Int) := by rw [Rt.byteAt_lt (by show 0 < 1; decide)]; rfl
  constructor
  · simp only [Rf.dch, e]
    simp at h
    rcases h with rfl | rfl | rfl | rfl | rfl | rfl | rfl <;> decide
  · simp only [opdB, nameB, numberB, hb, e]
    simp at h
    rcases h with rfl | rfl | rfl | rfl | rfl | rfl | rfl <;> simp [letterB, digitB]
theorem div_sgn {o : ByteArray} (h : inB divW o = true) : Sgn o := by
  rcases div_cases h with rfl | rfl | rfl <;> exact sgn_one _ (by decide)
theorem add_sgn {o : ByteArray} (h : inB addW o = true) : Sgn o := by
  rcases add_cases h with rfl | rfl <;> exact sgn_one _ (by decide)
theorem cmp_sgn {o : ByteArray} (h : inB cmpW o = true) : Sgn o := by
  rcases cmp_cases h with rfl | rfl <;> exact sgn_one _ (by decide)
theorem dch_of (b : UInt8) : dch ⟨#[b]⟩ = if b = 40 then 1 else if b = 91 then 1 else if b = 41 then -1 else if b = 93 then -1 else 0 := by
  simp [dch]
theorem at_app_l {a b : List ByteArray} {i : Nat} (h : i < a.length) : at' (a ++ b) i = at' a i := by
  simp [at', List.getElem?_append_left h]
theorem at_app_r (a b : List ByteArray) (j : Nat) : at' (a ++ b) (a.length + j) = at' b j := by
  simp [at', List.getElem?_append_right]
theorem at_one (x : ByteArray) : at' [x] 0 = x := rfl
theorem depth_app_l (a b : List ByteArray) : ∀ i, i ≤ a.length → depth (a ++ b) i = depth a i
  | 0, _ => rfl
  | i + 1, h => by rw [depth, depth, depth_app_l a b i (by omega), at_app_l (by omega)]
theorem depth_app_r (a b : List ByteArray) : ∀ j, depth (a ++ b) (a.length + j) = depth a a.length + depth b j
  | 0 => by rw [Nat.add_zero, depth_app_l a b _ (Nat.le_refl _)]; simp [depth]
  | j + 1 => by rw [← Nat.add_assoc, depth, depth, depth_app_r a b j, at_app_r]; omega
theorem depth_one (x : ByteArray) : depth [x] 1 = dch x := by simp [depth, at']
structure Bal (p : List ByteArray) : Prop where
  ne : 0 < p.length
  zero : depth p p.length = 0
  nn : ∀ i, i ≤ p.length → 0 ≤ depth p i
  fin : opdB (at' p (p.length - 1)) = true
theorem depth_cons (x : ByteArray) (q : List ByteArray) (j : Nat) : depth (x :: q) (j + 1) = dch x + depth q j := by
  have := depth_app_r [x] q j
  rw [List.singleton_append, List.length_singleton, depth_one] at this
  rw [Nat.add_comm j 1, this]
theorem at_cons (x : ByteArray) (q : List ByteArray) (j : Nat) : at' (x :: q) (j + 1) = at' q j := by simp [at']
theorem at_zero (x : ByteArray) (q : List ByteArray) : at' (x :: q) 0 = x := rfl
theorem Bal.app {p q : List ByteArray} {o : ByteArray} (hp : Bal p) (hq : Bal q) (ho : Sgn o) : Bal (p ++ o :: q) := by
  have hl : (p ++ o :: q).length = p.length + (q.length + 1) := by simp
  refine ⟨by rw [hl]; omega, ?_, fun i hi => ?_, ?_⟩
  · rw [hl, depth_app_r, depth_cons, hp.zero, ho.dch, hq.zero]; rfl
  · by_cases h : i ≤ p.length
    · rw [depth_app_l p _ i h]; exact hp.nn i h
    · obtain ⟨j, rfl⟩ : ∃ j, i = p.length + (j + 1) := ⟨i - p.length - 1, by omega⟩
      rw [depth_app_r, depth_cons, hp.zero, ho.dch]
      have := hq.nn j (by omega)
      omega
  · have h1 := hq.ne
    rw [hl, show p.length + (q.length + 1) - 1 = p.length + ((q.length - 1) + 1) by omega, at_app_r, at_cons]
    exact hq.fin
theorem Bal.neg {p : List ByteArray} (hp : Bal p) : Bal (minusW :: p) := by
  have h1 := hp.ne
  have hm : dch minusW = 0 := by rw [minusW, dch_of]; decide
  refine ⟨by simp, ?_, fun i hi => ?_, ?_⟩
  · rw [List.length_cons, depth_cons, hp.zero, hm]; rfl
  · cases i with
    | zero => simp [depth]
    | succ j =>
      rw [depth_cons, hm]
      have := hp.nn j (by simpa using hi)
      omega
  · rw [List.length_cons, show p.length + 1 - 1 = (p.length - 1) + 1 by omega, at_cons]
    exact hp.fin
theorem depth_wrap (l r : ByteArray) (p : List ByteArray) (j : Nat) (h : j ≤ p.length) : depth (l :: (p ++ [r])) (j + 1) = dch l + depth p j := by
  rw [depth_cons, depth_app_l p _ j h]
theorem depth_wrap_end (l r : ByteArray) (p : List ByteArray) : depth (l :: (p ++ [r])) (p.length + 2) = dch l + depth p p.length + dch r := by
  have := depth_app_r p [r] 1
  rw [depth_one] at this
  rw [show p.length + 2 = (p.length + 1) + 1 by omega, depth_cons, this]
  omega
theorem opd_close (b : UInt8) (h : b = 41 ∨ b = 93) : opdB ⟨#[b]⟩ = true := by
  have e : ∀ l : List UInt8, ((⟨#[b]⟩ : ByteArray).toList == l) = ([b] == l) := fun l => by rw [show (⟨#[b]⟩ : ByteArray).toList = [b] from ByteArray.toList_mk [b]]
  simp only [opdB, e]
  rcases h with rfl | rfl <;> simp
theorem Bal.wrap {p : List ByteArray} {l r : ByteArray} (hp : Bal p) (hl : dch l = 1) (hr : dch r = -1) (ho : opdB r = true) : Bal (l :: (p ++ [r])) := by
  refine ⟨by simp, ?_, fun i hi => ?_, ?_⟩
  · rw [show (l :: (p ++ [r])).length = p.length + 2 by simp, depth_wrap_end, hp.zero, hl, hr]; rfl
  · cases i with
    | zero => simp [depth]
    | succ j =>
      by_cases h : j ≤ p.length
      · rw [depth_wrap l r p j h, hl]
        have := hp.nn j h
        omega
      · have : j + 1 = p.length + 2 := by simp at hi; omega
        rw [this, depth_wrap_end, hp.zero, hl, hr]; decide
  · rw [show (l :: (p ++ [r])).length - 1 = p.length + 1 by simp, at_cons, show p.length = p.length + 0 from rfl, at_app_r]
    exact ho
theorem Bal.one {x : ByteArray} (h : opdB x = true) (h0 : dch x = 0) : Bal [x] := by
  refine ⟨by simp, by rw [List.length_singleton, depth_one, h0], fun i hi => ?_, h⟩
  match i with
  | 0 => simp [depth]
  | 1 => rw [depth_one, h0]; decide
  | i + 2 => simp at hi
theorem dch_word {x : ByteArray} (h : nameB x = true ∨ numberB x = true) : dch x = 0 := by
  have hb : letterB (Rt.byteAt x 0) = true ∨ digitB (Rt.byteAt x 0) = true := by
    rcases h with h | h
    · simp [nameB] at h; exact Or.inl h.1.2
    · simp [numberB] at h; exact Or.inr h.2
  have e : ∀ b : UInt8, b ∈ [40, 41, 91, 93] → ¬ x = ⟨#[b]⟩ := by
    rintro b hm rfl
    rw [Rt.byteAt_lt (by show 0 < 1; decide)] at hb
    change letterB (b.toNat : Int) = true ∨ digitB (b.toNat : Int) = true at hb
    simp at hm
    rcases hm with rfl | rfl | rfl | rfl <;> simp [letterB, digitB] at hb
  have e1 := e 40 (by decide)
  have e2 := e 41 (by decide)
  have e3 := e 91 (by decide)
  have e4 := e 93 (by decide)
  simp [dch, Rt.str_lit, e1, e2, e3, e4]
theorem opd_word {x : ByteArray} (h : nameB x = true ∨ numberB x = true) : opdB x = true := by
  rcases h with h | h <;> simp [opdB, h]
theorem bal_word {x : ByteArray} (h : nameB x = true ∨ numberB x = true) : Bal [x] := Bal.one (opd_word h) (dch_word h)
theorem Bal.cel {p : List ByteArray} {x : ByteArray} (hp : Bal p) (hx : nameB x = true) : Bal (x :: lbrW :: (p ++ [rbrW])) := by
  have hw : Bal (lbrW :: (p ++ [rbrW])) := hp.wrap (by rw [lbrW, dch_of]; decide) (by rw [rbrW, dch_of]; decide) (opd_close _ (Or.inr rfl))
  have h0 := dch_word (Or.inl hx)
  have h1 := hw.ne
  refine ⟨by simp, ?_, fun i hi => ?_, ?_⟩
  · rw [List.length_cons, depth_cons, h0, hw.zero]; rfl
  · cases i with
    | zero => simp [depth]
    | succ j =>
      rw [depth_cons, h0]
      have := hw.nn j (by simpa using hi)
      omega
  · rw [List.length_cons, show (lbrW :: (p ++ [rbrW])).length + 1 - 1 = ((lbrW :: (p ++ [rbrW])).length - 1) + 1 by omega, at_cons]
    exact hw.fin
theorem is_bal {k : Nat} {p : List ByteArray} (h : Is k p) : Bal p := by
  induction h with
  | num x h => exact bal_word (Or.inr h)
  | nam x h => exact bal_word (Or.inl h)
  | neg p _ ih => exact ih.neg
  | par p _ ih => exact ih.wrap (by rw [lparW, dch_of]; decide) (by rw [rparW, dch_of]; decide) (opd_close _ (Or.inl rfl))
  | cel x p hx _ ih => exact ih.cel hx
  | t1 p _ ih => exact ih
  | t2 p o q _ ho _ ih1 ih2 => exact ih1.app ih2 (div_sgn ho)
  | s1 p _ ih => exact ih
  | s2 p o q _ ho _ ih1 ih2 => exact ih1.app ih2 (add_sgn ho)
  | e1 p _ ih => exact ih
  | e2 p o q _ ho _ ih1 ih2 => exact ih1.app ih2 (cmp_sgn ho)
def cond (sg t : List ByteArray) (i : Nat) : Prop := inB sg (at' t i) = true ∧ depth t (i + 1) = 0 ∧ 0 < i ∧ opdB (at' t (i - 1)) = true
theorem lastTo_none {sg t : List ByteArray} : ∀ n, (∀ i, i < n → ¬ cond sg t i) → lastTo sg t n = -1
  | 0, _ => rfl
  | n + 1, h => by
    have hn := h n (by omega)
    unfold cond at hn
    rw [lastTo, if_neg hn]
    exact lastTo_none n (fun i hi => h i (by omega))
theorem lastTo_some {sg t : List ByteArray} {k : Nat} (hk : cond sg t k) : ∀ n, k < n → (∀ i, k < i → i < n → ¬ cond sg t i) → lastTo sg t n = k
  | 0, h, _ => by omega
  | n + 1, h, h' => by
    by_cases e : k = n
    · subst e; unfold cond at hk; rw [lastTo, if_pos hk]
    · have hn := h' n (by omega) (by omega)
      unfold cond at hn
      rw [lastTo, if_neg hn]
      exact lastTo_some hk n (by omega) (fun i h1 h2 => h' i h1 (by omega))
def Free (sg p : List ByteArray) : Prop := ∀ i, i < p.length → ¬ cond sg p i
theorem Free.last {sg p : List ByteArray} (h : Free sg p) : last sg p = -1 := lastTo_none _ h
theorem cond_left {sg p q : List ByteArray} {o : ByteArray} {i : Nat} (hi : i < p.length) : cond sg (p ++ o :: q) i ↔ cond sg p i := by
  unfold cond
  rw [at_app_l hi, depth_app_l p _ (i + 1) (by omega), at_app_l (by omega)]
theorem cond_right {sg p q : List ByteArray} {o : ByteArray} {j : Nat} (hp : depth p p.length = 0) (ho : Sgn o) : cond sg (p ++ o :: q) (p.length + (j + 1)) ↔ cond sg q j := by
  unfold cond
  rw [at_app_r, at_cons, show p.length + (j + 1) + 1 = p.length + ((j + 1) + 1) by omega, depth_app_r, depth_cons, hp, ho.dch, show p.length + (j + 1) - 1 = p.length + j by omega, at_app_r]
  cases j with
  | zero => rw [at_zero, ho.opd]; simp
  | succ j => rw [at_cons]; simp; omega
theorem free_app {sg p q : List ByteArray} {o : ByteArray} (hp : Bal p) (ho : Sgn o) (h : inB sg o = false) (h1 : Free sg p) (h2 : Free sg q) : Free sg (p ++ o :: q) := by
  intro i hi
  by_cases hl : i < p.length
  · rw [cond_left hl]; exact h1 i hl
  · by_cases he : i = p.length
    · subst he
      rintro ⟨h', _⟩
      rw [show p.length = p.length + 0 from rfl, at_app_r, at_zero, h] at h'
      cases h'
    · obtain ⟨j, rfl⟩ : ∃ j, i = p.length + (j + 1) := ⟨i - p.length - 1, by omega⟩
      rw [cond_right hp.zero ho]
      exact h2 j (by simp at hi; omega)
theorem last_app {sg p q : List ByteArray} {o : ByteArray} (hp : Bal p) (ho : Sgn o) (h : inB sg o = true) (h2 : Free sg q) : last sg (p ++ o :: q) = p.length := by
  refine lastTo_some ?_ _ (by simp) (fun i h3 h4 => ?_)
  · refine ⟨?_, ?_, hp.ne, ?_⟩
    · rw [show p.length = p.length + 0 from rfl, at_app_r, at_zero]; exact h
    · rw [depth_app_r p _ 1, hp.zero, show (1 : Nat) = 0 + 1 from rfl, depth_cons, ho.dch]; rfl
    · have := hp.ne
      rw [at_app_l (by omega)]; exact hp.fin
  · obtain ⟨j, rfl⟩ : ∃ j, i = p.length + (j + 1) := ⟨i - p.length - 1, by omega⟩
    rw [cond_right hp.zero ho]
    exact h2 j (by simp at h4; omega)
theorem free_neg {sg p : List ByteArray} (h : Free sg p) : Free sg (minusW :: p) := by
  intro i hi
  have hs : Sgn minusW := sgn_one 45 (by decide)
  rintro ⟨c1, c2, c3, c4⟩
  obtain ⟨j, rfl⟩ : ∃ j, i = j + 1 := ⟨i - 1, by omega⟩
  rw [at_cons] at c1
  rw [depth_cons, hs.dch] at c2
  rw [Nat.add_sub_cancel] at c4
  cases j with
  | zero => rw [at_zero, hs.opd] at c4; cases c4
  | succ j =>
    rw [at_cons] at c4
    exact h (j + 1) (by simpa using hi) ⟨c1, by omega, by omega, c4⟩
theorem free_wrap {sg p : List ByteArray} {l r : ByteArray} (hp : Bal p) (hl : dch l = 1) (hr : inB sg r = false) : Free sg (l :: (p ++ [r])) := by
  intro i hi
  rintro ⟨c1, c2, c3, c4⟩
  obtain ⟨j, rfl⟩ : ∃ j, i = j + 1 := ⟨i - 1, by omega⟩
  by_cases hj : j < p.length
  · rw [depth_wrap l r p (j + 1) (by omega), hl] at c2
    have := hp.nn (j + 1) (by omega)
    omega
  · have : j = p.length := by simp at hi; omega
    subst this
    rw [at_cons, show p.length = p.length + 0 from rfl, at_app_r, at_one, hr] at c1
    cases c1
theorem free_cel {sg p : List ByteArray} {x l r : ByteArray} (hp : Bal p) (hx : dch x = 0) (hl : dch l = 1) (hl' : inB sg l = false) (hr : inB sg r = false) : Free sg (x :: l :: (p ++ [r])) := by
  intro i hi
  rintro ⟨c1, c2, c3, c4⟩
  obtain ⟨j, rfl⟩ : ∃ j, i = j + 1 := ⟨i - 1, by omega⟩
  rw [at_cons] at c1
  rw [depth_cons, hx] at c2
  cases j with
  | zero => rw [at_zero, hl'] at c1; cases c1
  | succ j =>
    by_cases hj : j < p.length
    · rw [depth_wrap l r p (j + 1) (by omega), hl] at c2
      have := hp.nn (j + 1) (by omega)
      omega
    · have : j = p.length := by simp at hi; omega
      subst this
      rw [at_cons, show p.length = p.length + 0 from rfl, at_app_r, at_one, hr] at c1
      cases c1
theorem free_one {sg : List ByteArray} (x : ByteArray) : Free sg [x] := by
  intro i hi
  rintro ⟨_, _, c3, _⟩
  simp at hi; omega
theorem in_three (sg : List ByteArray) (h : sg = divW ∨ sg = addW ∨ sg = cmpW) : inB sg rparW = false ∧ inB sg rbrW = false ∧ inB sg lbrW = false := by
  rcases h with rfl | rfl | rfl <;> simp [inB, divW, addW, cmpW, rparW, rbrW, lbrW]
theorem free_factor {k : Nat} {p : List ByteArray} (h : Is k p) (sg : List ByteArray) (hs : sg = divW ∨ sg = addW ∨ sg = cmpW) : k = 3 → Free sg p := by
  obtain ⟨s1, s2, s3⟩ := in_three sg hs
  induction h with
  | num x h => intro _; exact free_one x
  | nam x h => intro _; exact free_one x
  | neg p _ ih => intro _; exact free_neg (ih rfl)
  | par p hp _ => intro _; exact free_wrap (is_bal hp) (by rw [lparW, dch_of]; decide) s1
  | cel x p hx hp _ => intro _; exact free_cel (is_bal hp) (dch_word (Or.inl hx)) (by rw [lbrW, dch_of]; decide) s3 s2
  | _ => intro h; omega
theorem no_add_div {o : ByteArray} (h : inB divW o = true) : inB addW o = false ∧ inB cmpW o = false := by
  rcases div_cases h with rfl | rfl | rfl <;> simp [inB, addW, cmpW]
theorem no_add_cmp {o : ByteArray} (h : inB addW o = true) : inB cmpW o = false := by
  rcases add_cases h with rfl | rfl <;> simp [inB, cmpW]
theorem free_term {k : Nat} {p : List ByteArray} (h : Is k p) (sg : List ByteArray) (hs : sg = addW ∨ sg = cmpW) : k = 2 → Free sg p := by
  induction h with
  | t1 p hp _ => intro _; exact free_factor hp sg (Or.inr hs) rfl
  | t2 p o q hp ho hq ih1 _ => intro _; exact free_app (is_bal hp) (div_sgn ho) (by rcases hs with rfl | rfl; exact (no_add_div ho).1; exact (no_add_div ho).2) (ih1 rfl) (free_factor hq sg (Or.inr hs) rfl)
  | _ => intro h; omega
theorem free_sum {k : Nat} {p : List ByteArray} (h : Is k p) : k = 1 → Free cmpW p := by
  induction h with
  | s1 p hp _ => intro _; exact free_term hp cmpW (Or.inr rfl) rfl
  | s2 p o q hp ho hq ih1 _ => intro _; exact free_app (is_bal hp) (add_sgn ho) (no_add_cmp ho) (ih1 rfl) (free_term hq cmpW (Or.inr rfl) rfl)
  | _ => intro h; omega
end Rf
end Go.Proofs.YthleadfkfnnadaaGreat
