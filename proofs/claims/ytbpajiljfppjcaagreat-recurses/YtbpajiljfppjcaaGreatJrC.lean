/- The journal: a step joins. -/
import Derived.Test.YtbpajiljfppjcaaGreatJrA
namespace Go.Proofs.YtbpajiljfppjcaaGreat
open Go.RowKit
attribute [local go_sem ↓] Go.wp_at_zero Go.wp_at_succ

/-- All blocks stay but the journal's and its row's. -/
structure JFr (P : Nat) (jv : Value) (w w' : World) : Prop where
  os : w'.os = w.os
  tape : w'.tape = w.tape
  output : w'.output = w.output
  size : w.heap.size ≤ w'.heap.size
  block : ∀ k, k < w.heap.size → k ≠ P → jv.ownBlock ≠ some k → w'.heap[k]? = w.heap[k]?
theorem JFr.refl (P : Nat) (jv : Value) (w : World) : JFr P jv w w := ⟨rfl, rfl, rfl, Nat.le_refl _, fun _ _ _ _ => rfl⟩
theorem JFr.of_below {P : Nat} (jv : Value) {w w' : World} (h : Below w.heap.size w w') : JFr P jv w w' := ⟨h.os, h.tape, h.output, h.size, fun k hk _ _ => h.block k hk⟩
theorem JFr.trans {P : Nat} {jv jv' : Value} {w w1 w2 : World} (h : JFr P jv w w1) (h2 : JFr P jv' w1 w2) (hg : ∀ g, jv'.ownBlock = some g → jv.ownBlock = some g ∨ w.heap.size ≤ g) : JFr P jv w w2 :=
  ⟨h2.os.trans h.os, h2.tape.trans h.tape, h2.output.trans h.output, Nat.le_trans h.size h2.size, fun k hk hp hv => (h2.block k (Nat.lt_of_lt_of_le hk h.size) hp (fun e => by rcases hg k e with e | e; exact hv e; omega)).trans (h.block k hk hp hv)⟩
/-- Fewer of a row's elements. -/
theorem own_cut {w : World} {B g n n' cap size : Nat} {t : TypeId} {a b : List Value} (h : w.ownsRow B t size (.slice (some ⟨g, 0, none⟩) n cap) n (a ++ b)) (hn : n' ≤ n) (ha : a.length = n' * size) : w.ownsRow B t size (.slice (some ⟨g, 0, none⟩) n' cap) n' a := by
  obtain ⟨_, h2⟩ := h
  rcases h2 with ⟨h0, _⟩ | ⟨g', cap', cur, hv, hg, hh, hc, hm, hs, ht⟩
  · cases h0
  · cases hv
    refine ⟨ha, .inr ⟨g, cap, cur, rfl, hg, hh, by omega, hm, hs, ?_⟩⟩
    have := congrArg (List.take (n' * size)) ht
    rw [List.take_take, List.take_left' ha, Nat.min_eq_left (Nat.mul_le_mul_right _ hn)] at this
    exact this
/-- The records, so many of them moved up by c. -/
def shifted (rs : List Rt.Rec) (c k : Nat) : List Rt.Rec := (rs.drop c).take k ++ rs.drop k
theorem shifted_len {rs : List Rt.Rec} {c k : Nat} (h : c + k ≤ rs.length) : (shifted rs c k).length = rs.length := by
  unfold shifted
  simp
  omega
theorem shifted_at {rs : List Rt.Rec} {c k : Nat} (h : c + k < rs.length) : (shifted rs c k)[c + k]? = some rs[c + k] := by
  unfold shifted
  have hl : ((rs.drop c).take k).length = k := by simp; omega
  rw [List.getElem?_append_right (by omega), hl, List.getElem?_drop, show k + (c + k - k) = c + k by omega, List.getElem?_eq_getElem h]
theorem shifted_next {rs : List Rt.Rec} {c k : Nat} (h : c + k < rs.length) : (shifted rs c k).set k rs[c + k] = shifted rs c (k + 1) := by
  unfold shifted
  have hl : ((rs.drop c).take k).length = k := by simp; omega
  rw [List.set_append_right _ _ (by omega), hl, Nat.sub_self, List.drop_eq_getElem_cons (show k < rs.length by omega), List.set_cons_zero, List.take_add_one, List.getElem?_drop, List.getElem?_eq_getElem h]
  simp
theorem recsCells_set (rs : List Rt.Rec) (i : Nat) (h : i < rs.length) (r : Rt.Rec) : recsCells (rs.set i r) = (((((recsCells rs).set (i * 5) (.int .i64 r.kind)).set (i * 5 + 1) (.int .i64 r.line)).set (i * 5 + 2) (.int .i64 r.at_.line)).set (i * 5 + 3) (.int .i64 r.at_.cell)).set (i * 5 + 4) (.int .i64 r.value) := by
  have hl : (recsCells (rs.take i)).length = i * 5 := by rw [recsCells_len, List.length_take, Nat.min_eq_left (by omega)]
  have e1 : rs.set i r = rs.take i ++ r :: rs.drop (i + 1) := List.set_eq_take_append_cons_drop.trans (by rw [if_pos h])
  have e2 : recsCells rs = recsCells (rs.take i) ++ (Rt.recCells rs[i] ++ recsCells (rs.drop (i + 1))) := by
    conv => lhs; rw [← List.take_append_drop i rs, recsCells_app, List.drop_eq_getElem_cons h]
    rfl
  rw [e1, recsCells_app, e2]
  rw [List.set_append_right _ _ (by omega), List.set_append_right _ _ (by omega), List.set_append_right _ _ (by omega), List.set_append_right _ _ (by omega), List.set_append_right _ _ (by omega), hl]
  have a0 : i * 5 - i * 5 = 0 := by omega
  have a1 : i * 5 + 1 - i * 5 = 1 := by omega
  have a2 : i * 5 + 2 - i * 5 = 2 := by omega
  have a3 : i * 5 + 3 - i * 5 = 3 := by omega
  have a4 : i * 5 + 4 - i * 5 = 4 := by omega
  rw [a0, a1, a2, a3, a4]
  rfl
abbrev WR5 (w : World) (g k : Nat) (a b c d e : Value) : World := ((((w.setCell ⟨g, k, none⟩ a).setCell ⟨g, k + 1, none⟩ b).setCell ⟨g, k + 2, none⟩ c).setCell ⟨g, k + 3, none⟩ d).setCell ⟨g, k + 4, none⟩ e
/-- A record is stored in a row. -/
theorem rec_stored {w : World} {B g n cap : Nat} {rs : List Rt.Rec} (h : w.ownsRow B 87 5 (.slice (some ⟨g, 0, none⟩) n cap) n (recsCells rs)) (i : Nat) (hi : i < rs.length) (r : Rt.Rec) :
    (WR5 w g (i * 5) (.int .i64 r.kind) (.int .i64 r.line) (.int .i64 r.at_.line) (.int .i64 r.at_.cell) (.int .i64 r.value)).ownsRow B 87 5 (.slice (some ⟨g, 0, none⟩) n cap) n (recsCells (rs.set i r)) := by
  rw [recsCells_set rs i hi r]
  exact (((((h.stored _ _).1.stored _ _).1.stored _ _).1.stored _ _).1.stored _ _).1
theorem WR5_other (w : World) (g k : Nat) (a b c d e : Value) (q : Nat) (hq : q ≠ g) : (WR5 w g k a b c d e).heap[q]? = w.heap[q]? := by
  simp only [WR5]
  repeat rw [Below.heap_setCell _ _ _ _ hq]
theorem WR5_cell {w : World} {g k : Nat} {a b c d e : Value} {q : Addr} {v : Value} (h : w.cell? q = some v) (hq : q.block ≠ g ∨ k + 5 ≤ q.off) : (WR5 w g k a b c d e).cell? q = some v := by
  have ne : ∀ j, j < 5 → q ≠ ⟨g, k + j, none⟩ := fun j hj e => by
    rw [e] at hq
    rcases hq with hq | hq
    · exact hq rfl
    · simp at hq; omega
  simp only [WR5]
  rw [World.cell?_setCell_other _ _ _ _ (Ne.symm (ne 4 (by omega))), World.cell?_setCell_other _ _ _ _ (Ne.symm (ne 3 (by omega))), World.cell?_setCell_other _ _ _ _ (Ne.symm (ne 2 (by omega))), World.cell?_setCell_other _ _ _ _ (Ne.symm (ne 1 (by omega))), World.cell?_setCell_other _ _ _ _ (Ne.symm (ne 0 (by omega)) : (⟨g, k, none⟩ : Addr) ≠ q)]
  exact h
theorem drew_cell (w : World) (a : Addr) : w.drew.cell? a = w.cell? a := rfl
theorem WR5_drew {w : World} {g k : Nat} {a b c d e : Value} {q : Addr} {v : Value} (h : w.cell? q = some v) (hq : q.block ≠ g ∨ k + 5 ≤ q.off) : (WR5 w g k a b c d e).drew.cell? q = some v := (drew_cell _ _).trans (WR5_cell h hq)
theorem WR5_size (w : World) (g k : Nat) (a b c d e : Value) : (WR5 w g k a b c d e).heap.size = w.heap.size := by simp [WR5, World.setCell]
theorem JFr.put {P : Nat} {w : World} {g n c : Nat} (i : Nat) (v : Value) : JFr P (.slice (some ⟨g, 0, none⟩) n c) w (w.setCell ⟨g, i, none⟩ v) := ⟨rfl, rfl, rfl, by simp [World.setCell], fun k _ _ hv => Below.heap_setCell w ⟨g, i, none⟩ v k (fun e => hv (by rw [show k = g from e]; rfl))⟩
theorem JFr.WR5 {P : Nat} {w : World} {g n c k : Nat} {a b x d e : Value} : JFr P (.slice (some ⟨g, 0, none⟩) n c) w (WR5 w g k a b x d e) :=
  ((((JFr.put k a).trans (JFr.put (k + 1) b) (fun _ h => Or.inl h)).trans (JFr.put (k + 2) x) (fun _ h => Or.inl h)).trans (JFr.put (k + 3) d) (fun _ h => Or.inl h)).trans (JFr.put (k + 4) e) (fun _ h => Or.inl h)
theorem shift_jr {w wr : World} {P : Nat} {ty : TypeId} {cs : Array Value} {cap low : Int} {l l' : List Rt.Rec} {g N jcap q : Nat} {a b c d e : Value} (hj : JrS wr P ty cs cap l low (.slice (some ⟨g, 0, none⟩) N jcap)) (hfr : JFr P (.slice (some ⟨g, 0, none⟩) N jcap) w wr) (hst : (WR5 wr g q a b c d e).ownsRow 0 87 5 (.slice (some ⟨g, 0, none⟩) N jcap) N (recsCells l')) (hl : l'.length = N) :
    JrS (WR5 wr g q a b c d e).drew P ty cs cap l' low (.slice (some ⟨g, 0, none⟩) N jcap) ∧ JFr P (.slice (some ⟨g, 0, none⟩) N jcap) w (WR5 wr g q a b c d e).drew := by
  have hgP : P ≠ g := fun e => hj.ne (by rw [e]; rfl)
  have h1 : JrS (WR5 wr g q a b c d e) P ty cs cap l' low (.slice (some ⟨g, 0, none⟩) N jcap) := ⟨by rw [WR5_other _ _ _ _ _ _ _ _ _ hgP]; exact hj.block, hj.c8, hj.c9, hj.c10, by rw [hl]; exact hst, hj.ty⟩
  have h2 : JFr P (.slice (some ⟨g, 0, none⟩) N jcap) wr (Go.Proofs.YtbpajiljfppjcaaGreat.WR5 wr g q a b c d e) := JFr.WR5
  revert h1 h2
  generalize WR5 wr g q a b c d e = wq
  intro h1 h2
  exact ⟨h1.later (below_to_drew _), (hfr.trans h2 (fun _ h => Or.inl h)).trans (JFr.of_below _ (below_to_drew _)) (fun _ h => Or.inl h)⟩
/-- The journal's row and its low are stored. -/
theorem JrS.two {w : World} {P : Nat} {ty : TypeId} {cs : Array Value} {cap low low' : Int} {rs rs' : List Rt.Rec} {jv jv' : Value} (h : JrS w P ty cs cap rs low jv) (hown : w.ownsRow 0 87 5 jv' rs'.length (recsCells rs')) :
    JrS ((w.setCell ⟨P, 9, none⟩ jv').setCell ⟨P, 10, none⟩ (.int .i64 low')) P ty ((cs.setIfInBounds 9 jv').setIfInBounds 10 (.int .i64 low')) cap rs' low' jv' ∧ JFr P jv w ((w.setCell ⟨P, 9, none⟩ jv').setCell ⟨P, 10, none⟩ (.int .i64 low')) := by
  have hsz : 10 < cs.size := by
    have := h.c10
    exact (Array.getElem?_eq_some_iff.mp this).1
  have hne : ∀ g, jv'.ownBlock = some g → g ≠ P := fun g hg e => by
    obtain ⟨c, hc⟩ := own_blk hown hg
    rw [e, h.block] at hc
    injection hc with hc
    injection hc with _ hc
    exact h.ty hc
  refine ⟨⟨set_block (set_block h.block 9 jv') 10 (.int .i64 low'), ?_, ?_, ?_, ?_, h.ty⟩, ?_⟩
  · rw [Array.getElem?_setIfInBounds_ne (by omega), Array.getElem?_setIfInBounds_ne (by omega)]; exact h.c8
  · rw [Array.getElem?_setIfInBounds_ne (by omega), Array.getElem?_setIfInBounds_self_of_lt (by omega)]
  · rw [Array.getElem?_setIfInBounds_self_of_lt (by simp; omega)]
  · exact own_same hown (fun g hg => by rw [Below.heap_setCell _ _ _ _ (hne g hg), Below.heap_setCell _ _ _ _ (hne g hg)])
  · exact ⟨rfl, rfl, rfl, by simp [World.setCell], fun k _ hp _ => by rw [Below.heap_setCell _ _ _ _ hp, Below.heap_setCell _ _ _ _ hp]⟩
set_option maxHeartbeats 1000000 in
set_option maxRecDepth 100000 in
theorem letGo_any (w : World) (P : Nat) (ty : TypeId) (cs : Array Value) (cap : Int) (rs : List Rt.Rec) (low : Int) (jv : Value) (h : JrS w P ty cs cap rs low jv) (hl : rs.length ≤ 1000) (h0 : 0 < rs.length) :
    Calls Tryz.prog 40 #[.pointer (some ⟨P, 8, none⟩)] w fun e w' => e = .returned (.tuple #[]) ∧ ∃ jv', JrS w' P ty ((cs.setIfInBounds 9 jv').setIfInBounds 10 (.int .i64 (wrap64 (low + 1)))) cap (rs.drop (Rt.earliest rs)) (wrap64 (low + 1)) jv' ∧ JFr P jv w w' ∧ jv'.ownBlock = jv.ownBlock := by
  have hcp := Rt.earliest_pos h0
  have hcl := Rt.earliest_le rs
  obtain ⟨g, jcap, rfl⟩ : ∃ g jcap, jv = .slice (some ⟨g, 0, none⟩) rs.length jcap := by
    rcases h.own.2 with ⟨e, e2⟩ | ⟨g, jcap, cur, e, _⟩
    · omega
    · exact ⟨g, jcap, e⟩
  have HH := hide h
  go_enter Tryz.func40, Tryz.ntmps40
  go_wp2_with fail
  refine (earliest_any w P ty cs cap rs low _ h hl).mono ?_
  rintro e w1 ⟨rfl, hb1⟩
  generalize hc : Rt.earliest rs = c at *
  have HC := hide hc
  have HB1 := hide hb1
  clear h hb1 hc
  go_wp2_with fail
  go_loopw [3] (fun i wr => ∃ n k : Nat, c + k = n ∧ n ≤ rs.length ∧ i = .int .i64 (n : Int) ∧ JrS wr P ty cs cap (shifted rs c k) low (.slice (some ⟨g, 0, none⟩) rs.length jcap) ∧ JFr P (.slice (some ⟨g, 0, none⟩) rs.length jcap) w wr) (fun i _ => rs.length - (intOf i).toNat)
  case atStart => exact ⟨c, 0, rfl, by omega, rfl, by have := (unhide HH).later (unhide HB1); simpa [shifted] using this, JFr.of_below _ (unhide HB1)⟩
  case round =>
    obtain ⟨n, k, hn, hk, rfl, hj, hfr⟩ := hrel
    have k9 := hj.k9
    have hsl : (shifted rs c k).length = rs.length := shifted_len (by omega)
    by_cases hlt : n < rs.length
    · have hgP : ¬ g = P := fun e => hj.ne (by rw [e]; rfl)
      have hown := hj.own
      rw [hsl] at hown
      obtain ⟨r0, r1, r2, r3, r4⟩ := rec_at hown n (by omega)
      have hget : (shifted rs c k)[n]'(by omega) = rs[n] := by
        have := shifted_at (rs := rs) (c := c) (k := k) (by omega)
        simp only [hn] at this
        rw [List.getElem?_eq_getElem (by omega)] at this
        injection this
      rw [hget] at r0 r1 r2 r3 r4
      have HN := hide hn
      have i1 : (n : Int) < (rs.length : Int) := by omega
      have i2 : (0 : Int) ≤ (n : Int) := by omega
      have i6 : k + 1 ≤ n := by omega
      have i3 : (0 : Int) ≤ (k : Int) := by omega
      have i4 : (k : Int) < (rs.length : Int) := by omega
      have i5 : IntKind.i64.wrap ((n : Int) - (c : Int)) = (k : Int) := by rw [IntWalk.i64_left, IntWalk.wrap64_in _ (by omega)]; omega
      have hst := rec_stored hown k (by omega) rs[n]
      have hnx := shifted_next (rs := rs) (c := c) (k := k) (by omega)
      simp only [hn] at hnx
      rw [hnx] at hst
      have HX := hide (And.intro hj (And.intro hfr hst))
      obtain ⟨t0, t1, t2, t3, t4⟩ := rec_at hown k (by omega)
      have z0 := hown.frozenAt (k * 5)
      have z1 := hown.frozenAt (k * 5 + 1)
      have z2 := hown.frozenAt (k * 5 + 2)
      have z3 := hown.frozenAt (k * 5 + 3)
      have z4 := hown.frozenAt (k * 5 + 4)
      have hglt := (hown.lt g rfl).2
      clear hj hfr hown hst hget hnx hn
      generalize rs[n] = r at *
      have HK := hide (And.intro k9 (And.intro r0 (And.intro r1 (And.intro r2 (And.intro r3 r4)))))
      go_wp2_with fail
      go_region_held3 (fun w' => w'.cell? ⟨P, 9, none⟩ = some (.slice (some ⟨g, 0, none⟩) rs.length jcap) ∧ w'.cell? ⟨g, n * 5, none⟩ = some (.int .i64 r.kind) ∧ w'.cell? ⟨g, n * 5 + 1, none⟩ = some (.int .i64 r.line) ∧ w'.cell? ⟨g, n * 5 + 2, none⟩ = some (.int .i64 r.at_.line) ∧ w'.cell? ⟨g, n * 5 + 3, none⟩ = some (.int .i64 r.at_.cell) ∧ w'.cell? ⟨g, n * 5 + 4, none⟩ = some (.int .i64 r.value))
        (first | (go_keep; done) | exact ⟨WR5_drew (unhide HK).1 (Or.inl (Ne.symm hgP)), WR5_drew (unhide HK).2.1 (Or.inr (show k * 5 + 5 ≤ n * 5 by omega)), WR5_drew (unhide HK).2.2.1 (Or.inr (show k * 5 + 5 ≤ n * 5 + 1 by omega)), WR5_drew (unhide HK).2.2.2.1 (Or.inr (show k * 5 + 5 ≤ n * 5 + 2 by omega)), WR5_drew (unhide HK).2.2.2.2.1 (Or.inr (show k * 5 + 5 ≤ n * 5 + 3 by omega)), WR5_drew (unhide HK).2.2.2.2.2 (Or.inr (show k * 5 + 5 ≤ n * 5 + 4 by omega))⟩) (fail)
      go_wp2_with fail
      obtain ⟨q1, q2, q3⟩ := unhide HX
      obtain ⟨p1, p2⟩ := shift_jr q1 q2 q3 (shifted_len (by have := unhide HN; omega))
      exact ⟨⟨n + 1, k + 1, by have := unhide HN; omega, by omega, by go_num, p1, p2⟩, by simp [intOf]; omega⟩
    · have hkn : k = rs.length - c := by omega
      have hne : n = rs.length := by omega
      subst hne
      have i1 : ¬ (rs.length : Int) < (rs.length : Int) := by omega
      have hrow := hj.own
      rw [hsl] at hrow
      have hsh : shifted rs c k = rs.drop c ++ rs.drop k := by unfold shifted; rw [List.take_of_length_le (by simp; omega)]
      rw [hsh, recsCells_app] at hrow
      have hpop : wr.ownsRow 0 87 5 (.slice (some ⟨g, 0, none⟩) (rs.length - c) jcap) (rs.length - c) (recsCells (rs.drop c)) := own_cut hrow (by omega) (by rw [recsCells_len, List.length_drop])
      have k10 := hj.k10
      have f9 := hj.fz 9
      have f10 := hj.fz 10
      have hcap : rs.length ≤ jcap := by
        rcases hrow.2 with ⟨e, _⟩ | ⟨g', jc', cur, e, _, _, e3, _⟩
        · cases e
        · simp at e; omega
      have hpop2 : wr.ownsRow 0 87 5 (.slice (some ⟨g, 0, none⟩) (rs.length - c) jcap) (rs.drop c).length (recsCells (rs.drop c)) := by rw [List.length_drop]; exact hpop
      obtain ⟨p1, p2⟩ := hj.two (low' := wrap64 (low + 1)) hpop2
      have hq : ∀ wq, JrS wq P ty ((cs.setIfInBounds 9 (.slice (some ⟨g, 0, none⟩) (rs.length - c) jcap)).setIfInBounds 10 (.int .i64 (wrap64 (low + 1)))) cap (rs.drop c) (wrap64 (low + 1)) (.slice (some ⟨g, 0, none⟩) (rs.length - c) jcap) → JFr P (.slice (some ⟨g, 0, none⟩) rs.length jcap) wr wq → JrS wq.drew P ty ((cs.setIfInBounds 9 (.slice (some ⟨g, 0, none⟩) (rs.length - c) jcap)).setIfInBounds 10 (.int .i64 (wrap64 (low + 1)))) cap (rs.drop (Rt.earliest rs)) (wrap64 (low + 1)) (.slice (some ⟨g, 0, none⟩) (rs.length - c) jcap) ∧ JFr P (.slice (some ⟨g, 0, none⟩) rs.length jcap) w wq.drew := fun wq a b => ⟨by rw [unhide HC]; exact a.later (below_to_drew _), (hfr.trans b (fun _ h => Or.inl h)).trans (JFr.of_below _ (below_to_drew _)) (fun _ h => Or.inl h)⟩
      have HF := hide (hq _ p1 p2)
      clear p1 p2 hq hpop2
      have i2 : IntKind.i64.wrap ((rs.length : Int) - (c : Int)) = ((rs.length - c : Nat) : Int) := by rw [IntWalk.i64_left, IntWalk.wrap64_in _ (by omega)]; omega
      clear hj hfr hrow hpop hsh hn hk hsl
      generalize hd : rs.length - c = d at *
      have i3 : (0 : Int) ≤ (d : Int) := by omega
      have i4 : (d : Int) ≤ (jcap : Int) := by omega
      clear hd
      go_wp2_with fail
      go_region_law (fail)
      all_goals
        go_wp2_with fail
        go_end0
        exact ⟨rfl, _, (unhide HF).1, (unhide HF).2, rfl⟩
end Go.Proofs.YtbpajiljfppjcaaGreat

namespace Go.Proofs.YtbpajiljfppjcaaGreat
open Go.RowKit
attribute [local go_sem ↓] Go.wp_at_zero Go.wp_at_succ

theorem Tryz.infoRecJ : (Tryz.prog.info? 87).map (fun i => (i.zero, i.size, i.bytes)) = some (some (.agg #[.int .i64 0, .int .i64 0, .int .i64 0, .int .i64 0, .int .i64 0]), 5, 40) := by kernel_rfl
theorem set_twice (cs : Array Value) (a b a' b' : Value) : (((cs.setIfInBounds 9 a).setIfInBounds 10 b).setIfInBounds 9 a').setIfInBounds 10 b' = (cs.setIfInBounds 9 a').setIfInBounds 10 b' := by
  rw [Array.setIfInBounds_comm (i := 10) (j := 9) b a' (by omega), Array.setIfInBounds_setIfInBounds, Array.setIfInBounds_setIfInBounds]
theorem set_same {cs : Array Value} {a b : Value} (h : cs[10]? = some b) : (cs.setIfInBounds 9 a).setIfInBounds 10 b = cs.setIfInBounds 9 a := by
  have hlt := (Array.getElem?_eq_some_iff.mp h).1
  apply Array.ext_getElem?
  intro i
  by_cases hi : i = 10
  · subst hi
    rw [Array.getElem?_setIfInBounds_self_of_lt (by simp; omega), Array.getElem?_setIfInBounds_ne (by omega), h]
  · rw [Array.getElem?_setIfInBounds_ne (by omega)]
/-- The journal's row is stored, in a world in which it has grown. -/
theorem JrS.one {w w1 : World} {P : Nat} {ty : TypeId} {cs : Array Value} {cap low : Int} {rs rs' : List Rt.Rec} {jv jv' : Value} (h : JrS w P ty cs cap rs low jv) (hg : w.grownBy w1 jv.ownBlock) (hown : w1.ownsRow 0 87 5 jv' rs'.length (recsCells rs')) :
    JrS (w1.setCell ⟨P, 9, none⟩ jv') P ty (cs.setIfInBounds 9 jv') cap rs' low jv' ∧ JFr P jv w (w1.setCell ⟨P, 9, none⟩ jv') ∧ w1.cell? ⟨P, 9, none⟩ = some jv ∧ w1.frozen? ⟨P, 9, none⟩ = false := by
  have hsz : 10 < cs.size := (Array.getElem?_eq_some_iff.mp h.c10).1
  have hP1 : w1.heap[P]? = some (.cells cs ty (0, 0)) := (hg.block P (block_lt h.block) (Ne.symm h.ne)).trans h.block
  have hne : ∀ g, jv'.ownBlock = some g → g ≠ P := fun g hg e => by
    obtain ⟨c, hc⟩ := own_blk hown hg
    rw [e, hP1] at hc
    injection hc with hc
    injection hc with _ hc
    exact h.ty hc
  refine ⟨⟨set_block hP1 9 jv', ?_, ?_, ?_, ?_, h.ty⟩, ?_, ?_, ?_⟩
  · rw [Array.getElem?_setIfInBounds_ne (by omega)]; exact h.c8
  · rw [Array.getElem?_setIfInBounds_self_of_lt (by omega)]
  · rw [Array.getElem?_setIfInBounds_ne (by omega)]; exact h.c10
  · exact own_same hown (fun g hg => Below.heap_setCell _ _ _ _ (hne g hg))
  · exact ⟨hg.os, hg.tape, hg.output, Nat.le_trans hg.size (by simp [World.setCell]), fun k hk hp hv => by rw [Below.heap_setCell _ _ _ _ hp]; exact hg.block k hk (Ne.symm hv)⟩
  · exact (cell_of_row w1 P 9 cs ty (0, 0) hP1).trans h.c9
  · exact free_of_block hP1 9
/-- How many records the row shows. -/
def jlen (w : World) (P : Nat) : Nat := match w.cell? ⟨P, 9, none⟩ with
  | some (.slice _ n _) => n
  | _ => 0
set_option maxHeartbeats 1000000 in
set_option maxRecDepth 100000 in
theorem join_any (w : World) (P : Nat) (ty : TypeId) (cs : Array Value) (cap : Int) (rs : List Rt.Rec) (low : Int) (jv : Value) (h : JrS w P ty cs cap rs low jv) (B : Nat) (sv : Value) (st : List Rt.Rec) (hs : w.ownsRow B 87 5 sv st.length (recsCells st)) (h0 : 0 < st.length) (hl : rs.length + st.length ≤ 1000) :
    Calls Tryz.prog 25 #[.pointer (some ⟨P, 8, none⟩), sv] w fun e w' => e = .returned (.tuple #[]) ∧ ∃ jv', JrS w' P ty ((cs.setIfInBounds 9 jv').setIfInBounds 10 (.int .i64 (Rt.joinR cap (rs ++ st) low).2)) cap (Rt.joinR cap (rs ++ st) low).1 (Rt.joinR cap (rs ++ st) low).2 jv' ∧ JFr P jv w w' ∧ ∀ g, jv'.ownBlock = some g → jv.ownBlock = some g ∨ w.heap.size ≤ g := by
  obtain ⟨i0, hi0, hz0, hz1, hz2⟩ := info_parts Tryz.infoRecJ
  obtain ⟨g, scap, rfl⟩ : ∃ g scap, sv = .slice (some ⟨g, 0, none⟩) st.length scap := by
    rcases hs.2 with ⟨_, e2⟩ | ⟨g, scap, cur, e, _⟩
    · omega
    · exact ⟨g, scap, e⟩
  have hnews : ∀ j u, (recsCells st)[j]? = some u → w.cell? ((⟨g, 0, none⟩ : Addr).add j) = some u := fun j u hu => by
    obtain ⟨g', c', he, _, _, hc⟩ := own_cell hs hu
    simp at he
    obtain ⟨rfl, rfl⟩ := he
    rw [show (⟨g, 0, none⟩ : Addr).add j = ⟨g, j, none⟩ by unfold Addr.add; split <;> simp_all]
    exact hc
  obtain ⟨jad, jcap, rfl⟩ := ownsRow_form h.own
  have k9 := h.k9
  have hown := h.own
  have HH := hide (And.intro h hnews)
  have hone : ∀ u ∈ recsCells st, u.oneCell' = true := fun u hu => by
    obtain ⟨r, _, hr⟩ := List.mem_flatMap.mp hu
    simp [Rt.recCells] at hr
    rcases hr with rfl | rfl | rfl | rfl | rfl <;> rfl
  have HO := hide hone
  clear h hs hnews hone
  go_enter Tryz.func25, Tryz.ntmps25
  go_wp2_with (at_builtin; refine wpList_append_lies _ rfl _ _ 44 rfl 0 87 i0 _ 5 40 Tryz.underlying44 hi0 hz0 hz1 hz2 rfl (by decide) _ _ _ rfl hown ⟨g, 0, none⟩ st.length scap (recsCells st) rfl (recsCells_len st) (unhide HH).2 (unhide HO) h0 (by unfold maxLen; omega) (by omega) (Nat.zero_le _) w.heap.size rfl ?_)
  intro g1 cap1 w1 hown1 hgrow hat hlt1
  obtain ⟨p1, p2, p3, p4⟩ := (unhide HH).1.one (rs' := rs ++ st) hgrow (by rw [recsCells_app, List.length_append]; exact hown1)
  rw [← set_same (unhide HH).1.c10] at p1
  have HX := hide (And.intro p1 (And.intro p2 (show ∀ g, (Value.slice (some ⟨g1, 0, none⟩) (rs.length + st.length) cap1).ownBlock = some g → (Value.slice jad rs.length jcap).ownBlock = some g ∨ w.heap.size ≤ g from fun q hq => by
    simp [Value.ownBlock] at hq
    subst hq
    rcases hat with e | e
    · exact Or.inl e
    · exact Or.inr (by omega))))
  clear hown hown1 hgrow hat hlt1 p1 p2
  go_wp2_with fail
  go_loopw [] (fun wr => ∃ (rk : List Rt.Rec) (lk : Int) (jk : Value), JrS wr P ty ((cs.setIfInBounds 9 jk).setIfInBounds 10 (.int .i64 lk)) cap rk lk jk ∧ Rt.joinR cap rk lk = Rt.joinR cap (rs ++ st) low ∧ rk.length ≤ 1000 ∧ JFr P (.slice jad rs.length jcap) w wr ∧ ∀ g, jk.ownBlock = some g → (Value.slice jad rs.length jcap).ownBlock = some g ∨ w.heap.size ≤ g) (fun wr => jlen wr P)
  case atStart => exact ⟨_, _, _, (unhide HX).1, rfl, by simp; omega, (unhide HX).2.1, (unhide HX).2.2⟩
  case round =>
    clear p3 p4 k9
    obtain ⟨rk, lk, jk, hj, hjo, hrl, hfr, hat⟩ := hrel
    obtain ⟨kad, kcap, rfl⟩ := ownsRow_form hj.own
    have k9 := hj.k9
    have k8 := hj.k8
    have HM := hide (show jlen wr P = rk.length by unfold jlen; rw [k9])
    by_cases hc : cap < rk.length ∧ 0 < rk.length
    · have hc1 : cap < (rk.length : Int) := hc.1
      have hc2 : (0 : Int) < (rk.length : Int) := by omega
      have HJ := hide ((Rt.joinR_more lk hc).symm.trans hjo)
      have HY := hide (And.intro hj (And.intro hfr hat))
      clear hj hfr hat hjo
      go_wp2_with fail
      go_quiet (fail)
      go_wp2_with fail
      refine (letGo_any _ P ty _ cap rk lk _ ((unhide HY).1.later (below_drewN wr _)) hrl hc.2).mono ?_
      rintro e w2 ⟨rfl, jv2, q1, q2, q3⟩
      rw [set_twice] at q1
      have HZ := hide (And.intro q1 (And.intro ((((unhide HY).2.1.trans (JFr.of_below (jv := .slice kad rk.length kcap) (below_drewN wr _)) (unhide HY).2.2)).trans q2 (unhide HY).2.2) (show ∀ g, jv2.ownBlock = some g → (Value.slice jad rs.length jcap).ownBlock = some g ∨ w.heap.size ≤ g from fun g hg => (unhide HY).2.2 g (by rw [← q3]; exact hg))))
      obtain ⟨ad2, cp2, rfl⟩ := ownsRow_form q1.own
      have k92 := q1.k9
      have HL := hide (show jlen w2 P < jlen wr P by
        rw [unhide HM]
        unfold jlen
        rw [k92]
        have := Rt.earliest_pos hc.2
        simp only [List.length_drop]
        omega)
      clear q1 q2 q3 k92
      go_wp2_with fail
      go_roundw
      case rel => exact ⟨_, _, _, (unhide HZ).1, unhide HJ, by rw [List.length_drop]; omega, (unhide HZ).2.1, (unhide HZ).2.2⟩
      case measure => exact unhide HL
    · have HJ := hide (show Rt.joinR cap (rs ++ st) low = (rk, lk) by rw [← hjo]; exact Rt.joinR_done lk hc)
      have HY := hide (show JrS _ _ _ _ _ _ _ _ ∧ _ ∧ _ from And.intro hj (And.intro hfr hat))
      clear hj hfr hat hjo
      by_cases hc1 : cap < (rk.length : Int)
      · have hc2 : ¬ (0 : Int) < (rk.length : Int) := by omega
        go_wp2_with fail
        go_quiet (fail)
        go_wp2_with fail
        go_end0
        obtain ⟨q1, q2, q3⟩ := unhide HY
        exact ⟨rfl, _, by rw [unhide HJ]; exact q1.later (below_drewN wr _), q2.trans (JFr.of_below (jv := .slice kad rk.length kcap) (below_drewN wr _)) q3, q3⟩
      · have hc3 : decide (cap < (rk.length : Int)) = false := by simpa using hc1
        go_wp2_with fail
        go_quiet (fail)
        go_wp2_with fail
        go_end0
        obtain ⟨q1, q2, q3⟩ := unhide HY
        exact ⟨rfl, _, by rw [unhide HJ]; exact q1.later (below_drewN wr _), q2.trans (JFr.of_below (jv := .slice kad rk.length kcap) (below_drewN wr _)) q3, q3⟩
end Go.Proofs.YtbpajiljfppjcaaGreat

