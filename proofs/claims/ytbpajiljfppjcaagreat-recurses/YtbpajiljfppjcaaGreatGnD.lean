/- How many records a step has: plain. -/
import Derived.Test.YtbpajiljfppjcaaGreatKit0
import Derived.Test.YtbpajiljfppjcaaGreatNwD
import Derived.Test.YtbpajiljfppjcaaGreatGnB
namespace Go.Proofs.YtbpajiljfppjcaaGreat
namespace Rt
theorem lkAt_els (lk : Lks) (o : Nat) (x q : Int) : (lkAt (lk.modify o (fun y => (x, y.2))) q).2 = (lkAt lk q).2 := by
  unfold lkAt
  split
  · rfl
  · rw [List.getElem?_modify]
    cases lk[q.toNat]? with
    | none => rfl
    | some y =>
      simp only [Option.map_eq_map, Option.map_some, Option.getD_some]
      split <;> rfl
theorem lkAt_other (lk : Lks) (o : Nat) (f : Int × Int → Int × Int) (q : Int) (h : q ≠ o) (h0 : 0 ≤ q) : lkAt (lk.modify o f) q = lkAt lk q := by
  unfold lkAt
  rw [if_neg (by omega), if_neg (by omega), List.getElem?_modify]
  cases lk[q.toNat]? with
  | none => rfl
  | some y =>
    simp only [Option.map_eq_map, Option.map_some, Option.getD_some]
    rw [if_neg (by omega)]
theorem lkAt_end (lk : Lks) (o : Nat) (x : Int) (h : o < lk.length) : (lkAt (lk.modify o (fun y => (y.1, x))) (o : Int)).2 = x := by
  unfold lkAt
  rw [if_neg (by omega), List.getElem?_modify, Int.toNat_natCast, List.getElem?_eq_getElem h]
  simp
/-- What is so of the lines that have been placed. -/
structure NInv (n : Nat) (bs : List Blk) (acc : List PL) (lk : Lks) : Prop where
  inc : (bs.map (·.line)).Pairwise (· < ·)
  lt : ∀ x ∈ bs.map (·.line), 1 ≤ x ∧ x < n
  fwd : ∀ (j : Nat) (p : PL), acc[j]? = some p → p.form.kind = 6 → ∃ o : Nat, p.opener = (o : Int) ∧ (o ∈ bs.map (·.line) ∨ (o ∉ bs.map (·.line) ∧ o < n ∧ (j : Int) ≤ (lkAt lk o).2 ∧ (lkAt lk o).2 ≤ n))
theorem last_split {bs : List Blk} (h : bs ≠ []) : bs.map (·.line) = bs.dropLast.map (·.line) ++ [(lastOr bs).line] := by
  have : lastOr bs = bs.getLast h := by
    unfold lastOr
    rw [List.getLastD_eq_getLast?, List.getLast?_eq_some_getLast h]
    rfl
  rw [this]
  conv => lhs; rw [← List.dropLast_concat_getLast h]
  rw [List.map_append]
  rfl
theorem placed_kind (bs : List Blk) (p : PL) : (placed bs p).form.kind = p.form.kind := by rw [(placed_same bs p).2]
theorem NInv.grow {n : Nat} {bs bs' : List Blk} {acc : List PL} {lk lk' : Lks} {q : PL} (h : NInv n bs acc lk) (hn : acc.length = n) (hl : bs'.map (·.line) = bs.map (·.line)) (hk : ∀ o : Nat, (lkAt lk' o).2 = (lkAt lk o).2) (hq : q.form.kind = 6 → ∃ o : Nat, q.opener = (o : Int) ∧ o ∈ bs.map (·.line)) : NInv (n + 1) bs' (acc ++ [q]) lk' := by
  refine ⟨by rw [hl]; exact h.inc, fun x hx => by rw [hl] at hx; have := h.lt x hx; omega, ?_⟩
  intro j p hj hp
  rw [hl]
  by_cases hlt : j < acc.length
  · rw [List.getElem?_append_left hlt] at hj
    obtain ⟨o, e, h1⟩ := h.fwd j p hj hp
    refine ⟨o, e, ?_⟩
    rcases h1 with h1 | ⟨h1, h2, h3, h4⟩
    · exact Or.inl h1
    · exact Or.inr ⟨h1, by omega, by rw [hk]; exact h3, by rw [hk]; omega⟩
  · rw [List.getElem?_append_right (by omega)] at hj
    cases hjj : j - acc.length with
    | zero =>
      rw [hjj] at hj
      simp at hj
      subst hj
      obtain ⟨o, e, h1⟩ := hq hp
      exact ⟨o, e, Or.inl h1⟩
    | succ k => rw [hjj] at hj; simp at hj
theorem NInv.opens {n : Nat} {bs : List Blk} {acc : List PL} {lk : Lks} {q : PL} {b : Blk} (h : NInv n bs acc lk) (hn : acc.length = n) (h0 : 0 < n) (hb : b.line = n) (hq : q.form.kind ≠ 6) : NInv (n + 1) (bs ++ [b]) (acc ++ [q]) lk := by
  have hm : (bs ++ [b]).map (·.line) = bs.map (·.line) ++ [n] := by rw [List.map_append, List.map_cons, List.map_nil, hb]
  refine ⟨?_, ?_, ?_⟩
  · rw [hm, List.pairwise_append]
    exact ⟨h.inc, List.pairwise_singleton _ _, fun x hx y hy => by have := h.lt x hx; rw [List.mem_singleton.mp hy]; exact this.2⟩
  · intro x hx
    rw [hm] at hx
    rcases List.mem_append.mp hx with hx | hx
    · have := h.lt x hx; omega
    · rw [List.mem_singleton.mp hx]; omega
  · intro j p hj hp
    rw [hm]
    by_cases hlt : j < acc.length
    · rw [List.getElem?_append_left hlt] at hj
      obtain ⟨o, e, h1⟩ := h.fwd j p hj hp
      refine ⟨o, e, ?_⟩
      rcases h1 with h1 | ⟨h1, h2, h3, h4⟩
      · exact Or.inl (List.mem_append_left _ h1)
      · refine Or.inr ⟨fun hm => ?_, by omega, h3, by omega⟩
        rcases List.mem_append.mp hm with hm | hm
        · exact h1 hm
        · rw [List.mem_singleton.mp hm] at h2; omega
    · rw [List.getElem?_append_right (by omega)] at hj
      cases hjj : j - acc.length with
      | zero => rw [hjj] at hj; simp at hj; subst hj; exact absurd hp hq
      | succ k => rw [hjj] at hj; simp at hj
theorem NInv.ends {n : Nat} {bs : List Blk} {acc : List PL} {lk : Lks} {q : PL} (h : NInv n bs acc lk) (hn : acc.length = n) (hb : bs ≠ []) (hlk : n ≤ lk.length) (hq : q.form.kind ≠ 6) : NInv (n + 1) bs.dropLast (acc ++ [q]) (lk.modify (lastOr bs).line (fun y => (y.1, (n : Int)))) := by
  have hs := last_split hb
  have hinc := h.inc
  rw [hs, List.pairwise_append] at hinc
  obtain ⟨i1, _, i3⟩ := hinc
  have hlast : 1 ≤ (lastOr bs).line ∧ (lastOr bs).line < n := h.lt _ (by rw [hs]; simp)
  have hnot : (lastOr bs).line ∉ bs.dropLast.map (·.line) := fun hm => by have := i3 _ hm _ (List.mem_singleton.mpr rfl); omega
  refine ⟨i1, fun x hx => by have := h.lt x (by rw [hs]; exact List.mem_append_left _ hx); omega, ?_⟩
  intro j p hj hp
  by_cases hlt : j < acc.length
  · rw [List.getElem?_append_left hlt] at hj
    obtain ⟨o, e, h1⟩ := h.fwd j p hj hp
    refine ⟨o, e, ?_⟩
    rw [hs] at h1
    by_cases ho : o = (lastOr bs).line
    · refine Or.inr ⟨by rw [ho]; exact hnot, by omega, ?_, ?_⟩
      · rw [ho, lkAt_end _ _ _ (by omega)]; omega
      · rw [ho, lkAt_end _ _ _ (by omega)]; omega
    · rw [lkAt_other _ _ _ _ (by omega) (by omega)]
      rcases h1 with h1 | ⟨h1, h2, h3, h4⟩
      · rcases List.mem_append.mp h1 with h1 | h1
        · exact Or.inl h1
        · exact absurd (List.mem_singleton.mp h1) ho
      · exact Or.inr ⟨fun hm => h1 (List.mem_append_left _ hm), by omega, h3, by omega⟩
  · rw [List.getElem?_append_right (by omega)] at hj
    cases hjj : j - acc.length with
    | zero => rw [hjj] at hj; simp at hj; subst hj; exact absurd hp hq
    | succ k => rw [hjj] at hj; simp at hj
theorem adm_open {bs : List Blk} {k : Int} (h : adm bs k = true) (h4 : k = 4 ∨ k = 6) : bs ≠ [] := by
  intro e
  unfold adm at h
  rw [if_neg (by omega), if_neg (by omega), if_pos e] at h
  cases h
theorem NInv.step {n len : Nat} {bs : List Blk} {acc : List PL} {lk : Lks} {p : PL} (h : NInv n bs acc lk) (hn : acc.length = n) (h0 : 0 < n) (hlen : n < len) (hlk : lk.length = len) (ha : adm bs p.form.kind = true) :
    NInv (n + 1) (passed bs n p.form.kind) (acc ++ [placed bs p]) (lkStep len lk (placed bs p) n) := by
  have hpk := placed_kind bs p
  by_cases h6 : p.form.kind = 6
  · have hb := adm_open ha (Or.inr h6)
    have hs := last_split hb
    have hop : (placed bs p).opener = ((lastOr bs).line : Int) := by unfold placed; rw [if_neg hb, if_pos (Or.inl h6)]
    have hps : passed bs n p.form.kind = bs.dropLast ++ [⟨(lastOr bs).line, (lastOr bs).kind, true⟩] := by
      unfold passed
      rw [if_neg (by omega), if_pos h6, if_neg hb]
    have hin : (lastOr bs).line ∈ bs.map (·.line) := by rw [hs]; simp
    have hlt := h.lt _ hin
    have hst : lkStep len lk (placed bs p) n = lk.modify (lastOr bs).line (fun y => ((n : Int), y.2)) := by
      unfold lkStep
      rw [hop, if_pos (by omega), hpk, if_pos h6]
      rfl
    rw [hps, hst]
    refine h.grow hn ?_ (fun o => lkAt_els _ _ _ _) (fun _ => ⟨_, hop, hin⟩)
    rw [hs, List.map_append]
    rfl
  · by_cases h4 : p.form.kind = 4
    · have hb := adm_open ha (Or.inl h4)
      have hs := last_split hb
      have hop : (placed bs p).opener = ((lastOr bs).line : Int) := by unfold placed; rw [if_neg hb, if_pos (Or.inr h4)]
      have hin : (lastOr bs).line ∈ bs.map (·.line) := by rw [hs]; simp
      have hlt := h.lt _ hin
      have hps : passed bs n p.form.kind = bs.dropLast := by
        unfold passed
        rw [if_neg (by omega), if_neg h6, if_pos h4]
      have hst : lkStep len lk (placed bs p) n = lk.modify (lastOr bs).line (fun y => (y.1, (n : Int))) := by
        unfold lkStep
        rw [hop, if_pos (by omega), hpk, if_neg h6, if_pos h4]
        rfl
      rw [hps, hst]
      exact h.ends hn hb (by omega) (by rw [hpk]; exact h6)
    · have hst : lkStep len lk (placed bs p) n = lk := by
        unfold lkStep
        rw [hpk, if_neg h6, if_neg h4]
        split <;> rfl
      rw [hst]
      unfold passed
      by_cases h3 : p.form.kind = 3 ∨ p.form.kind = 5 ∨ p.form.kind = 7
      · rw [if_pos h3]
        exact h.opens hn h0 rfl (by rw [hpk]; exact h6)
      · rw [if_neg h3, if_neg h6, if_neg h4]
        exact h.grow hn rfl (fun _ => rfl) (fun e => absurd (hpk ▸ e) h6)
theorem nest_fwd (len : Nat) : ∀ (ps : List PL) (n : Nat) (bs : List Blk) (acc : List PL) (lk : Lks) (ls : List PL) (b2 : List Blk), nestFrom ps n bs acc = (0, ls, b2) → 0 < n → acc.length = n → n + ps.length = len → lk.length = len → NInv n bs acc lk → NInv len b2 ls (nestLk len ps n bs lk)
  | [], n, bs, acc, lk, ls, b2, h, _, _, hl, _, hi => by
    simp [nestFrom] at h
    obtain ⟨rfl, rfl⟩ := h
    have : n = len := by simpa using hl
    subst this
    exact hi
  | p :: r, n, bs, acc, lk, ls, b2, h, h0, hn, hl, hlk, hi => by
    rw [nestFrom] at h
    split at h
    · next ha =>
      rw [nestLk, if_pos ha]
      exact nest_fwd len r (n + 1) _ _ _ ls b2 h (by omega) (by simp [hn]) (by simp at hl; omega) (by rw [lkStep_len, hlk]) (hi.step hn h0 (by simp at hl; omega) hlk ha)
    · simp at h; omega
/-- The links of a source that is nested rightly. -/
theorem links_fwd {ps ls : List PL} (h : nestFrom ps 1 [] [zPL] = (0, ls, [])) (hl : ps.length ≤ 100) : ∀ (n : Nat) (p : PL), ls[n]? = some p → p.form.kind = 6 → (n : Int) ≤ (lkAt (linksOf ps) p.opener).2 ∧ (lkAt (linksOf ps) p.opener).2 ≤ 200 := by
  have hi := nest_fwd (ps.length + 1) ps 1 [] [zPL] (List.replicate (ps.length + 1) (0, 0)) ls [] h (by omega) rfl (by omega) (by simp) ⟨by simp, by simp, fun j p hj hp => by
    cases j with
    | zero => simp at hj; subst hj; exact absurd hp (by decide)
    | succ j => simp at hj⟩
  intro n p hn hp
  obtain ⟨o, e, h1⟩ := hi.fwd n p hn hp
  rcases h1 with h1 | ⟨_, _, h3, h4⟩
  · simp at h1
  · rw [e]
    exact ⟨h3, by unfold linksOf; omega⟩
end Rt
end Go.Proofs.YtbpajiljfppjcaaGreat

namespace Go.Proofs.YtbpajiljfppjcaaGreat
namespace Rt
theorem read_nest {s : ByteArray} {pls : List PL} (h : readS s = (0, 0, pls)) : tooLong s = false ∧ (rForms 0 (lines s) [zPL]).1 = 0 ∧ nestFrom ((rForms 0 (lines s) [zPL]).2.drop 1) 1 [] [zPL] = (0, pls, []) ∧ nameErr pls 1 (pls.drop 1) = 0 ∧ (declForm pls mainName).kind = 3 := by
  unfold readS at h
  split at h
  · injection h with h _; omega
  · next h0 =>
    rw [readForms] at h
    split at h
    · injection h with h _; omega
    · next h1 =>
      rw [readNest] at h
      split at h
      · injection h with h _; omega
      · next h2 =>
        split at h
        · injection h with h _; omega
        · next h3 =>
          rw [readNames] at h
          split at h
          · injection h with h _; omega
          · next h4 =>
            split at h
            · injection h with h _; omega
            · next h5 =>
              injection h with _ h
              injection h with _ h
              subst h
              exact ⟨by simpa using h0, by omega, Prod.ext (by simpa using h2) (Prod.ext rfl (Decidable.not_not.mp h3)), Decidable.not_not.mp h4, Decidable.not_not.mp h5⟩
theorem small_z : Small zPL.form := ⟨by simp [zPL], by simp [zPL], by simp [zPL], by simp [zPL], by simp [zPL]⟩
theorem read_small {s : ByteArray} {pls : List PL} (h : readS s = (0, 0, pls)) : (∀ p ∈ pls, Small p.form) ∧ pls.length ≤ 101 ∧ (linksS s).length = pls.length := by
  obtain ⟨h1, h2, h3, _, _⟩ := read_nest h
  obtain ⟨hz, hl⟩ := tooLong_no h1
  obtain ⟨a, b, rest, c⟩ := rForms_facts (lines s) 0 [zPL] (rForms 0 (lines s) [zPL]).2 (lines_facts hz) (fun p hp => by rw [List.mem_singleton.mp hp]; exact small_z) (Prod.ext h2 rfl)
  obtain ⟨d, e⟩ := nest_facts _ 1 [] [zPL] pls [] (fun p hp => by rw [List.mem_singleton.mp hp]; exact small_z) (fun p hp => b p (List.mem_of_mem_drop hp)) h3 (by omega)
  rw [List.length_drop, a] at d
  simp only [List.length_singleton] at d
  refine ⟨e, by omega, ?_⟩
  unfold linksS
  rw [linksOf_len, List.length_drop, a]
  simp only [List.length_singleton]
  omega
theorem noTok_get {pls : List PL} {n : Nat} {p : PL} (h : (pls.map noTok)[n]? = some p) : ∃ q, pls[n]? = some q ∧ p = noTok q := by
  rw [List.getElem?_map] at h
  cases e : pls[n]? with
  | none => rw [e] at h; cases h
  | some q => rw [e] at h; injection h with h; exact ⟨q, rfl, h.symm⟩
theorem read_fwd {s : ByteArray} {pls : List PL} (h : readS s = (0, 0, pls)) : LkFwd (pls.map noTok) (linksS s) := by
  obtain ⟨h1, h2, h3, _, _⟩ := read_nest h
  obtain ⟨hz, hl⟩ := tooLong_no h1
  obtain ⟨a, b, rest, c⟩ := rForms_facts (lines s) 0 [zPL] (rForms 0 (lines s) [zPL]).2 (lines_facts hz) (fun p hp => by rw [List.mem_singleton.mp hp]; exact small_z) (Prod.ext h2 rfl)
  have hf := links_fwd h3 (by rw [List.length_drop, a]; simp only [List.length_singleton]; omega)
  intro n p hn hk
  obtain ⟨q, hq, rfl⟩ := noTok_get hn
  exact hf n q hq hk
end Rt
theorem fit_of {s : ByteArray} {pls : List Rt.PL} (h : Rt.readS s = (0, 0, pls)) : Fit s pls :=
  ⟨(Rt.read_small h).2.2, Rt.read_fwd h, fun p hp => by have := ((Rt.read_small h).1 p hp).cells; omega⟩
end Go.Proofs.YtbpajiljfppjcaaGreat

namespace Go.Proofs.YtbpajiljfppjcaaGreat
open Go.RowKit
attribute [local go_sem ↓] Go.wp_at_zero Go.wp_at_succ

theorem end_any (w : World) (M B : Nat) (ty : TypeId) (tail : List Value) (S : Rt.Src) (m : Rt.Mc) (X : McX) (h : McS w M B ty tail S m X) :
    Calls Tryz.prog 22 #[.pointer (some ⟨M, 0, none⟩)] w fun e w' => e = .returned (.int .i64 m.fin) ∧ w' = w := by
  have c7 := h.c7
  clear h
  go_enter Tryz.func22, Tryz.ntmps22
  go_wp2_with fail
  go_ret
  exact ⟨rfl, rfl⟩
theorem output_any (w : World) (M B : Nat) (ty : TypeId) (tail : List Value) (S : Rt.Src) (m : Rt.Mc) (X : McX) (h : McS w M B ty tail S m X) (hl : m.output.length ≤ 1000) :
    Calls Tryz.prog 19 #[.pointer (some ⟨M, 0, none⟩)] w fun e w' => Below w.heap.size w w' ∧ ∃ v, e = .returned v ∧ w'.ownsRow w.heap.size 3 1 v m.output.length (intsV m.output) := by
  obtain ⟨i0, hi0, hz0, hz1, hz2⟩ := info_parts Tryz.infoIntK
  have c5 := h.c5
  have ho := h.out
  have hsrc : Ints w X.ov m.output := by
    obtain ⟨oa, oc, e⟩ := ownsRow_form ho
    refine ⟨oa, oc, e, ?_⟩
    by_cases hn : m.output = []
    · exact Or.inl hn
    · refine Or.inr ?_
      have hpos : 0 < m.output.length := List.length_pos_iff.mpr hn
      obtain ⟨g, cap, hv, _, _, _⟩ := own_cell ho (j := 0) (u := .int .i64 m.output[0]) (by simp [intsV, hpos])
      refine ⟨g, 0, by rw [e] at hv; injection hv, fun j hj => ?_⟩
      obtain ⟨g', cap', hv', _, _, hc⟩ := own_cell ho (j := j) (u := .int .i64 m.output[j]) (by simp [intsV, hj])
      have e1 : g = g' := by
        have h1 : X.ov.ownBlock = some g := by rw [hv]; rfl
        have h2 : X.ov.ownBlock = some g' := by rw [hv']; rfl
        rw [h1] at h2
        exact Option.some.inj h2
      subst e1
      rw [Nat.zero_add]
      exact hc
  obtain ⟨oa, oc, hov⟩ := ownsRow_form ho
  rw [hov] at c5 hsrc
  have HS := hide hsrc
  clear h ho hsrc hov
  go_enter Tryz.func19, Tryz.ntmps19
  go_wp2_with (at_builtin; refine wpList_append_any _ rfl _ _ 24 24 rfl w.heap.size 3 i0 _ Tryz.underlying24 hi0 hz0 hz1 (by omega) rfl _ 0 [] rfl (World.ownsRow_nil _ _ _ _) _ m.output.length (m.output.map (Value.int .i64)) rfl (unhide HS).src ?c1 ?c2 ?_)
  case c1 => omega
  case c2 => exact Nat.le_refl _
  intro v' w3 hown3 hgrow3
  have hb : Below w.heap.size w w3 := ⟨hgrow3.os, hgrow3.tape, hgrow3.output, hgrow3.size, fun k hk => hgrow3.block k hk (by simp [Value.ownBlock])⟩
  have hown4 : w3.ownsRow w.heap.size 3 1 v' m.output.length (intsV m.output) := hown3
  have HF := hide (And.intro hb hown4)
  clear hb hown3 hown4 hgrow3
  go_wp2_with fail
  go_ret
  exact ⟨(unhide HF).1, _, rfl, (unhide HF).2⟩
end Go.Proofs.YtbpajiljfppjcaaGreat

namespace Go.Proofs.YtbpajiljfppjcaaGreat
open Go.RowKit
attribute [local go_sem ↓] Go.wp_at_zero Go.wp_at_succ

/-- The machine's cells, laid into another block. -/
theorem McS.moved {w w' : World} {M M' B : Nat} {ty ty' : TypeId} {tail tail' : List Value} {S : Rt.Src} {m : Rt.Mc} {X : McX} (h : McS w M B ty tail S m X) (hb : Below w.heap.size w w') (hM : w'.heap[M']? = some (.cells (mcCells X m tail') ty' (0, 0))) (ht : TyOk ty') : McS w' M' B ty' tail' S m X := by
  have h' := h.later hb
  refine ⟨hM, ⟨block_lt hM, ?_, h'.prog.own, h'.prog.lines, h'.prog.links, h'.prog.len⟩, h'.own, h'.fl, h'.vl, ht⟩
  have := cell_of_block hM 0 (by simp [mcCells])
  simpa [mcCells] using this
/-- What a source must be for the machine to run it by this text's walks. -/
structure Flat (S : Rt.Src) : Prop where
  ops : ∀ n, ∀ o ∈ (Rt.formAt S.pls n).values, o.length ≤ 900
  index : ∀ n, (Rt.formAt S.pls n).index.length ≤ 900
  small : ∀ n, Rt.Small (Rt.formAt S.pls n)
  nocall : ∀ n, (Rt.formAt S.pls n).kind ≠ 12
  fwd : LkFwd S.pls S.lk
  mok : Mok S (Rt.firstM S)
/-- What a run keeps to. -/
structure Keep (S : Rt.Src) (m : Rt.Mc) : Prop where
  mok : Mok S m
  one : m.frames.length < 2
  out : m.output.length ≤ 50
theorem len_modify {α : Type} (l : List α) (i : Nat) (f : α → α) : (l.modify i f).length = l.length := by simp
theorem put_keep {S : Rt.Src} {m : Rt.Mc} (h : Keep S m) (s : Rt.Spot) (v : Int) : Keep S (Rt.putS m s v) := by
  unfold Rt.putS
  split
  · split
    · refine ⟨⟨h.mok.pls, h.mok.input, h.mok.frames, by simpa using h.mok.values, h.mok.output, h.mok.params, ?_, h.mok.forms⟩, h.one, h.out⟩
      intro l hl
      obtain ⟨i, hi, rfl⟩ := List.mem_iff_getElem.mp hl
      simp only [List.getElem_modify]
      split
      · rw [List.length_set]; exact h.mok.cells _ (List.getElem_mem _)
      · exact h.mok.cells _ (List.getElem_mem _)
    · refine ⟨⟨h.mok.pls, h.mok.input, by simpa using h.mok.frames, h.mok.values, h.mok.output, ?_, h.mok.cells, h.mok.forms⟩, by simpa using h.one, h.out⟩
      intro l hl
      obtain ⟨i, hi, rfl⟩ := List.mem_iff_getElem.mp hl
      simp only [List.getElem_modify]
      split
      · simp only [List.length_set]; exact h.mok.params _ (List.getElem_mem _)
      · exact h.mok.params _ (List.getElem_mem _)
  · exact h
theorem perform_keep {S : Rt.Src} {m : Rt.Mc} (h : Keep S m) (f : Rt.PForm) (hf : f.kind ≠ 12) : Keep S (Rt.perform S m f).m := by
  have hone := h.one
  unfold Rt.perform
  simp only
  repeat' split
  all_goals first
    | exact h
    | exact put_keep h _ _
    | (exfalso; omega)
    | skip
  · exact ⟨⟨h.mok.pls, h.mok.input, h.mok.frames, h.mok.values, by simp; omega, h.mok.params, h.mok.cells, h.mok.forms⟩, h.one, by simp; omega⟩
  · have := put_keep h (Rt.varS S m f.name) ((S.input[m.taken.toNat]?).getD 0)
    exact ⟨⟨this.mok.pls, this.mok.input, this.mok.frames, this.mok.values, this.mok.output, this.mok.params, this.mok.cells, this.mok.forms⟩, this.one, this.out⟩
theorem step_keep {S : Rt.Src} (hS : Flat S) {m : Rt.Mc} (h : Keep S m) : Keep S (Rt.stepM S m).1 := by
  unfold Rt.stepM
  split
  · simp only
    split
    · have := perform_keep h (Rt.formAt S.pls m.line) (hS.nocall _)
      exact ⟨⟨this.mok.pls, this.mok.input, this.mok.frames, this.mok.values, this.mok.output, this.mok.params, this.mok.cells, this.mok.forms⟩, this.one, this.out⟩
    · exact ⟨⟨h.mok.pls, h.mok.input, h.mok.frames, h.mok.values, h.mok.output, h.mok.params, h.mok.cells, h.mok.forms⟩, h.one, h.out⟩
  · exact h
theorem first_keep {S : Rt.Src} (hS : Flat S) : Keep S (Rt.firstM S) := ⟨hS.mok, by simp [Rt.firstM], by simp [Rt.firstM]⟩
theorem stepM_any (w : World) (M B : Nat) (ty : TypeId) (tail : List Value) (S : Rt.Src) (m : Rt.Mc) (X : McX) (h : McS w M B ty tail S m X) (hS : Flat S) (hk : Keep S m) :
    Calls Tryz.prog 24 #[.pointer (some ⟨M, 0, none⟩)] w (StepP M B ty tail S X m w) :=
  step_flat w M B ty tail S m X h hk.mok (hS.ops _) (hS.index _) (hS.small _) hk.one (hS.nocall _) hS.fwd
theorem run_frame {M B : Nat} {ty : TypeId} {tail : List Value} {S : Rt.Src} {m : Rt.Mc} {X X' : McX} {w w2 wr : World} (hA : Aft M B ty tail S X X' m w2 wr) (h2 : Below w.heap.size w w2) (hM : w.heap.size < M) (hbl : ∀ k ∈ blkX X, w.heap.size ≤ k) : Below w.heap.size w wr :=
  ⟨hA.frm.os.trans h2.os, hA.frm.tape.trans h2.tape, hA.frm.output.trans h2.output, Nat.le_trans h2.size hA.frm.size, fun j hj => (hA.frm.block j (Nat.lt_of_lt_of_le hj h2.size) (fun hm => by
    rcases List.mem_cons.mp hm with rfl | hm
    · omega
    · have := hbl j hm; omega)).trans (h2.block j hj)⟩
abbrev zRes : Array Value := #[.int .i64 0, .int .i64 0, .slice none 0 0]
/-- What Run says of a right source. -/
def RunP (S : Rt.Src) (n : Nat) (w : World) (e : Ending) (w' : World) : Prop :=
  Below w.heap.size w w' ∧ ∃ v, e = .returned (.tuple #[.agg #[.int .i64 (Rt.runM S n (Rt.firstM S)).1.fin, .int .i64 (Rt.runM S n (Rt.firstM S)).2, v], .int .i64 0, .int .i64 0]) ∧ w'.ownsRow w.heap.size 3 1 v (Rt.runM S n (Rt.firstM S)).1.output.length (intsV (Rt.runM S n (Rt.firstM S)).1.output)
end Go.Proofs.YtbpajiljfppjcaaGreat

namespace Go.Proofs.YtbpajiljfppjcaaGreat
open Go.RowKit
attribute [local go_sem ↓] Go.wp_at_zero Go.wp_at_succ

theorem form_case (P : List Rt.PL) (n : Int) : Rt.formAt P n = Rt.zF ∨ ∃ p ∈ P, Rt.formAt P n = p.form := by
  unfold Rt.formAt
  split
  · exact Or.inl rfl
  · cases e : P[n.toNat]? with
    | none => exact Or.inl rfl
    | some p => exact Or.inr ⟨p, List.mem_of_getElem? e, rfl⟩
theorem good_of {s : ByteArray} {pls : List Rt.PL} {inp : List Int} (h : Rt.readS s = (0, 0, pls)) (hl : inp.length ≤ 100) : Good (srcOf s pls inp) := by
  obtain ⟨h1, h2, _⟩ := Rt.read_small h
  have hsm : ∀ p ∈ (srcOf s pls inp).pls, Rt.Small p.form := fun p hp => by
    obtain ⟨q, hq, rfl⟩ := List.mem_map.mp hp
    exact h1 q hq
  refine ⟨fun n => ?_, Rt.read_fwd h, ?_⟩
  · rcases form_case (srcOf s pls inp).pls n with e | ⟨p, hp, e⟩
    · rw [e]; exact Rt.small_z
    · rw [e]; exact hsm p hp
  · refine ⟨by simpa [srcOf] using h2, hl, by simp [Rt.firstM], by simpa [Rt.firstM, srcOf] using h2, by simp [Rt.firstM], ?_, ?_, hsm⟩
    · intro f hf
      simp only [Rt.firstM, List.mem_singleton] at hf
      rw [hf]
      simp [Rt.noFm]
    · intro l hl2
      simp only [Rt.firstM, List.mem_map] at hl2
      obtain ⟨p, hp, rfl⟩ := hl2
      have := (hsm p hp).cells
      unfold Rt.zerosI
      rw [List.length_replicate]
      split <;> omega
end Go.Proofs.YtbpajiljfppjcaaGreat

namespace Go.Proofs.YtbpajiljfppjcaaGreat
open Go.RowKit

namespace Rt
theorem nameErr_each (pls : List PL) : ∀ (rem : List PL) (n : Nat), 0 < n → nameErr pls n rem = 0 → ∀ (j : Nat) (p : PL), rem[j]? = some p → namFit pls (n + j) p = true
  | [], _, _, _, j, p, h => by simp at h
  | q :: r, n, h0, he, j, p, h => by
    unfold nameErr at he
    split at he
    · next hq =>
      cases j with
      | zero => simp at h; subst h; exact hq
      | succ j =>
        have := nameErr_each pls r (n + 1) (by omega) he j p (by simpa using h)
        rw [show n + (j + 1) = n + 1 + j by omega]
        exact this
    · omega
end Rt
theorem nest_zero_aux : ∀ (ps : List Rt.PL) (n : Nat) (bs : List Rt.Blk) (acc ls : List Rt.PL) (b2 : List Rt.Blk) (p : Rt.PL), Rt.nestFrom ps n bs (p :: acc) = (0, ls, b2) → 0 < n → ls[0]? = some p
  | [], n, bs, acc, ls, b2, p, h, _ => by simp [Rt.nestFrom] at h; rw [← h.1]; rfl
  | q :: r, n, bs, acc, ls, b2, p, h, h0 => by
    rw [Rt.nestFrom] at h
    split at h
    · rw [List.cons_append] at h
      exact nest_zero_aux r (n + 1) _ _ ls b2 p h (by omega)
    · simp at h; omega
theorem nest_zero {ps ls : List Rt.PL} {b2 : List Rt.Blk} (h : Rt.nestFrom ps 1 [] [Rt.zPL] = (0, ls, b2)) : ls[0]? = some Rt.zPL := nest_zero_aux ps 1 [] [] ls b2 Rt.zPL h (by omega)
/-- No call hands over more than four values. -/
def Call4 (S : Rt.Src) : Prop := ∀ n, (Rt.formAt S.pls n).kind = 12 → (Rt.formAt S.pls n).values.length ≤ 4
theorem call4_of {s : ByteArray} {pls : List Rt.PL} {inp : List Int} (h : Rt.readS s = (0, 0, pls)) : Call4 (srcOf s pls inp) := by
  obtain ⟨hsm, _, _⟩ := Rt.read_small h
  obtain ⟨_, _, _, hn, _⟩ := Rt.read_nest h
  have key : ∀ p ∈ pls, p.form.kind = 12 → p.form.values.length ≤ 4 := by
    intro p hp hk
    obtain ⟨i, hi⟩ := List.mem_iff_getElem?.mp hp
    cases i with
    | zero =>
      -- the zeroth line is empty
      have h0 : pls[0]? = some Rt.zPL := by
        obtain ⟨h1, h2, h3, _, _⟩ := Rt.read_nest h
        exact nest_zero h3
      rw [h0] at hi
      injection hi with hi
      subst hi
      exact absurd hk (by decide)
    | succ i =>
      have := Rt.nameErr_each pls (pls.drop 1) 1 (by omega) hn i p (by rw [List.getElem?_drop, Nat.add_comm]; exact hi)
      unfold Rt.namFit at this
      rw [if_neg (by omega), if_neg (by omega), if_neg (by omega), if_neg (by omega), if_pos hk, Bool.and_eq_true] at this
      have h2 := this.1
      unfold Rt.callFit at h2
      rw [Bool.and_eq_true, decide_eq_true_eq, decide_eq_true_eq] at h2
      rw [← h2.2]
      unfold Rt.declForm
      rcases form_case pls (Rt.declP pls p.form.name) with e | ⟨q, hq, e⟩
      · rw [e]; simp [Rt.zF]
      · rw [e]; exact (hsm q hq).params
  intro n hk
  rcases form_case (srcOf s pls inp).pls n with e | ⟨p, hp, e⟩
  · rw [e]; simp [Rt.zF]
  · rw [e] at hk ⊢
    obtain ⟨q, hq, rfl⟩ := List.mem_map.mp hp
    exact key q hq hk
def Par4 (m : Rt.Mc) : Prop := ∀ f ∈ m.frames, f.params.length ≤ 4
theorem put_par4 {m : Rt.Mc} (h : Par4 m) (s : Rt.Spot) (v : Int) : Par4 (Rt.putS m s v) := by
  unfold Rt.putS
  split
  · split
    · exact h
    · intro l hl
      obtain ⟨i, hi, rfl⟩ := List.mem_iff_getElem.mp hl
      simp only [List.getElem_modify]
      split
      · simp only [List.length_set]; exact h _ (List.getElem_mem _)
      · exact h _ (List.getElem_mem _)
  · exact h
theorem perform_par4 {S : Rt.Src} {m : Rt.Mc} (h : Par4 m) (f : Rt.PForm) (hf : f.kind = 12 → f.values.length ≤ 4) : Par4 (Rt.perform S m f).m ∧ (Rt.perform S m f).recs.length ≤ 5 ∧ ((Rt.perform S m f).fin = 0 → 0 < (Rt.perform S m f).recs.length) := by
  unfold Rt.perform
  simp only
  repeat' split
  all_goals first
    | (refine ⟨h, by simp [Rt.ended], fun hz => ?_⟩; first | (simp; done) | exact absurd hz (by assumption) | (simp [Rt.ended] at hz; done))
    | exact ⟨put_par4 h _ _, by simp, by simp⟩
    | skip
  · next hk ha hn =>
    refine ⟨?_, by simp, by simp⟩
    intro g hg
    rcases List.mem_append.mp hg with hg | hg
    · exact h g hg
    · rw [List.mem_singleton.mp hg]
      have := Rt.argsI_len S m f.values [] ha
      have := hf hk
      simp only [List.length_nil] at *
      omega
  · next hn =>
    refine ⟨fun g hg => h g (List.dropLast_subset _ hg), ?_, by simp⟩
    obtain ⟨fs, g, hfs, _, hl, _⟩ := last_frame hn
    rw [hl]
    have := h g (by rw [hfs]; simp)
    simp
    omega
theorem step_par4 {S : Rt.Src} (hS : Call4 S) {m : Rt.Mc} (h : Par4 m) : Par4 (Rt.stepM S m).1 ∧ (Rt.stepM S m).2.length ≤ 5 ∧ (m.fin = 0 → 0 < (Rt.stepM S m).2.length) := by
  unfold Rt.stepM
  obtain ⟨h1, h2, h3⟩ := perform_par4 (S := S) h (Rt.formAt S.pls m.line) (hS m.line)
  split
  · simp only
    split
    · next hz => exact ⟨h1, h2, fun _ => h3 hz⟩
    · exact ⟨h, by simp, by simp⟩
  · next hz => exact ⟨h, by simp, fun e => absurd e hz⟩
theorem first_par4 (S : Rt.Src) : Par4 (Rt.firstM S) := by
  intro f hf
  simp only [Rt.firstM, List.mem_singleton] at hf
  rw [hf]
  simp [Rt.noFm]
end Go.Proofs.YtbpajiljfppjcaaGreat

