/- The blocks that are open ahead of each line: plain. -/
import Derived.Test.YthleadfkfnnadaaGreatRtMach
namespace Go.Proofs.YthleadfkfnnadaaGreat
namespace Rt
theorem lkAt_els (lk : Lks) (o : Nat) (x q : Int) : (lkAt (lk.modify o (fun y => (x, y.2))) q).2 = (lkAt lk q).2 := by
  unfold lkAt
  split
  · rfl
  · rw [List.getElem?_modify]
    cases lk[q.toNat]? with
    | none => rfl
    | some y =>
      simp only [Option.map_eq_map, Option.map_some, Option.getD_some]
      split <;> rfl
theorem lkAt_other (lk : Lks) (o : Nat) (f : Int × Int → Int × Int) (q : Int) (h : q ≠ o) (h0 : 0 ≤ q) : lkAt (lk.modify o f) q = lkAt lk q := by
  unfold lkAt
  rw [if_neg (by omega), if_neg (by omega), List.getElem?_modify]
  cases lk[q.toNat]? with
  | none => rfl
  | some y =>
    simp only [Option.map_eq_map, Option.map_some, Option.getD_some]
    rw [if_neg (by omega)]
theorem lkAt_end (lk : Lks) (o : Nat) (x : Int) (h : o < lk.length) : (lkAt (lk.modify o (fun y => (y.1, x))) (o : Int)).2 = x := by
  unfold lkAt
  rw [if_neg (by omega), List.getElem?_modify, Int.toNat_natCast, List.getElem?_eq_getElem h]
  simp
structure NInv (n : Nat) (bs : List Blk) (acc : List PL) (lk : Lks) : Prop where
  inc : (bs.map (·.line)).Pairwise (· < ·)
  lt : ∀ x ∈ bs.map (·.line), 1 ≤ x ∧ x < n
  fwd : ∀ (j : Nat) (p : PL), acc[j]? = some p → p.form.kind = 6 → ∃ o : Nat, p.opener = (o : Int) ∧ (o ∈ bs.map (·.line) ∨ (o ∉ bs.map (·.line) ∧ o < n ∧ (j : Int) ≤ (lkAt lk o).2 ∧ (lkAt lk o).2 ≤ n))
theorem last_split {bs : List Blk} (h : bs ≠ []) : bs.map (·.line) = bs.dropLast.map (·.line) ++ [(lastOr bs).line] := by
  have : lastOr bs = bs.getLast h := by
    unfold lastOr
    rw [List.getLastD_eq_getLast?, List.getLast?_eq_some_getLast h]
    rfl
  rw [this]
  conv => lhs; rw [← List.dropLast_concat_getLast h]
  rw [List.map_append]
  rfl
theorem placed_kind (bs : List Blk) (p : PL) : (placed bs p).form.kind = p.form.kind := by rw [(placed_same bs p).2]
theorem NInv.grow {n : Nat} {bs bs' : List Blk} {acc : List PL} {lk lk' : Lks} {q : PL} (h : NInv n bs acc lk) (hn : acc.length = n) (hl : bs'.map (·.line) = bs.map (·.line)) (hk : ∀ o : Nat, (lkAt lk' o).2 = (lkAt lk o).2) (hq : q.form.kind = 6 → ∃ o : Nat, q.opener = (o : Int) ∧ o ∈ bs.map (·.line)) : NInv (n + 1) bs' (acc ++ [q]) lk' := by
  refine ⟨by rw [hl]; exact h.inc, fun x hx => by rw [hl] at hx; have := h.lt x hx; omega, ?_⟩
  intro j p hj hp
  rw [hl]
  by_cases hlt : j < acc.length
  · rw [List.getElem?_append_left hlt] at hj
    obtain ⟨o, e, h1⟩ := h.fwd j p hj hp
    refine ⟨o, e, ?_⟩
    rcases h1 with h1 | ⟨h1, h2, h3, h4⟩
    · exact Or.inl h1
    · exact Or.inr ⟨h1, by omega, by rw [hk]; exact h3, by rw [hk]; omega⟩
  · rw [List.getElem?_append_right (by omega)] at hj
    cases hjj : j - acc.length with
    | zero =>
      rw [hjj] at hj
      simp at hj
      subst hj
      obtain ⟨o, e, h1⟩ := hq hp
      exact ⟨o, e, Or.inl h1⟩
    | succ k => rw [hjj] at hj; simp at hj
theorem NInv.opens {n : Nat} {bs : List Blk} {acc : List PL} {lk : Lks} {q : PL} {b : Blk} (h : NInv n bs acc lk) (hn : acc.length = n) (h0 : 0 < n) (hb : b.line = n) (hq : q.form.kind ≠ 6) : NInv (n + 1) (bs ++ [b]) (acc ++ [q]) lk := by
  have hm : (bs ++ [b]).map (·.line) = bs.map (·.line) ++ [n] := by rw [List.map_append, List.map_cons, List.map_nil, hb]
  refine ⟨?_, ?_, ?_⟩
  · rw [hm, List.pairwise_append]
    exact ⟨h.inc, List.pairwise_singleton _ _, fun x hx y hy => by have := h.lt x hx; rw [List.mem_singleton.mp hy]; exact this.2⟩
  · intro x hx
    rw [hm] at hx
    rcases List.mem_append.mp hx with hx | hx
    · have := h.lt x hx; omega
    · rw [List.mem_singleton.mp hx]; omega
  · intro j p hj hp
    rw [hm]
    by_cases hlt : j < acc.length
    · rw [List.getElem?_append_left hlt] at hj
      obtain ⟨o, e, h1⟩ := h.fwd j p hj hp
      refine ⟨o, e, ?_⟩
      rcases h1 with h1 | ⟨h1, h2, h3, h4⟩
      · exact Or.inl (List.mem_append_left _ h1)
      · refine Or.inr ⟨fun hm => ?_, by omega, h3, by omega⟩
        rcases List.mem_append.mp hm with hm | hm
        · exact h1 hm
        · rw [List.mem_singleton.mp hm] at h2; omega
    · rw [List.getElem?_append_right (by omega)] at hj
      cases hjj : j - acc.length with
      | zero => rw [hjj] at hj; simp at hj; subst hj; exact absurd hp hq
      | succ k => rw [hjj] at hj; simp at hj
theorem NInv.ends {n : Nat} {bs : List Blk} {acc : List PL} {lk : Lks} {q : PL} (h : NInv n bs acc lk) (hn : acc.length = n) (hb : bs ≠ []) (hlk : n ≤ lk.length) (hq : q.form.kind ≠ 6) : NInv (n + 1) bs.dropLast (acc ++ [q]) (lk.modify (lastOr bs).line (fun y => (y.1, (n : Int)))) := by
  have hs := last_split hb
  have hinc := h.inc
  rw [hs, List.pairwise_append] at hinc
  obtain ⟨i1, _, i3⟩ := hinc
  have hlast : 1 ≤ (lastOr bs).line ∧ (lastOr bs).line < n := h.lt _ (by rw [hs]; simp)
  have hnot : (lastOr bs).line ∉ bs.dropLast.map (·.line) := fun hm => by have := i3 _ hm _ (List.mem_singleton.mpr rfl); omega
  refine ⟨i1, fun x hx => by have := h.lt x (by rw [hs]; exact List.mem_append_left _ hx); omega, ?_⟩
  intro j p hj hp
  by_cases hlt : j < acc.length
  · rw [List.getElem?_append_left hlt] at hj
    obtain ⟨o, e, h1⟩ := h.fwd j p hj hp
    refine ⟨o, e, ?_⟩
    rw [hs] at h1
    by_cases ho : o = (lastOr bs).line
    · refine Or.inr ⟨by rw [ho]; exact hnot, by omega, ?_, ?_⟩
      · rw [ho, lkAt_end _ _ _ (by omega)]; omega
      · rw [ho, lkAt_end _ _ _ (by omega)]; omega
    · rw [lkAt_other _ _ _ _ (by omega) (by omega)]
      rcases h1 with h1 | ⟨h1, h2, h3, h4⟩
      · rcases List.mem_append.mp h1 with h1 | h1
        · exact Or.inl h1
        · exact absurd (List.mem_singleton.mp h1) ho
      · exact Or.inr ⟨fun hm => h1 (List.mem_append_left _ hm), by omega, h3, by omega⟩
  · rw [List.getElem?_append_right (by omega)] at hj
    cases hjj : j - acc.length with
    | zero => rw [hjj] at hj; simp at hj; subst hj; exact absurd hp hq
    | succ k => rw [hjj] at hj; simp at hj
theorem adm_open {bs : List Blk} {k : Int} (h : adm bs k = true) (h4 : k = 4 ∨ k = 6) : bs ≠ [] := by
  intro e
  unfold adm at h
  rw [if_neg (by omega), if_neg (by omega), if_pos e] at h
  cases h
theorem NInv.step {n len : Nat} {bs : List Blk} {acc : List PL} {lk : Lks} {p : PL} (h : NInv n bs acc lk) (hn : acc.length = n) (h0 : 0 < n) (hlen : n < len) (hlk : lk.length = len) (ha : adm bs p.form.kind = true) :
    NInv (n + 1) (passed bs n p.form.kind) (acc ++ [placed bs p]) (lkStep len lk (placed bs p) n) := by
  have hpk := placed_kind bs p
  by_cases h6 : p.form.kind = 6
  · have hb := adm_open ha (Or.inr h6)
    have hs := last_split hb
    have hop : (placed bs p).opener = ((lastOr bs).line : Int) := by unfold placed; rw [if_neg hb, if_pos (Or.inl h6)]
    have hps : passed bs n p.form.kind = bs.dropLast ++ [⟨(lastOr bs).line, (lastOr bs).kind, true⟩] := by
      unfold passed
      rw [if_neg (by omega), if_pos h6, if_neg hb]
    have hin : (lastOr bs).line ∈ bs.map (·.line) := by rw [hs]; simp
    have hlt := h.lt _ hin
    have hst : lkStep len lk (placed bs p) n = lk.modify (lastOr bs).line (fun y => ((n : Int), y.2)) := by
      unfold lkStep
      rw [hop, if_pos (by omega), hpk, if_pos h6]
      rfl
    rw [hps, hst]
    refine h.grow hn ?_ (fun o => lkAt_els _ _ _ _) (fun _ => ⟨_, hop, hin⟩)
    rw [hs, List.map_append]
    rfl
  · by_cases h4 : p.form.kind = 4
    · have hb := adm_open ha (Or.inl h4)
      have hs := last_split hb
      have hop : (placed bs p).opener = ((lastOr bs).line : Int) := by unfold placed; rw [if_neg hb, if_pos (Or.inr h4)]
      have hin : (lastOr bs).line ∈ bs.map (·.line) := by rw [hs]; simp
      have hlt := h.lt _ hin
      have hps : passed bs n p.form.kind = bs.dropLast := by
        unfold passed
        rw [if_neg (by omega), if_neg h6, if_pos h4]
      have hst : lkStep len lk (placed bs p) n = lk.modify (lastOr bs).line (fun y => (y.1, (n : Int))) := by
        unfold lkStep
        rw [hop, if_pos (by omega), hpk, if_neg h6, if_pos h4]
        rfl
      rw [hps, hst]
      exact h.ends hn hb (by omega) (by rw [hpk]; exact h6)
    · have hst : lkStep len lk (placed bs p) n = lk := by
        unfold lkStep
        rw [hpk, if_neg h6, if_neg h4]
        split <;> rfl
      rw [hst]
      unfold passed
      by_cases h3 : p.form.kind = 3 ∨ p.form.kind = 5 ∨ p.form.kind = 7
      · rw [if_pos h3]
        exact h.opens hn h0 rfl (by rw [hpk]; exact h6)
      · rw [if_neg h3, if_neg h6, if_neg h4]
        exact h.grow hn rfl (fun _ => rfl) (fun e => absurd (hpk ▸ e) h6)
theorem nest_fwd (len : Nat) : ∀ (ps : List PL) (n : Nat) (bs : List Blk) (acc : List PL) (lk : Lks) (ls : List PL) (b2 : List Blk), nestFrom ps n bs acc = (0, ls, b2) → 0 < n → acc.length = n → n + ps.length = len → lk.length = len → NInv n bs acc lk → NInv len b2 ls (nestLk len ps n bs lk)
  | [], n, bs, acc, lk, ls, b2, h, _, _, hl, _, hi => by
    simp [nestFrom] at h
    obtain ⟨rfl, rfl⟩ := h
    have : n = len := by simpa using hl
    subst this
    exact hi
  | p :: r, n, bs, acc, lk, ls, b2, h, h0, hn, hl, hlk, hi => by
    rw [nestFrom] at h
    split at h
    · next ha =>
      rw [nestLk, if_pos ha]
      exact nest_fwd len r (n + 1) _ _ _ ls b2 h (by omega) (by simp [hn]) (by simp at hl; omega) (by rw [lkStep_len, hlk]) (hi.step hn h0 (by simp at hl; omega) hlk ha)
    · simp at h; omega
theorem links_fwd {ps ls : List PL} (h : nestFrom ps 1 [] [zPL] = (0, ls, [])) (hl : ps.length ≤ 100) : ∀ (n : Nat) (p : PL), ls[n]? = some p → p.form.kind = 6 → (n : Int) ≤ (lkAt (linksOf ps) p.opener).2 ∧ (lkAt (linksOf ps) p.opener).2 ≤ 200 := by
  have hi := nest_fwd (ps.length + 1) ps 1 [] [zPL] (List.replicate (ps.length + 1) (0, 0)) ls [] h (by omega) rfl (by omega) (by simp) ⟨by simp, by simp, fun j p hj hp => by
    cases j with
    | zero => simp at hj; subst hj; exact absurd hp (by decide)
    | succ j => simp at hj⟩
  intro n p hn hp
  obtain ⟨o, e, h1⟩ := hi.fwd n p hn hp
  rcases h1 with h1 | ⟨_, _, h3, h4⟩
  · simp at h1
  · rw [e]
    exact ⟨h3, by unfold linksOf; omega⟩
def kd (ps : List PL) (n : Nat) : Int := ((ps[n]?).getD zPL).form.kind
theorem kd_some {ps : List PL} {n : Nat} {p : PL} (h : ps[n]? = some p) : kd ps n = p.form.kind := by rw [kd, h]; rfl
def stk (ps : List PL) : Nat → List Blk
  | 0 => []
  | n + 1 => passed (stk ps n) (n + 1) (kd ps n)
structure Nst (ps ls : List PL) : Prop where
  len : ls.length = ps.length + 1
  zero : ls[0]? = some zPL
  adm : ∀ n, n < ps.length → adm (stk ps n) (kd ps n) = true
  placed : ∀ n p, ps[n]? = some p → ls[n + 1]? = some (placed (stk ps n) p)
  shut : stk ps ps.length = []
theorem nst_from (ps : List PL) : ∀ (f k : Nat) (acc ls : List PL), k + f = ps.length → acc.length = k + 1 → nestFrom (ps.drop k) (k + 1) (stk ps k) acc = (0, ls, []) →
    (∀ j, j < acc.length → ls[j]? = acc[j]?) ∧ ls.length = ps.length + 1 ∧ stk ps ps.length = [] ∧ ∀ n p, k ≤ n → ps[n]? = some p → adm (stk ps n) p.form.kind = true ∧ ls[n + 1]? = some (placed (stk ps n) p)
  | 0, k, acc, ls, hk, ha, h => by
    rw [List.drop_eq_nil_of_le (by omega), nestFrom] at h
    injection h with _ h
    injection h with h1 h2
    subst h1
    have : k = ps.length := by omega
    subst this
    refine ⟨fun _ _ => rfl, by omega, h2, fun n p hn hp => ?_⟩
    rw [List.getElem?_eq_none (by omega)] at hp
    cases hp
  | f + 1, k, acc, ls, hk, ha, h => by
    have hkl : k < ps.length := by omega
    rw [List.drop_eq_getElem_cons hkl, nestFrom] at h
    split at h
    · next had =>
      have hkd : kd ps k = ps[k].form.kind := kd_some (List.getElem?_eq_getElem hkl)
      obtain ⟨i1, i2, i3, i4⟩ := nst_from ps f (k + 1) (acc ++ [placed (stk ps k) ps[k]]) ls (by omega) (by simp [ha]) (by rw [stk, hkd]; exact h)
      refine ⟨fun j hj => ?_, i2, i3, fun n p hn hp => ?_⟩
      · rw [i1 j (by simp; omega), List.getElem?_append_left hj]
      · by_cases e : n = k
        · subst e
          rw [List.getElem?_eq_getElem hkl] at hp
          injection hp with hp
          subst hp
          refine ⟨had, ?_⟩
          rw [i1 (n + 1) (by simp; omega), List.getElem?_append_right (by omega), ha]
          simp
        · exact i4 n p (by omega) hp
    · injection h with h _; omega
theorem nst_of {ps ls : List PL} (h : nestFrom ps 1 [] [zPL] = (0, ls, [])) : Nst ps ls := by
  obtain ⟨i1, i2, i3, i4⟩ := nst_from ps ps.length 0 [zPL] ls (by omega) rfl h
  refine ⟨i2, i1 0 (by simp), fun n hn => ?_, fun n p hp => (i4 n p (Nat.zero_le _) hp).2, i3⟩
  have := (i4 n ps[n] (Nat.zero_le _) (List.getElem?_eq_getElem hn)).1
  rw [kd_some (List.getElem?_eq_getElem hn)]
  exact this
def stp (ps : List PL) : Nat → List (Nat × Int)
  | 0 => []
  | n + 1 => if kd ps n = 3 ∨ kd ps n = 5 ∨ kd ps n = 7 then stp ps n ++ [(n + 1, kd ps n)] else if kd ps n = 4 then (stp ps n).dropLast else stp ps n
theorem last_or {bs : List Blk} (h : bs ≠ []) : lastOr bs = bs.getLast h := by
  unfold lastOr
  rw [List.getLastD_eq_getLast?, List.getLast?_eq_some_getLast h]
  rfl
theorem stk_stp (ps : List PL) : ∀ n, (stk ps n).map (fun b => (b.line, b.kind)) = stp ps n
  | 0 => rfl
  | n + 1 => by
    have ih := stk_stp ps n
    rw [stk, stp, ← ih]
    unfold passed
    by_cases h3 : kd ps n = 3 ∨ kd ps n = 5 ∨ kd ps n = 7
    · rw [if_pos h3, if_pos h3, List.map_append]
      rfl
    · rw [if_neg h3, if_neg h3]
      by_cases h6 : kd ps n = 6
      · rw [if_pos h6, if_neg (show ¬ kd ps n = 4 by omega)]
        by_cases hb : stk ps n = []
        · rw [if_pos hb, hb]
        · rw [if_neg hb, List.map_append, last_or hb]
          conv => rhs; rw [← List.dropLast_concat_getLast hb]
          rw [List.map_append]
          rfl
      · rw [if_neg h6]
        by_cases h4 : kd ps n = 4
        · rw [if_pos h4, if_pos h4, List.map_dropLast]
        · rw [if_neg h4, if_neg h4]
def inn (L : List (Nat × Int)) : Nat × Int := L.getLastD (0, 0)
def out1 (L : List (Nat × Int)) : Nat × Int := L.headD (0, 0)
theorem stk_last (ps : List PL) (n : Nat) : ((lastOr (stk ps n)).line, (lastOr (stk ps n)).kind) = inn (stp ps n) := by
  rw [← stk_stp]
  by_cases hb : stk ps n = []
  · rw [hb]; rfl
  · rw [last_or hb, inn, List.getLastD_eq_getLast?, List.getLast?_map, List.getLast?_eq_some_getLast hb]
    rfl
theorem stk_first (ps : List PL) (n : Nat) : (firstOr (stk ps n)).line = (out1 (stp ps n)).1 := by
  rw [← stk_stp]
  cases stk ps n with
  | nil => rfl
  | cons b r => rfl
theorem stk_nil (ps : List PL) (n : Nat) : stk ps n = [] ↔ stp ps n = [] := by
  rw [← stk_stp]; simp
structure StpOK (ps : List PL) (n : Nat) : Prop where
  inc : ((stp ps n).map (·.1)).Pairwise (· < ·)
  each : ∀ b ∈ stp ps n, 1 ≤ b.1 ∧ b.1 ≤ n ∧ kd ps (b.1 - 1) = b.2
  head : ∀ b r, stp ps n = b :: r → b.2 = 3 ∧ ∀ c ∈ r, c.2 = 5 ∨ c.2 = 7
theorem inn_mem {L : List (Nat × Int)} (h : L ≠ []) : inn L ∈ L := by
  unfold inn
  rw [List.getLastD_eq_getLast?, List.getLast?_eq_some_getLast h]
  exact List.getLast_mem h
theorem drop_sub {L : List (Nat × Int)} : ∀ b ∈ L.dropLast, b ∈ L := fun _ hb => List.dropLast_subset _ hb
theorem adm_in {ps ls : List PL} (h : Nst ps ls) {n : Nat} (hn : n < ps.length) (hk : ¬ (kd ps n = 0 ∨ kd ps n = 1 ∨ kd ps n = 2 ∨ kd ps n = 3)) : stp ps n ≠ [] := by
  have := h.adm n hn
  unfold Rt.adm at this
  intro e
  rw [if_neg (by omega), if_neg (by omega), if_pos ((stk_nil ps n).mpr e)] at this
  cases this
theorem adm_out {ps ls : List PL} (h : Nst ps ls) {n : Nat} (hn : n < ps.length) (hk : kd ps n = 1 ∨ kd ps n = 2 ∨ kd ps n = 3) : stp ps n = [] := by
  have := h.adm n hn
  unfold Rt.adm at this
  rw [if_neg (by omega), if_pos hk] at this
  exact (stk_nil ps n).mp (of_decide_eq_true this)
theorem adm_els {ps ls : List PL} (h : Nst ps ls) {n : Nat} (hn : n < ps.length) (hk : kd ps n = 6) : (inn (stp ps n)).2 = 5 ∧ (lastOr (stk ps n)).els = false := by
  have := h.adm n hn
  unfold Rt.adm at this
  have hne := adm_in h hn (by omega)
  rw [if_neg (by omega), if_neg (by omega), if_neg (fun e => hne ((stk_nil ps n).mp e)), if_pos hk] at this
  simp only [Bool.and_eq_true, decide_eq_true_eq, Bool.not_eq_true'] at this
  rw [← stk_last]
  exact this
theorem pair_drop {L : List (Nat × Int)} (h : (L.map (·.1)).Pairwise (· < ·)) : (L.dropLast.map (·.1)).Pairwise (· < ·) := by
  rw [List.map_dropLast]
  exact h.sublist (List.dropLast_sublist _)
theorem stp_ok {ps ls : List PL} (h : Nst ps ls) : ∀ n, n ≤ ps.length → StpOK ps n
  | 0, _ => ⟨by simp [stp], by simp [stp], fun b r e => by simp [stp] at e⟩
  | n + 1, hn => by
    have ih := stp_ok h n (by omega)
    by_cases h3 : kd ps n = 3 ∨ kd ps n = 5 ∨ kd ps n = 7
    · have e : stp ps (n + 1) = stp ps n ++ [(n + 1, kd ps n)] := by rw [stp, if_pos h3]
      refine ⟨?_, fun b hb => ?_, fun b r hb => ?_⟩
      · rw [e, List.map_append, List.pairwise_append]
        refine ⟨ih.inc, List.pairwise_singleton _ _, fun x hx y hy => ?_⟩
        obtain ⟨b, hb, rfl⟩ := List.mem_map.mp hx
        have := (ih.each b hb).2.1
        simp at hy
        omega
      · rw [e] at hb
        rcases List.mem_append.mp hb with hb | hb
        · have := ih.each b hb
          exact ⟨this.1, by omega, this.2.2⟩
        · rw [List.mem_singleton.mp hb]
          exact ⟨by simp, by simp, by simp⟩
      · rw [e] at hb
        cases hs : stp ps n with
        | nil =>
          rw [hs] at hb
          have hk : kd ps n = 3 := by
            rcases h3 with h3 | h3
            · exact h3
            · exact absurd hs (adm_in h (by omega) (by omega))
          simp at hb
          rw [← hb.1, hb.2]
          exact ⟨hk, by simp⟩
        | cons c q =>
          rw [hs] at hb
          simp at hb
          obtain ⟨rfl, rfl⟩ := hb
          have := ih.head c q hs
          refine ⟨this.1, fun x hx => ?_⟩
          rcases List.mem_append.mp hx with hx | hx
          · exact this.2 x hx
          · rw [List.mem_singleton.mp hx]
            rcases h3 with h3 | h3
            · have := adm_out h (show n < ps.length by omega) (by omega)
              rw [hs] at this
              cases this
            · exact h3
    · by_cases h4 : kd ps n = 4
      · have e : stp ps (n + 1) = (stp ps n).dropLast := by rw [stp, if_neg h3, if_pos h4]
        refine ⟨by rw [e]; exact pair_drop ih.inc, fun b hb => ?_, fun b r hb => ?_⟩
        · rw [e] at hb
          have := ih.each b (drop_sub b hb)
          exact ⟨this.1, by omega, this.2.2⟩
        · rw [e] at hb
          cases hs : stp ps n with
          | nil => rw [hs] at hb; simp at hb
          | cons c q =>
            rw [hs] at hb
            have := ih.head c q hs
            cases q with
            | nil => simp at hb
            | cons d q =>
              rw [List.dropLast_cons_of_ne_nil (by simp)] at hb
              injection hb with e1 e2
              subst e1
              rw [← e2]
              exact ⟨this.1, fun x hx => this.2 x (drop_sub x hx)⟩
      · have e : stp ps (n + 1) = stp ps n := by rw [stp, if_neg h3, if_neg h4]
        exact ⟨by rw [e]; exact ih.inc, fun b hb => by rw [e] at hb; have := ih.each b hb; exact ⟨this.1, by omega, this.2.2⟩, fun b r hb => by rw [e] at hb; exact ih.head b r hb⟩
theorem stp_gone {ps : List PL} {o i : Nat} (ho : o ≤ i) (hi : ∀ b ∈ stp ps i, b.1 ≠ o) : ∀ j, ∀ b ∈ stp ps (i + j), b.1 ≠ o
  | 0 => hi
  | j + 1 => by
    have ih := stp_gone ho hi j
    intro b hb
    rw [← Nat.add_assoc, stp] at hb
    split at hb
    · rcases List.mem_append.mp hb with hb | hb
      · exact ih b hb
      · rw [List.mem_singleton.mp hb]; simp only; omega
    · split at hb
      · exact ih b (drop_sub b hb)
      · exact ih b hb
theorem out_next {ps : List PL} {n : Nat} (h : stp ps n ≠ []) (h2 : stp ps (n + 1) ≠ []) : out1 (stp ps (n + 1)) = out1 (stp ps n) := by
  rw [stp] at h2 ⊢
  cases hs : stp ps n with
  | nil => exact absurd hs h
  | cons c q =>
    rw [hs] at h2
    split
    · rfl
    · rename_i h3
      rw [if_neg h3] at h2
      split
      · rename_i h4
        rw [if_pos h4] at h2
        cases q with
        | nil => simp at h2
        | cons d q => rfl
      · rfl
theorem stp_span {ps : List PL} {o : Nat} : ∀ (j i : Nat), o ≤ i → (∃ b ∈ stp ps i, b.1 = o) → (∃ b ∈ stp ps (i + j), b.1 = o) → out1 (stp ps (i + j)) = out1 (stp ps i)
  | 0, i, _, _, _ => rfl
  | j + 1, i, ho, hi, hj => by
    have hm : ∃ b ∈ stp ps (i + 1), b.1 = o := by
      by_cases hm : ∃ b ∈ stp ps (i + 1), b.1 = o
      · exact hm
      · obtain ⟨b, hb, e⟩ := hj
        exact absurd e (stp_gone (ps := ps) (i := i + 1) (by omega) (fun c hc hce => hm ⟨c, hc, hce⟩) j b (by rw [show i + 1 + j = i + (j + 1) by omega]; exact hb))
    rw [show i + (j + 1) = (i + 1) + j by omega] at hj ⊢
    rw [stp_span j (i + 1) (by omega) hm hj]
    obtain ⟨b, hb, _⟩ := hi
    obtain ⟨c, hc, _⟩ := hm
    exact out_next (List.ne_nil_of_mem hb) (List.ne_nil_of_mem hc)
end Rt
end Go.Proofs.YthleadfkfnnadaaGreat
