/- Going on from a line, and the other way of an if: the program's links and the document's answer agree. -/
import Derived.Test.YthleadfkfnnadaaGreatFwC
import Derived.Test.YthleadfkfnnadaaGreatRefO
import Derived.Test.YthleadfkfnnadaaGreatRefW
namespace Go.Proofs.YthleadfkfnnadaaGreat
namespace Rt
def lkn (ps : List PL) : Nat → Lks
  | 0 => List.replicate (ps.length + 1) (0, 0)
  | n + 1 => lkStep (ps.length + 1) (lkn ps n) (placed (stk ps n) ((ps[n]?).getD zPL)) (n + 1)
theorem lkn_len (ps : List PL) : ∀ n, (lkn ps n).length = ps.length + 1
  | 0 => by simp [lkn]
  | n + 1 => by rw [lkn, lkStep_len, lkn_len ps n]
theorem nestLk_lkn {ps ls : List PL} (h : Nst ps ls) : ∀ f k, k + f = ps.length → nestLk (ps.length + 1) (ps.drop k) (k + 1) (stk ps k) (lkn ps k) = lkn ps ps.length
  | 0, k, hk => by
    have : k = ps.length := by omega
    subst this
    rw [List.drop_eq_nil_of_le (Nat.le_refl _), nestLk]
  | f + 1, k, hk => by
    have hkl : k < ps.length := by omega
    have hkd : kd ps k = ps[k].form.kind := kd_some (List.getElem?_eq_getElem hkl)
    have had := h.adm k hkl
    rw [hkd] at had
    have ih := nestLk_lkn h f (k + 1) (by omega)
    rw [List.drop_eq_getElem_cons hkl, nestLk, if_pos had]
    rw [stk, lkn, hkd, List.getElem?_eq_getElem hkl] at ih
    exact ih
theorem links_lkn {ps ls : List PL} (h : Nst ps ls) : linksOf ps = lkn ps ps.length := nestLk_lkn h ps.length 0 (by omega)
theorem lkAt_fst (lk : Lks) (o : Nat) (x q : Int) : (lkAt (lk.modify o (fun y => (y.1, x))) q).1 = (lkAt lk q).1 := by
  unfold lkAt
  split
  · rfl
  · rw [List.getElem?_modify]
    cases lk[q.toNat]? with
    | none => rfl
    | some y =>
      simp only [Option.map_eq_map, Option.map_some, Option.getD_some]
      split <;> rfl
theorem lkAt_one (lk : Lks) (o : Nat) (x : Int) (h : o < lk.length) : (lkAt (lk.modify o (fun y => (x, y.2))) (o : Int)).1 = x := by
  unfold lkAt
  rw [if_neg (by omega), List.getElem?_modify, Int.toNat_natCast, List.getElem?_eq_getElem h]
  simp
structure LkOK (ps : List PL) (n : Nat) : Prop where
  els : ∀ m, m < n → kd ps m = 6 → (lkAt (lkn ps n) ((inn (stp ps m)).1 : Nat)).1 = (m : Int) + 1
  noe : ∀ o : Nat, (lkAt (lkn ps n) o).1 = 0 ∨ ∃ m : Nat, m < n ∧ kd ps m = 6 ∧ (inn (stp ps m)).1 = o ∧ (lkAt (lkn ps n) o).1 = (m : Int) + 1
  cls : ∀ o : Nat, 1 ≤ o → o ≤ n → (kd ps (o - 1) = 3 ∨ kd ps (o - 1) = 5 ∨ kd ps (o - 1) = 7) → (∃ b ∈ stp ps n, b.1 = o) ∨ ∃ e : Nat, e < n ∧ kd ps e = 4 ∧ (inn (stp ps e)).1 = o ∧ (lkAt (lkn ps n) o).2 = (e : Int) + 1
  blk : ∀ b ∈ stk ps n, b.els = false → (lkAt (lkn ps n) (b.line : Nat)).1 = 0
theorem inn_split {L : List (Nat × Int)} (h : L ≠ []) : L = L.dropLast ++ [inn L] := by
  unfold inn
  rw [List.getLastD_eq_getLast?, List.getLast?_eq_some_getLast h]
  exact (List.dropLast_concat_getLast h).symm
theorem placed_op {ps ls : List PL} (h : Nst ps ls) {n : Nat} (hn : n < ps.length) (hk : kd ps n = 6 ∨ kd ps n = 4) : (placed (stk ps n) ((ps[n]?).getD zPL)).opener = ((inn (stp ps n)).1 : Nat) ∧ (placed (stk ps n) ((ps[n]?).getD zPL)).form.kind = kd ps n := by
  have hne : stk ps n ≠ [] := fun e => adm_in h hn (by omega) ((stk_nil ps n).mp e)
  have hk' : ((ps[n]?).getD zPL).form.kind = 6 ∨ ((ps[n]?).getD zPL).form.kind = 4 := hk
  refine ⟨?_, placed_kind _ _⟩
  unfold placed
  rw [if_neg hne, if_pos hk', ← stk_last]
theorem stk_lt {ps ls : List PL} (h : Nst ps ls) {n : Nat} (hn : n ≤ ps.length) (hne : stk ps n ≠ []) : ∀ b ∈ (stk ps n).dropLast, b ∈ stk ps n ∧ b.line < (inn (stp ps n)).1 := by
  intro b hb
  have hp := (stp_ok h n hn).inc
  have hne' : stp ps n ≠ [] := fun e => hne ((stk_nil ps n).mpr e)
  rw [inn_split hne', List.map_append, List.pairwise_append] at hp
  refine ⟨List.dropLast_subset _ hb, ?_⟩
  have hm : (b.line, b.kind) ∈ (stp ps n).dropLast := by
    rw [← stk_stp, ← List.map_dropLast]
    exact List.mem_map.mpr ⟨b, hb, rfl⟩
  exact hp.2.2 b.line (List.mem_map.mpr ⟨_, hm, rfl⟩) _ (by simp)
theorem lk_ok {ps ls : List PL} (h : Nst ps ls) : ∀ n, n ≤ ps.length → LkOK ps n
  | 0, _ => ⟨fun m hm => by omega, fun o => Or.inl (by
      unfold lkn lkAt
      rw [if_neg (by omega), List.getElem?_replicate]
      split <;> rfl), fun o h1 h2 => by omega, fun b hb => by simp [stk] at hb⟩
  | n + 1, hn => by
    have ih := lk_ok h n (by omega)
    have hlen := lkn_len ps n
    have hok := stp_ok h n (by omega)
    have hnl : n < ps.length := by omega
    by_cases h6 : kd ps n = 6
    · have hne := adm_in h hnl (show ¬ (kd ps n = 0 ∨ kd ps n = 1 ∨ kd ps n = 2 ∨ kd ps n = 3) by omega)
      have hne' : stk ps n ≠ [] := fun e => hne ((stk_nil ps n).mp e)
      obtain ⟨b1, b2, b3⟩ := hok.each _ (inn_mem hne)
      obtain ⟨p1, p2⟩ := placed_op h hnl (Or.inl h6)
      have hst : stp ps (n + 1) = stp ps n := by rw [stp, if_neg (by omega), if_neg (by omega)]
      have hlk : lkn ps (n + 1) = (lkn ps n).modify (inn (stp ps n)).1 (fun y => ((n : Int) + 1, y.2)) := by
        rw [lkn, lkStep, p1, if_pos (by omega), p2, if_pos h6]
        rfl
      have h0 : (lkAt (lkn ps n) ((inn (stp ps n)).1 : Nat)).1 = 0 := by
        have hl := stk_last ps n
        have := ih.blk (lastOr (stk ps n)) (by rw [last_or hne']; exact List.getLast_mem hne') (adm_els h hnl h6).2
        rw [← hl]
        exact this
      refine ⟨fun m hm hk => ?_, fun o => ?_, fun o h1 h2 h3 => ?_, fun b hb he => ?_⟩
      · rw [hlk]
        by_cases e : m = n
        · subst e; exact lkAt_one _ _ _ (by omega)
        · have := ih.els m (by omega) hk
          by_cases e2 : (inn (stp ps m)).1 = (inn (stp ps n)).1
          · rw [e2, h0] at this; omega
          · rw [lkAt_other _ _ _ _ (by omega) (by omega)]; exact this
      · rw [hlk]
        by_cases e : o = (inn (stp ps n)).1
        · subst e
          exact Or.inr ⟨n, by omega, h6, rfl, lkAt_one _ _ _ (by omega)⟩
        · rw [lkAt_other _ _ _ _ (by omega) (by omega)]
          rcases ih.noe o with h' | ⟨m, m1, m2, m3, m4⟩
          · exact Or.inl h'
          · exact Or.inr ⟨m, by omega, m2, m3, m4⟩
      · rw [hlk, lkAt_els, hst]
        by_cases e : o = n + 1
        · subst e
          rw [Nat.add_sub_cancel] at h3
          omega
        · rcases ih.cls o h1 (by omega) h3 with h' | ⟨m, m1, m2, m3, m4⟩
          · exact Or.inl h'
          · exact Or.inr ⟨m, by omega, m2, m3, m4⟩
      · rw [stk] at hb
        unfold passed at hb
        rw [if_neg (by omega), if_pos h6, if_neg hne'] at hb
        rcases List.mem_append.mp hb with hb | hb
        · obtain ⟨c1, c2⟩ := stk_lt h (by omega) hne' b hb
          rw [hlk, lkAt_other _ _ _ _ (by omega) (by omega)]
          exact ih.blk b c1 he
        · rw [List.mem_singleton.mp hb] at he; cases he
    · by_cases h4 : kd ps n = 4
      · have hne := adm_in h hnl (show ¬ (kd ps n = 0 ∨ kd ps n = 1 ∨ kd ps n = 2 ∨ kd ps n = 3) by omega)
        have hne' : stk ps n ≠ [] := fun e => hne ((stk_nil ps n).mp e)
        obtain ⟨b1, b2, b3⟩ := hok.each _ (inn_mem hne)
        obtain ⟨p1, p2⟩ := placed_op h hnl (Or.inr h4)
        have hst : stp ps (n + 1) = (stp ps n).dropLast := by rw [stp, if_neg (by omega), if_pos h4]
        have hlk : lkn ps (n + 1) = (lkn ps n).modify (inn (stp ps n)).1 (fun y => (y.1, (n : Int) + 1)) := by
          rw [lkn, lkStep, p1, if_pos (by omega), p2, if_neg h6, if_pos h4]
          rfl
        refine ⟨fun m hm hk => ?_, fun o => ?_, fun o h1 h2 h3 => ?_, fun b hb he => ?_⟩
        · rw [hlk, lkAt_fst]
          have : m ≠ n := fun e => by subst e; omega
          exact ih.els m (by omega) hk
        · rw [hlk, lkAt_fst]
          rcases ih.noe o with h' | ⟨m, m1, m2, m3, m4⟩
          · exact Or.inl h'
          · exact Or.inr ⟨m, by omega, m2, m3, m4⟩
        · rw [hlk, hst]
          by_cases e : o = (inn (stp ps n)).1
          · subst e
            exact Or.inr ⟨n, by omega, h4, rfl, lkAt_end _ _ _ (by omega)⟩
          · rw [lkAt_other _ _ _ _ (by omega) (by omega)]
            have : o ≠ n + 1 := fun e => by subst e; rw [Nat.add_sub_cancel] at h3; omega
            rcases ih.cls o h1 (by omega) h3 with ⟨b, hb, hbo⟩ | ⟨m, m1, m2, m3, m4⟩
            · refine Or.inl ⟨b, ?_, hbo⟩
              rw [inn_split hne] at hb
              rcases List.mem_append.mp hb with hb | hb
              · exact hb
              · rw [List.mem_singleton.mp hb] at hbo; exact absurd hbo.symm e
            · exact Or.inr ⟨m, by omega, m2, m3, m4⟩
        · rw [stk] at hb
          unfold passed at hb
          rw [if_neg (by omega), if_neg h6, if_pos h4] at hb
          rw [hlk, lkAt_fst]
          exact ih.blk b (List.dropLast_subset _ hb) he
      · have hlk : lkn ps (n + 1) = lkn ps n := by
          rw [lkn, lkStep, placed_kind]
          have e : ((ps[n]?).getD zPL).form.kind = kd ps n := rfl
          rw [e, if_neg h6, if_neg h4]
          split <;> rfl
        by_cases h3 : kd ps n = 3 ∨ kd ps n = 5 ∨ kd ps n = 7
        · have hst : stp ps (n + 1) = stp ps n ++ [(n + 1, kd ps n)] := by rw [stp, if_pos h3]
          refine ⟨fun m hm hk => ?_, fun o => ?_, fun o h1 h2 h3' => ?_, fun b hb he => ?_⟩
          · rw [hlk]
            have : m ≠ n := fun e => by subst e; omega
            exact ih.els m (by omega) hk
          · rw [hlk]
            rcases ih.noe o with h' | ⟨m, m1, m2, m3, m4⟩
            · exact Or.inl h'
            · exact Or.inr ⟨m, by omega, m2, m3, m4⟩
          · rw [hlk, hst]
            by_cases e : o = n + 1
            · subst e
              exact Or.inl ⟨(n + 1, kd ps n), by simp, rfl⟩
            · rcases ih.cls o h1 (by omega) h3' with ⟨b, hb, hbo⟩ | ⟨m, m1, m2, m3, m4⟩
              · exact Or.inl ⟨b, List.mem_append_left _ hb, hbo⟩
              · exact Or.inr ⟨m, by omega, m2, m3, m4⟩
          · rw [stk] at hb
            unfold passed at hb
            rw [if_pos h3] at hb
            rw [hlk]
            rcases List.mem_append.mp hb with hb | hb
            · exact ih.blk b hb he
            · rw [List.mem_singleton.mp hb]
              rcases ih.noe (n + 1) with h' | ⟨m, m1, m2, m3, m4⟩
              · exact h'
              · exfalso
                have hne := adm_in h (show m < ps.length by omega) (show ¬ (kd ps m = 0 ∨ kd ps m = 1 ∨ kd ps m = 2 ∨ kd ps m = 3) by omega)
                have := (stp_ok h m (by omega)).each _ (inn_mem hne)
                omega
        · have hst : stp ps (n + 1) = stp ps n := by rw [stp, if_neg h3, if_neg h4]
          have hsk : stk ps (n + 1) = stk ps n := by rw [stk]; unfold passed; rw [if_neg h3, if_neg h6, if_neg h4]
          refine ⟨fun m hm hk => ?_, fun o => ?_, fun o h1 h2 h3' => ?_, fun b hb he => ?_⟩
          · rw [hlk]
            have : m ≠ n := fun e => by subst e; omega
            exact ih.els m (by omega) hk
          · rw [hlk]
            rcases ih.noe o with h' | ⟨m, m1, m2, m3, m4⟩
            · exact Or.inl h'
            · exact Or.inr ⟨m, by omega, m2, m3, m4⟩
          · rw [hlk, hst]
            by_cases e : o = n + 1
            · subst e
              rw [Nat.add_sub_cancel] at h3'
              exact absurd h3' h3
            · rcases ih.cls o h1 (by omega) h3' with h' | ⟨m, m1, m2, m3, m4⟩
              · exact Or.inl h'
              · exact Or.inr ⟨m, by omega, m2, m3, m4⟩
          · rw [hsk] at hb
            rw [hlk]
            exact ih.blk b hb he
end Rt
end Go.Proofs.YthleadfkfnnadaaGreat
namespace Go.Proofs.YthleadfkfnnadaaGreat
open Go.RowKit
namespace Rt
theorem wrap_nat (n : Nat) (h : n ≤ 1000) : wrap64 (n : Int) = n := IntWalk.wrap64_in _ (by omega)
theorem ln_at {ps pls : List PL} (h : Nst ps pls) {n : Nat} (hn : n < ps.length) : lnAt pls ((n : Int) + 1) = placed (stk ps n) ps[n] := by
  have := h.placed n ps[n] (List.getElem?_eq_getElem hn)
  rw [lnAt, if_neg (by omega), show ((n : Int) + 1).toNat = n + 1 by omega, this]
  rfl
theorem kd_lt {ps : List PL} {n : Nat} (hn : n < ps.length) : kd ps n = ps[n].form.kind := kd_some (List.getElem?_eq_getElem hn)
theorem ln_form {ps pls : List PL} (h : Nst ps pls) {n : Nat} (hn : n < ps.length) : (lnAt pls ((n : Int) + 1)).form = ps[n].form := by rw [ln_at h hn, (placed_same _ _).2]
theorem ln_kind {ps pls : List PL} (h : Nst ps pls) {n : Nat} (hn : n < ps.length) : (lnAt pls ((n : Int) + 1)).form.kind = kd ps n := by rw [ln_form h hn, kd_lt hn]
theorem form_at {ps pls : List PL} (h : Nst ps pls) {n : Nat} (hn : n < ps.length) : formAt pls ((n : Int) + 1) = ps[n].form := by
  have := h.placed n ps[n] (List.getElem?_eq_getElem hn)
  rw [formAt, if_neg (by omega), show ((n : Int) + 1).toNat = n + 1 by omega, this]
  exact (placed_same _ _).2
theorem ln_proc {ps pls : List PL} (h : Nst ps pls) {n : Nat} (hn : n < ps.length) (hne : stp ps n ≠ []) : (lnAt pls ((n : Int) + 1)).proc = ((out1 (stp ps n)).1 : Nat) := by
  have hne' : stk ps n ≠ [] := fun e => hne ((stk_nil ps n).mp e)
  rw [ln_at h hn, ← stk_first]
  unfold placed
  rw [if_neg hne']
  split <;> rfl
theorem ln_opener {ps pls : List PL} (h : Nst ps pls) {n : Nat} (hn : n < ps.length) (hk : kd ps n = 6 ∨ kd ps n = 4) : (lnAt pls ((n : Int) + 1)).opener = ((inn (stp ps n)).1 : Nat) := by
  have := (placed_op h hn hk).1
  rw [List.getElem?_eq_getElem hn] at this
  rw [ln_at h hn]
  exact this
theorem inn_is {ps pls : List PL} (h : Nst ps pls) {n : Nat} (hn : n < ps.length) (hne : stp ps n ≠ []) : 1 ≤ (inn (stp ps n)).1 ∧ (inn (stp ps n)).1 ≤ n ∧ kd ps ((inn (stp ps n)).1 - 1) = (inn (stp ps n)).2 ∧ ((inn (stp ps n)).2 = 3 ∨ (inn (stp ps n)).2 = 5 ∨ (inn (stp ps n)).2 = 7) := by
  have hok := stp_ok h n (by omega)
  obtain ⟨a, b, c⟩ := hok.each _ (inn_mem hne)
  refine ⟨a, b, c, ?_⟩
  cases hs : stp ps n with
  | nil => exact absurd hs hne
  | cons d q =>
    obtain ⟨h1, h2⟩ := hok.head d q hs
    have hm := inn_mem hne
    rw [hs] at hm
    rcases List.mem_cons.mp hm with e | hm
    · exact Or.inl (by rw [e]; exact h1)
    · exact Or.inr (h2 _ hm)
theorem shut_in {ps pls : List PL} (h : Nst ps pls) {e : Nat} (he : e < ps.length) (hk : kd ps e = 4) (h3 : (inn (stp ps e)).2 ≠ 3) : stp ps (e + 1) ≠ [] ∧ out1 (stp ps (e + 1)) = out1 (stp ps e) := by
  have hne := adm_in h he (show ¬ (kd ps e = 0 ∨ kd ps e = 1 ∨ kd ps e = 2 ∨ kd ps e = 3) by omega)
  have hst : stp ps (e + 1) = (stp ps e).dropLast := by rw [stp, if_neg (by omega), if_pos hk]
  have hne2 : stp ps (e + 1) ≠ [] := by
    rw [hst]
    intro e1
    have hs := inn_split hne
    rw [e1, List.nil_append] at hs
    exact h3 ((stp_ok h e (by omega)).head _ [] hs).1
  exact ⟨hne2, out_next hne hne2⟩
theorem end_after {ps pls : List PL} (h : Nst ps pls) {o n e : Nat} (ho : ∃ b ∈ stp ps n, b.1 = o) (he : e < ps.length) (hk : kd ps e = 4) (hi : (inn (stp ps e)).1 = o) : n ≤ e := by
  by_cases hlt : n ≤ e
  · exact hlt
  · exfalso
    have hne := adm_in h he (show ¬ (kd ps e = 0 ∨ kd ps e = 1 ∨ kd ps e = 2 ∨ kd ps e = 3) by omega)
    have hst : stp ps (e + 1) = (stp ps e).dropLast := by rw [stp, if_neg (by omega), if_pos hk]
    have hp := (stp_ok h e (by omega)).inc
    rw [inn_split hne, List.map_append, List.pairwise_append] at hp
    have hb := (inn_is h he hne).2.1
    have hgone := stp_gone (ps := ps) (o := o) (i := e + 1) (by omega) (fun b hb => by
      rw [hst] at hb
      have := hp.2.2 b.1 (List.mem_map.mpr ⟨b, hb, rfl⟩) (inn (stp ps e)).1 (by simp)
      omega) (n - (e + 1))
    rw [show e + 1 + (n - (e + 1)) = n by omega] at hgone
    obtain ⟨b, hb1, hb2⟩ := ho
    exact hgone b hb1 hb2
theorem closes {ps pls : List PL} (h : Nst ps pls) {o : Nat} (ho : o < ps.length) (hk : kd ps o = 3 ∨ kd ps o = 5 ∨ kd ps o = 7) : ∃ e : Nat, o < e ∧ e < ps.length ∧ kd ps e = 4 ∧ (inn (stp ps e)).1 = o + 1 ∧ (inn (stp ps e)).2 = kd ps o ∧ (lkAt (linksOf ps) ((o : Int) + 1)).2 = (e : Int) + 1 := by
  have hl := lk_ok h ps.length (Nat.le_refl _)
  rw [links_lkn h]
  rcases hl.cls (o + 1) (by omega) (by omega) (by rw [Nat.add_sub_cancel]; exact hk) with ⟨b, hb, _⟩ | ⟨e, e1, e2, e3, e4⟩
  · rw [show stp ps ps.length = [] from (stk_nil ps _).mp h.shut] at hb
    simp at hb
  · have hne := adm_in h e1 (show ¬ (kd ps e = 0 ∨ kd ps e = 1 ∨ kd ps e = 2 ∨ kd ps e = 3) by omega)
    obtain ⟨i1, i2, i3, _⟩ := inn_is h e1 hne
    rw [e3, Nat.add_sub_cancel] at i3
    exact ⟨e, by omega, e1, e2, e3, i3.symm, by rw [← e4]; rfl⟩
theorem opened {ps : List PL} {o : Nat} (hk : kd ps o = 3 ∨ kd ps o = 5 ∨ kd ps o = 7) : stp ps (o + 1) = stp ps o ++ [(o + 1, kd ps o)] := by rw [stp, if_pos hk]
theorem out_app {L : List (Nat × Int)} {x : Nat × Int} (h : L ≠ []) : out1 (L ++ [x]) = out1 L := by
  cases L with
  | nil => exact absurd rfl h
  | cons a r => rfl
theorem behind_in {ps pls : List PL} (h : Nst ps pls) {o e : Nat} (ho : o < ps.length) (hk : kd ps o = 5 ∨ kd ps o = 7) (he : e < ps.length) (hi : (inn (stp ps e)).1 = o + 1) (hne : stp ps e ≠ []) : out1 (stp ps e) = out1 (stp ps o) ∧ stp ps o ≠ [] := by
  have hop := opened (ps := ps) (o := o) (Or.inr hk)
  have hne0 := adm_in h ho (show ¬ (kd ps o = 0 ∨ kd ps o = 1 ∨ kd ps o = 2 ∨ kd ps o = 3) by omega)
  obtain ⟨i1, i2, i3, _⟩ := inn_is h he hne
  have hs := stp_span (ps := ps) (o := o + 1) (e - (o + 1)) (o + 1) (Nat.le_refl _) ⟨(o + 1, kd ps o), by rw [hop]; simp, rfl⟩ ⟨inn (stp ps e), by rw [show o + 1 + (e - (o + 1)) = e by omega]; exact inn_mem hne, hi⟩
  rw [show o + 1 + (e - (o + 1)) = e by omega, hop, out_app hne0] at hs
  exact ⟨hs, hne0⟩
theorem stop_not {ps pls : List PL} (h : Nst ps pls) {n : Nat} (hn : n < ps.length) (hs : isStopP pls (lnAt pls ((n : Int) + 1)) = false) : stopKind (kd ps n) = false ∧ (kd ps n = 4 → (inn (stp ps n)).2 ≠ 3) := by
  unfold isStopP at hs
  rw [ln_kind h hn] at hs
  cases hsk : stopKind (kd ps n) with
  | true => rw [hsk, if_pos rfl] at hs; cases hs
  | false =>
    refine ⟨rfl, fun h4 e => ?_⟩
    have hne := adm_in h hn (show ¬ (kd ps n = 0 ∨ kd ps n = 1 ∨ kd ps n = 2 ∨ kd ps n = 3) by omega)
    obtain ⟨i1, i2, i3, _⟩ := inn_is h hn hne
    rw [hsk, if_neg (by simp), if_pos h4, ln_opener h hn (Or.inr h4)] at hs
    have hf := form_at h (n := (inn (stp ps n)).1 - 1) (by omega)
    rw [show (((inn (stp ps n)).1 - 1 : Nat) : Int) + 1 = ((inn (stp ps n)).1 : Nat) by omega] at hf
    rw [hf, ← kd_lt, i3, e] at hs
    simp at hs
theorem go_in {ps pls : List PL} (h : Nst ps pls) (hl : ps.length ≤ 100) : ∀ (f n : Nat), n ≤ ps.length → ps.length < f + n → stp ps n ≠ [] → ∃ l : Nat, goOn pls (linksOf ps) f ((n : Int) + 1) = (l : Int) + 1 ∧ l < ps.length ∧ isStopP pls (lnAt pls ((l : Int) + 1)) = true ∧ stp ps l ≠ [] ∧ out1 (stp ps l) = out1 (stp ps n)
  | 0, n, hn, hf, _ => by omega
  | f + 1, n, hn, hf, hne => by
    have hnl : n < ps.length := by
      by_cases e : n = ps.length
      · rw [e] at hne; exact absurd ((stk_nil ps _).mp h.shut) hne
      · omega
    rw [goOn, if_pos (by rw [h.len]; omega)]
    by_cases hs : isStopP pls (lnAt pls ((n : Int) + 1)) = true
    · rw [if_pos hs]
      exact ⟨n, rfl, hnl, hs, hne, rfl⟩
    · rw [if_neg hs, ln_kind h hnl]
      obtain ⟨s1, s2⟩ := stop_not h hnl (by simpa using hs)
      by_cases h4 : kd ps n = 4
      · obtain ⟨i1, i2, i3, i4⟩ := inn_is h hnl hne
        rw [ln_opener h hnl (Or.inr h4)]
        have hfm := form_at h (n := (inn (stp ps n)).1 - 1) (by omega)
        rw [show (((inn (stp ps n)).1 - 1 : Nat) : Int) + 1 = ((inn (stp ps n)).1 : Nat) by omega] at hfm
        rw [hfm, ← kd_lt, i3]
        by_cases h7 : (inn (stp ps n)).2 = 7
        · rw [if_pos ⟨h4, h7⟩]
          obtain ⟨b1, b2⟩ := behind_in h (o := (inn (stp ps n)).1 - 1) (e := n) (by omega) (Or.inr (by rw [i3, h7])) hnl (by omega) hne
          refine ⟨(inn (stp ps n)).1 - 1, by omega, by omega, ?_, b2, b1.symm⟩
          unfold isStopP
          rw [ln_kind h (by omega), i3, h7]
          rfl
        · rw [if_neg (fun e => h7 e.2), if_neg (by omega)]
          obtain ⟨c1, c2⟩ := shut_in h hnl h4 (s2 h4)
          rw [show wrap64 ((n : Int) + 1 + 1) = ((n + 1 : Nat) : Int) + 1 by have := wrap_nat (n + 2) (by omega); rw [show ((n : Int) + 1 + 1) = ((n + 2 : Nat) : Int) by omega, this]; omega]
          obtain ⟨l, l1, l2, l3, l4, l5⟩ := go_in h hl f (n + 1) (by omega) (by omega) c1
          exact ⟨l, l1, l2, l3, l4, l5.trans c2⟩
      · rw [if_neg (fun e => h4 e.1)]
        by_cases h6 : kd ps n = 6
        · rw [if_pos h6, ln_opener h hnl (Or.inl h6)]
          obtain ⟨i1, i2, i3, i4⟩ := inn_is h hnl hne
          have h5 := (adm_els h hnl h6).1
          obtain ⟨e, e1, e2, e3, e4, e5, e6⟩ := closes h (o := (inn (stp ps n)).1 - 1) (by omega) (by rw [i3, h5]; exact Or.inr (Or.inl rfl))
          rw [show (((inn (stp ps n)).1 - 1 : Nat) : Int) + 1 = ((inn (stp ps n)).1 : Nat) by omega] at e6
          rw [e6, show wrap64 ((e : Int) + 1 + 1) = ((e + 1 : Nat) : Int) + 1 by have := wrap_nat (e + 2) (by omega); rw [show ((e : Int) + 1 + 1) = ((e + 2 : Nat) : Int) by omega, this]; omega]
          have hee : (inn (stp ps e)).1 = (inn (stp ps n)).1 := by omega
          have hle := end_after h ⟨inn (stp ps n), inn_mem hne, rfl⟩ e2 e3 hee
          have hnee := adm_in h e2 (show ¬ (kd ps e = 0 ∨ kd ps e = 1 ∨ kd ps e = 2 ∨ kd ps e = 3) by omega)
          obtain ⟨c1, c2⟩ := shut_in h e2 e3 (by rw [e5, i3, h5]; decide)
          obtain ⟨b1, _⟩ := behind_in h (o := (inn (stp ps n)).1 - 1) (e := n) (by omega) (Or.inl (by rw [i3, h5])) hnl (by omega) hne
          obtain ⟨d1, _⟩ := behind_in h (o := (inn (stp ps n)).1 - 1) (e := e) (by omega) (Or.inl (by rw [i3, h5])) e2 (by omega) hnee
          obtain ⟨l, l1, l2, l3, l4, l5⟩ := go_in h hl f (e + 1) (by omega) (by omega) c1
          exact ⟨l, l1, l2, l3, l4, l5.trans (c2.trans (d1.trans b1.symm))⟩
        · rw [if_neg h6]
          have h123 : ¬ (kd ps n = 1 ∨ kd ps n = 2 ∨ kd ps n = 3) := fun e => hne (adm_out h hnl e)
          have h57 : ¬ kd ps n = 5 ∧ ¬ kd ps n = 7 := by
            constructor
            · intro e; rw [e] at s1; cases s1
            · intro e; rw [e] at s1; cases s1
          have hst : stp ps (n + 1) = stp ps n := by rw [stp, if_neg (by omega), if_neg h4]
          rw [show wrap64 ((n : Int) + 1 + 1) = ((n + 1 : Nat) : Int) + 1 by have := wrap_nat (n + 2) (by omega); rw [show ((n : Int) + 1 + 1) = ((n + 2 : Nat) : Int) by omega, this]; omega]
          obtain ⟨l, l1, l2, l3, l4, l5⟩ := go_in h hl f (n + 1) (by omega) (by omega) (by rw [hst]; exact hne)
          exact ⟨l, l1, l2, l3, l4, by rw [l5, hst]⟩
end Rt
namespace Rf
open Rt
theorem both_ln {pls : List PL} {ls : List (List ByteArray)} (h : Both pls ls) {l : Nat} (hl : l < ls.length) : RelN ls l (lnAt pls ((l : Int) + 1)) ls[l] := by
  obtain ⟨p, h1, h2⟩ := h.get hl
  rw [lnAt, if_neg (by omega), show ((l : Int) + 1).toNat = l + 1 by omega, h1]
  exact h2
theorem both_len {ps pls : List PL} {ls : List (List ByteArray)} (h : Nst ps pls) (hb : Both pls ls) : ps.length = ls.length := by
  have := h.len
  have := hb.len
  omega
theorem open_eq {ps pls : List PL} {ls : List (List ByteArray)} (h : Nst ps pls) (hb : Both pls ls) {n : Nat} (hn : n < ps.length) (hk : kd ps n = 6 ∨ kd ps n = 4) : openerFrom ls n 1 = (inn (stp ps n)).1 := by
  have hl : n < ls.length := by rw [← both_len h hb]; exact hn
  have hr := both_ln hb hl
  have ho := ln_opener h hn hk
  have hi := idx_cases (lnAt pls ((n : Int) + 1)).form.kind
  rw [ln_kind h hn] at hi
  have hk' := ln_kind h hn
  rcases hk with hk | hk
  · have := hr.els (by rw [hk']; exact hi.2.2.2.2.2.2.1.mpr hk)
    omega
  · have := hr.opener (by rw [hk']; exact hi.2.2.2.2.2.2.2.mpr hk)
    omega
theorem hf_at {ps pls : List PL} {ls : List (List ByteArray)} (h : Nst ps pls) (hb : Both pls ls) {n : Nat} (hn : n < ls.length) : HF (first ls[n]) (idx (kd ps n)) := by
  have := kind_hf (both_ln hb hn).line
  rw [ln_kind h (by rw [both_len h hb]; exact hn)] at this
  exact this
theorem closer_eq {ps pls : List PL} {ls : List (List ByteArray)} (h : Nst ps pls) (hb : Both pls ls) {o e : Nat} (he : e < ps.length) (hk : kd ps e = 4) (hi : (inn (stp ps e)).1 = o + 1) : closer ls o = e + 1 := by
  have hl : e < ls.length := by rw [← both_len h hb]; exact he
  have ho := open_eq h hb he (Or.inr hk)
  rw [hi] at ho
  have hc := closer_of e 1 o (by omega) (by omega) ho
  have hF := hf_at h hb hl
  have h7 : idx (kd ps e) = 7 := by rw [hk]; rfl
  rw [h7] at hF
  have := closer_i hl hF (ls.length - e - 1) ((1 : Nat) : Int)
  rw [show ls.length - e - 1 + 1 = ls.length - e by omega, if_pos rfl, if_pos (by omega)] at this
  rw [hc, this]
theorem goes_eq {ps pls : List PL} {ls : List (List ByteArray)} (h : Nst ps pls) (hb : Both pls ls) (hlen : ls.length ≤ 100) : ∀ (f k : Nat), k ≤ ls.length → goOn pls (linksOf ps) f ((k : Int) + 1) = (goesFrom ls f k : Nat)
  | 0, k, _ => rfl
  | f + 1, k, hk => by
    have hpl := both_len h hb
    rw [goOn, goesFrom]
    by_cases hkl : k < ls.length
    · rw [if_pos (by rw [h.len]; omega), if_neg (show ¬ ls.length ≤ k by omega), lineAt_lt hkl]
      have hr := both_ln hb hkl
      have hs := stop_eq hb hkl hr
      have hn : k < ps.length := by omega
      obtain ⟨_, _, _, _, _, f5, f6, f7⟩ := hf_at h hb hkl
      obtain ⟨_, _, _, _, _, i5, i6, i7⟩ := idx_cases (kd ps k)
      have hw : wrap64 ((k : Int) + 1 + 1) = ((k + 1 : Nat) : Int) + 1 := by
        have := wrap_nat (k + 2) (by omega)
        rw [show ((k : Int) + 1 + 1) = ((k + 2 : Nat) : Int) by omega, this]
        omega
      rw [hs, ln_kind h hn, hw]
      by_cases hst : stopB ls k ls[k] = true
      · rw [if_pos hst, if_pos hst]; rfl
      · rw [if_neg hst, if_neg hst, f6, f7]
        by_cases h6 : kd ps k = 6
        · rw [if_neg (by omega), if_pos h6, if_pos (decide_eq_true (i6.mpr h6)), ln_opener h hn (Or.inl h6), open_eq h hb hn (Or.inl h6)]
          have hne := adm_in h hn (show ¬ (kd ps k = 0 ∨ kd ps k = 1 ∨ kd ps k = 2 ∨ kd ps k = 3) by omega)
          obtain ⟨j1, j2, j3, _⟩ := inn_is h hn hne
          have h5 := (adm_els h hn h6).1
          obtain ⟨e, e1, e2, e3, e4, e5, e6⟩ := closes h (o := (inn (stp ps k)).1 - 1) (by omega) (by rw [j3, h5]; exact Or.inr (Or.inl rfl))
          rw [show (((inn (stp ps k)).1 - 1 : Nat) : Int) + 1 = ((inn (stp ps k)).1 : Nat) by omega] at e6
          rw [closer_eq h hb e2 e3 e4, e6, show wrap64 ((e : Int) + 1 + 1) = ((e + 1 : Nat) : Int) + 1 by have := wrap_nat (e + 2) (by omega); rw [show ((e : Int) + 1 + 1) = ((e + 2 : Nat) : Int) by omega, this]; omega]
          exact goes_eq h hb hlen f (e + 1) (by omega)
        · have n6 : ¬ decide (idx (kd ps k) = 6) = true := fun e => h6 (i6.mp (of_decide_eq_true e))
          rw [if_neg n6]
          by_cases h4 : kd ps k = 4
          · have hne := adm_in h hn (show ¬ (kd ps k = 0 ∨ kd ps k = 1 ∨ kd ps k = 2 ∨ kd ps k = 3) by omega)
            obtain ⟨j1, j2, j3, _⟩ := inn_is h hn hne
            have hol : (inn (stp ps k)).1 - 1 < ls.length := by omega
            obtain ⟨_, _, _, _, _, g5, _⟩ := hf_at h hb hol
            obtain ⟨_, _, _, _, _, i5', _⟩ := idx_cases (kd ps ((inn (stp ps k)).1 - 1))
            rw [ln_opener h hn (Or.inr h4), open_eq h hb hn (Or.inr h4), if_pos (decide_eq_true (i7.mpr h4)), lineAt_lt hol, g5]
            have hfm := form_at h (n := (inn (stp ps k)).1 - 1) (by omega)
            rw [show (((inn (stp ps k)).1 - 1 : Nat) : Int) + 1 = ((inn (stp ps k)).1 : Nat) by omega] at hfm
            rw [hfm, ← kd_lt]
            by_cases h7 : kd ps ((inn (stp ps k)).1 - 1) = 7
            · rw [if_pos ⟨h4, h7⟩, if_pos (decide_eq_true (i5'.mpr h7))]
            · rw [if_neg (fun e => h7 e.2), if_neg h6, if_neg (fun e => h7 (i5'.mp (of_decide_eq_true e)))]
              exact goes_eq h hb hlen f (k + 1) (by omega)
          · rw [if_neg (fun e => h4 e.1), if_neg h6, if_neg (fun e => h4 (i7.mp (of_decide_eq_true e)))]
            exact goes_eq h hb hlen f (k + 1) (by omega)
    · rw [if_neg (by rw [h.len]; omega), if_pos (show ls.length ≤ k by omega)]; rfl
theorem goes_fuel {ls : List (List ByteArray)} (hn : nested ls = 0) : ∀ (f g k : Nat), ls.length < f + k → ls.length < g + k → k ≤ ls.length → goesFrom ls f k = goesFrom ls g k
  | 0, g, k, hf, _, _ => by omega
  | f + 1, 0, k, _, hg, _ => by omega
  | f + 1, g + 1, k, hf, hg, hk => by
    rw [goesFrom, goesFrom]
    by_cases hkl : ls.length ≤ k
    · rw [if_pos hkl, if_pos hkl]
    · rw [if_neg hkl, if_neg hkl]
      have hlt : k < ls.length := by omega
      rw [lineAt_lt hlt]
      by_cases hel : ((first ls[k]).toList == [101, 108, 115, 101]) = true
      · obtain ⟨o1, o2⟩ := else_in hn hlt hel
        have ob := openerFrom_b ls k 1
        have cb := closer_b ls (l := openerFrom ls k 1 - 1) (by omega)
        rw [if_pos hel, if_pos hel, goes_fuel hn f g _ (by omega) (by omega) cb]
      · rw [if_neg hel, if_neg hel, goes_fuel hn f g (k + 1) (by omega) (by omega) (by omega)]
theorem goOn_goes {ps pls : List PL} {ls : List (List ByteArray)} (h : Nst ps pls) (hb : Both pls ls) (hlen : ls.length ≤ 100) {k : Nat} (hk : k ≤ ls.length) : goOn pls (linksOf ps) 102 ((k : Int) + 1) = (goes ls k : Nat) := by
  rw [goes_eq h hb hlen 102 k hk, goes, goes_fuel hb.nested 102 (ls.length + 1 - k) k (by omega) (by omega) hk]
end Rf
end Go.Proofs.YthleadfkfnnadaaGreat
