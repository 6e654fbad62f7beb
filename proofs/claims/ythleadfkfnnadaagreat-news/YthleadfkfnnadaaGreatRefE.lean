/- The document's answer: names that may stand where they do. -/
import Derived.Test.YthleadfkfnnadaaGreatRefB9
namespace Go.Proofs.YthleadfkfnnadaaGreat
open Go.RowKit
def STy (t : TypeId) : Prop := t = 85 ∨ t = 87 ∨ t = 9
def TyAt (w : World) (k : Nat) (t : TypeId) : Prop := ∃ c, w.heap[k]? = some (.cells c t (0, 0))
structure SrcG (w : World) (S g cap : Nat) (ls : List (List ByteArray)) : Prop where
  top : w.cell? ⟨S, 0, none⟩ = some (.slice (some ⟨g, 0, none⟩) ls.length cap)
  row : ∀ l (h : l < ls.length), ∃ ad c, w.cell? ⟨g, l, none⟩ = some (.slice ad ls[l].length c) ∧ Strs w (.slice ad ls[l].length c) ls[l]
  ty : TyAt w S 85 ∧ TyAt w g 87
  tys : ∀ l v, w.cell? ⟨g, l, none⟩ = some v → l < ls.length → ∀ b, v.ownBlock = some b → TyAt w b 9
theorem cell_same {w w' : World} {k i : Nat} (h : w'.heap[k]? = w.heap[k]?) : w'.cell? ⟨k, i, none⟩ = w.cell? ⟨k, i, none⟩ := by
  unfold World.cell?
  simp only
  rw [h]
theorem SrcG.stay {w w' : World} {S g cap : Nat} {ls : List (List ByteArray)} (h : SrcG w S g cap ls) (hb : ∀ k t, STy t → TyAt w k t → w'.heap[k]? = w.heap[k]?) : SrcG w' S g cap ls := by
  have hS := hb S _ (Or.inl rfl) h.ty.1
  have hg := hb g _ (Or.inr (Or.inl rfl)) h.ty.2
  refine ⟨by rw [cell_same hS]; exact h.top, fun l hl => ?_, ⟨by unfold TyAt; rw [hS]; exact h.ty.1, by unfold TyAt; rw [hg]; exact h.ty.2⟩, fun l v hv hl b hbb => ?_⟩
  · obtain ⟨ad, c, h1, ad', c', e, hle, h2⟩ := h.row l hl
    refine ⟨ad, c, by rw [cell_same hg]; exact h1, ad', c', e, hle, ?_⟩
    rcases h2 with h2 | ⟨b, o, rfl, h2⟩
    · exact Or.inl h2
    · injection e with e1 _ _
      subst e1
      have := hb b _ (Or.inr (Or.inr rfl)) (h.tys l _ h1 hl b rfl)
      exact Or.inr ⟨b, o, rfl, fun j hj => by rw [cell_same this]; exact h2 j hj⟩
  · rw [cell_same hg] at hv
    have ht := h.tys l v hv hl b hbb
    unfold TyAt
    rw [hb b _ (Or.inr (Or.inr rfl)) ht]
    exact ht
theorem SrcG.later {w w' : World} {S g cap : Nat} {ls : List (List ByteArray)} (h : SrcG w S g cap ls) (hb : Below w.heap.size w w') : SrcG w' S g cap ls :=
  h.stay (fun k _ _ ⟨_, hc⟩ => hb.block k (block_lt hc))
structure Lawful (ls : List (List ByteArray)) : Prop where
  len : ls.length ≤ 100
  few : ∀ t ∈ ls, Few t
  top : ∀ t ∈ ls, Rf.topB t = true → 2 ≤ t.length
theorem Lawful.fewAt {ls : List (List ByteArray)} (h : Lawful ls) {l : Nat} (hl : l < ls.length) : Few ls[l] := h.few _ (List.getElem_mem hl)
set_option maxHeartbeats 1000000 in
set_option maxRecDepth 100000 in
theorem head_ref (w : World) (S g cap : Nat) (ls : List (List ByteArray)) (l : Nat) (h : SrcG w S g cap ls) (hl : l < ls.length) (hL : ls.length ≤ 100) :
    Calls Tryz.prog 45 #[.pointer (some ⟨S, 0, none⟩), .int .i64 ((l : Int) + 1)] w fun e w' => e = .returned (.string (Rf.first ls[l])) ∧ Below w.heap.size w w' := by
  have cT := h.top
  obtain ⟨ad, c, cR, hv⟩ := h.row l hl
  have hl' : (l : Int) < (ls.length : Int) := by omega
  have hw1 : IntKind.i64.wrap ((l : Int) + 1 - 1) = l := by rw [show (l : Int) + 1 - 1 = (l : Int) by omega]; exact IntWalk.i64_in _ ⟨by omega, by omega⟩
  have hw0 : IntKind.i64.wrap (l : Int) = l := IntWalk.i64_in _ ⟨by omega, by omega⟩
  clear h
  by_cases hz : ls[l].length = 0
  · have HE := hide (Rf.first_nil hz)
    have hz' : ((ls[l].length : Int) == 0) = true := by rw [beq_iff_eq]; omega
    clear hv
    generalize ls[l] = t at *
    go_enter Tryz.func45, Tryz.ntmps45
    go_wp2_with fail
    go_ret
    exact ⟨by rw [unhide HE]; rfl, Below.refl _ _⟩
  · have h0 : 0 < ls[l].length := by omega
    have HE := hide (Rf.first_lt h0)
    have hz' : ((ls[l].length : Int) == 0) = false := by rw [beq_eq_false_iff_ne]; omega
    obtain ⟨b, o, cap', he, cx⟩ := hv.cell h0
    simp at he
    obtain ⟨rfl, rfl⟩ := he
    rw [unhide HE]
    rw [Nat.add_zero] at cx
    clear hv HE
    generalize ls[l][0] = x at *
    generalize ls[l] = t at *
    have h0' : (0 : Int) < (t.length : Int) := by omega
    go_enter Tryz.func45, Tryz.ntmps45
    go_wp2_with fail
    go_ret
    exact ⟨rfl, Below.refl _ _⟩
namespace Rf
theorem top_cases (t : List ByteArray) : (topB t = true ∧ (((first t).toList == [118, 97, 114]) = true ∨ (((first t).toList == [118, 97, 114]) = false ∧ ((first t).toList == [97, 114, 114, 97, 121]) = true) ∨ (((first t).toList == [118, 97, 114]) = false ∧ ((first t).toList == [97, 114, 114, 97, 121]) = false ∧ ((first t).toList == [112, 114, 111, 99]) = true))) ∨
    (topB t = false ∧ ((first t).toList == [118, 97, 114]) = false ∧ ((first t).toList == [97, 114, 114, 97, 121]) = false ∧ ((first t).toList == [112, 114, 111, 99]) = false) := by
  unfold topB
  cases ((first t).toList == [118, 97, 114]) <;> cases ((first t).toList == [97, 114, 114, 97, 121]) <;> cases ((first t).toList == [112, 114, 111, 99]) <;> simp
theorem declFrom_step {ls : List (List ByteArray)} {x : ByteArray} {k : Nat} (h : k < ls.length) : declFrom (k + 1) (ls.drop k) x = if declAt ls[k] x = true then k + 1 else declFrom (k + 1 + 1) (ls.drop (k + 1)) x := by
  rw [List.drop_eq_getElem_cons h, declFrom]
end Rf
set_option maxHeartbeats 2000000 in
set_option maxRecDepth 100000 in
theorem opens_ref (w : World) (S g cap : Nat) (ls : List (List ByteArray)) (l : Nat) (h : SrcG w S g cap ls) (hl : l < ls.length) (hL : ls.length ≤ 100) :
    Calls Tryz.prog 46 #[.pointer (some ⟨S, 0, none⟩), .int .i64 ((l : Int) + 1)] w fun e w' => e = .returned (.bool (Rf.opensB ls[l])) ∧ Below w.heap.size w w' := by
  have HH := hide h
  clear h
  go_enter Tryz.func46, Tryz.ntmps46
  go_wp2_with fail
  refine (head_ref _ S g cap ls l (unhide HH) hl hL).mono ?_
  rintro e w1 ⟨rfl, hb1⟩
  have HB := hide hb1
  have HE := hide (show Rf.opensB ls[l] = (((Rf.first ls[l]).toList == [112, 114, 111, 99]) || ((Rf.first ls[l]).toList == [105, 102]) || ((Rf.first ls[l]).toList == [119, 104, 105, 108, 101])) from rfl)
  clear hb1
  generalize Rf.first ls[l] = x at *
  go_wp2_with fail
  all_goals
    go_ret
    exact ⟨by rw [unhide HE]; exact ret_bool (by simp_all), unhide HB⟩
set_option maxHeartbeats 2000000 in
set_option maxRecDepth 100000 in
theorem declared_ref (w : World) (S g cap : Nat) (ls : List (List ByteArray)) (x : ByteArray) (h : SrcG w S g cap ls) (hL : Lawful ls) :
    Calls Tryz.prog 84 #[.pointer (some ⟨S, 0, none⟩), .string x] w fun e w' => e = .returned (.int .i64 (Rf.decl ls x)) ∧ Below w.heap.size w w' := by
  have hlen := hL.len
  have HL := hide hL
  clear hL
  have cT := h.top
  go_enter Tryz.func84, Tryz.ntmps84
  go_wp2
  go_loopw [5] (fun i wr => ∃ k : Nat, k ≤ ls.length ∧ i = .int .i64 ((k : Int) + 1) ∧ Rf.declFrom (k + 1) (ls.drop k) x = Rf.decl ls x ∧ SrcG wr S g cap ls ∧ Below w.heap.size w wr) (fun i _ => ls.length + 1 - (intOf i).toNat)
  case atStart => exact ⟨0, Nat.zero_le _, rfl, rfl, h, Below.refl _ _⟩
  case round =>
    clear cT h
    obtain ⟨k, hk, rfl, hT, hs, hbe⟩ := hrel
    have cT := hs.top
    have HS := hide (And.intro hs hbe)
    by_cases hlt : k < ls.length
    · have hlt' : (k : Int) + 1 ≤ (ls.length : Int) := by omega
      rw [Rf.declFrom_step hlt] at hT
      have HT := hide hT
      clear hT hs hbe
      go_wp2_with fail
      refine (head_ref _ S g cap ls k (unhide HS).1 hlt hlen).mono ?_
      rintro e w1 ⟨rfl, hb1⟩
      have HS1 := hide (And.intro ((unhide HS).1.later hb1) ((unhide HS).2.trans (hb1.mono (unhide HS).2.size)))
      clear hb1 cT
      have cT := (unhide HS1).1.top
      obtain ⟨ad, c, cR, hv⟩ := (unhide HS1).1.row k hlt
      have hw1 : IntKind.i64.wrap ((k : Int) + 1 - 1) = k := by rw [show (k : Int) + 1 - 1 = (k : Int) by omega]; exact IntWalk.i64_in _ ⟨by omega, by omega⟩
      have hw0 : IntKind.i64.wrap (k : Int) = k := IntWalk.i64_in _ ⟨by omega, by omega⟩
      have hkl : (k : Int) < (ls.length : Int) := by omega
      rcases Rf.top_cases ls[k] with ⟨ht, hc⟩ | ⟨ht, c1, c2, c3⟩
      · have h2 := (unhide HL).top _ (List.getElem_mem hlt) ht
        obtain ⟨b, o, cap', he, cx⟩ := hv.cell (j := 1) (by omega)
        simp at he
        obtain ⟨rfl, rfl⟩ := he
        have HD := hide (show Rf.declAt ls[k] x = (ls[k][1].toList == x.toList) by rw [Rf.declAt, ht, Rf.at_lt (by omega)]; rfl)
        rw [unhide HD] at HT
        clear HD hv ht
        generalize ls[k][1] = y at *
        generalize Rf.first ls[k] = z at *
        generalize ls[k].length = n at *
        cases hd : (y.toList == x.toList) with
        | true =>
          rw [hd, if_pos rfl] at HT
          rcases hc with hc | ⟨hc1, hc⟩ | ⟨hc1, hc2, hc⟩
          all_goals
            go_wp2_with fail
            go_ret
            exact ⟨by rw [← unhide HT]; rfl, (unhide HS1).2⟩
        | false =>
          rw [hd, if_neg (by decide)] at HT
          rcases hc with hc | ⟨hc1, hc⟩ | ⟨hc1, hc2, hc⟩
          all_goals
            go_wp2_with fail
            go_roundw
            case rel => exact ⟨k + 1, by omega, by go_num, unhide HT, (unhide HS1).1, (unhide HS1).2⟩
            case measure => simp [intOf]; omega
      · have HD := hide (show Rf.declAt ls[k] x = false by rw [Rf.declAt, ht]; rfl)
        rw [unhide HD, if_neg (by decide)] at HT
        clear HD hv ht
        generalize Rf.first ls[k] = z at *
        go_wp2_with fail
        go_roundw
        case rel => exact ⟨k + 1, by omega, by go_num, unhide HT, (unhide HS1).1, (unhide HS1).2⟩
        case measure => simp [intOf]; omega
    · have hlt' : ¬ (k : Int) + 1 ≤ (ls.length : Int) := by omega
      rw [List.drop_eq_nil_of_le (by omega), Rf.declFrom] at hT
      have HT := hide hT
      clear hT
      go_wp2_with fail
      go_ret
      exact ⟨by rw [← unhide HT]; rfl, hbe⟩
namespace Rf
def twiceFrom (l : List ByteArray) : Nat → Nat → Bool
  | 0, _ => false
  | f + 1, k => inB (l.take k) (at' l k) || twiceFrom l f (k + 1)
def twice (l : List ByteArray) : Bool := twiceFrom l l.length 0
theorem home_step (ls : List (List ByteArray)) (n : Nat) : home ls (n + 1) = if ((first (lineAt ls n)).toList == [112, 114, 111, 99]) = true then n + 1 else home ls n := rfl
theorem home_b (ls : List (List ByteArray)) : ∀ n, home ls n ≤ n
  | 0 => Nat.le_refl _
  | n + 1 => by
    have := home_b ls n
    rw [home_step]; split <;> omega
end Rf
set_option maxHeartbeats 2000000 in
set_option maxRecDepth 100000 in
theorem home_ref (w : World) (S g cap : Nat) (ls : List (List ByteArray)) (l : Nat) (h : SrcG w S g cap ls) (hl : l ≤ ls.length) (hlen : ls.length ≤ 100) :
    Calls Tryz.prog 179 #[.pointer (some ⟨S, 0, none⟩), .int .i64 l] w fun e w' => e = .returned (.int .i64 (Rf.home ls l)) ∧ Below w.heap.size w w' := by
  have HN := hide h
  clear h
  go_enter Tryz.func179, Tryz.ntmps179
  go_wp2
  go_loopw [5] (fun i wr => ∃ k : Nat, k ≤ ls.length ∧ i = .int .i64 k ∧ Rf.home ls k = Rf.home ls l ∧ SrcG wr S g cap ls ∧ Below w.heap.size w wr) (fun i _ => (intOf i).toNat)
  case atStart => exact ⟨l, hl, rfl, rfl, unhide HN, Below.refl _ _⟩
  case round =>
    obtain ⟨k, hk, rfl, hT, hs, hbe⟩ := hrel
    have HS := hide (And.intro hs hbe)
    have HT := hide hT
    clear hs hbe hT
    cases k with
    | zero =>
      go_wp2_with fail
      go_ret
      exact ⟨by rw [← unhide HT]; rfl, (unhide HS).2⟩
    | succ k =>
      have hlt : k < ls.length := by omega
      rw [Rf.home_step, Rf.lineAt_lt hlt] at HT
      have hpos : (0 : Int) < (k : Int) + 1 := by omega
      rw [show ((k + 1 : Nat) : Int) = (k : Int) + 1 by omega]
      go_wp2_with fail
      refine (head_ref _ S g cap ls k (unhide HS).1 hlt hlen).mono ?_
      rintro e w1 ⟨rfl, hb1⟩
      have HS1 := hide (And.intro ((unhide HS).1.later hb1) ((unhide HS).2.trans (hb1.mono (unhide HS).2.size)))
      clear hb1
      generalize Rf.first ls[k] = z at *
      cases hz : (z.toList == [112, 114, 111, 99]) with
      | true =>
        rw [hz, if_pos rfl] at HT
        go_wp2_with fail
        go_ret
        exact ⟨by rw [← unhide HT]; rfl, (unhide HS1).2⟩
      | false =>
        rw [hz, if_neg (by decide)] at HT
        go_wp2_with fail
        go_roundw
        case rel => exact ⟨k, by omega, by go_num, unhide HT, (unhide HS1).1, (unhide HS1).2⟩
        case measure => simp [intOf]
set_option maxHeartbeats 2000000 in
set_option maxRecDepth 100000 in
theorem params_ref (w : World) (S g cap : Nat) (ls : List (List ByteArray)) (l : Nat) (h : SrcG w S g cap ls) (hl : l < ls.length) (hlen : ls.length ≤ 100) (h2 : 2 ≤ ls[l].length) (hf : ls[l].length ≤ 1000) :
    Calls Tryz.prog 117 #[.pointer (some ⟨S, 0, none⟩), .int .i64 ((l : Int) + 1)] w fun e w' => ∃ v, e = .returned v ∧ Strs w' v (ls[l].drop 2) ∧ Below w.heap.size w w' := by
  have cT := h.top
  obtain ⟨ad, c, cR, hv⟩ := h.row l hl
  obtain ⟨b, o, rfl⟩ := hv.nonnil (by intro e; rw [e] at h2; simp at h2)
  have hl' : (l : Int) < (ls.length : Int) := by omega
  have hw1 : IntKind.i64.wrap ((l : Int) + 1 - 1) = l := by rw [show (l : Int) + 1 - 1 = (l : Int) by omega]; exact IntWalk.i64_in _ ⟨by omega, by omega⟩
  have hw0 : IntKind.i64.wrap (l : Int) = l := IntWalk.i64_in _ ⟨by omega, by omega⟩
  obtain ⟨ad', c', he, hcap⟩ := hv.form
  simp at he
  obtain ⟨rfl, rfl⟩ := he
  have HV := hide hv
  clear h hv
  generalize ls[l] = t at *
  go_enter Tryz.func117, Tryz.ntmps117
  go_wp2_with fail
  all_goals
    go_ret
    exact ⟨_, rfl, by first | exact Strs.gone (by omega) rfl | exact (unhide HV).drop 2 _ _ rfl (by omega), Below.refl _ _⟩
set_option maxHeartbeats 2000000 in
set_option maxRecDepth 100000 in
theorem twice_ref (w : World) (v : Value) (t : List ByteArray) (hv : Strs w v t) (hl : t.length ≤ 1000) :
    Calls Tryz.prog 140 #[v] w fun e w' => e = .returned (.bool (Rf.twice t)) ∧ Below w.heap.size w w' := by
  obtain ⟨ad, cap, rfl, hcap⟩ := hv.form
  have HN := hide hv
  clear hv
  go_enter Tryz.func140, Tryz.ntmps140
  go_wp2
  go_loopw [3] (fun i wr => ∃ k f : Nat, k + f = t.length ∧ i = .int .i64 k ∧ Rf.twiceFrom t f k = Rf.twice t ∧ Strs wr (.slice ad t.length cap) t ∧ Below w.heap.size w wr) (fun i _ => t.length - (intOf i).toNat)
  case atStart => exact ⟨0, t.length, by omega, rfl, rfl, unhide HN, Below.refl _ _⟩
  case round =>
    obtain ⟨k, f, hk, rfl, hT, hs, hbe⟩ := hrel
    have HS := hide (And.intro hs hbe)
    have HT := hide hT
    clear hbe hT
    cases f with
    | zero =>
      have hlt : ¬ (k : Int) < (t.length : Int) := by omega
      go_wp2_with fail
      go_ret
      exact ⟨by rw [← unhide HT]; rfl, (unhide HS).2⟩
    | succ f =>
      have hlt : k < t.length := by omega
      have hlt' : (k : Int) < (t.length : Int) := by omega
      obtain ⟨b, o, cap', he, cx⟩ := hs.cell hlt
      simp at he
      obtain ⟨rfl, rfl⟩ := he
      rw [Rf.twiceFrom, Rf.at_lt hlt] at HT
      clear hs
      generalize t[k] = x at *
      have k0 : (0 : Int) ≤ (k : Int) := by omega
      have kc : (k : Int) ≤ (cap : Int) := by omega
      go_wp2_with fail
      go_region_with
        ((go_at_call 132; refine (in_any _ _ (t.take k) x (((unhide HS).1.take k cap (by omega) (by omega)).later (below_to_drew _)) (by simp; omega)).mono ?_; rintro e w1 ⟨rfl, rfl⟩))
      all_goals
        have HS1 := hide (And.intro ((unhide HS).1.later (below_to_drew _)) ((unhide HS).2.trans ((below_to_drew _).mono (unhide HS).2.size)))
        cases hz : Rf.inB (t.take k) x with
        | true =>
          rw [hz] at HT
          go_wp2_with fail
          go_ret
          exact ⟨by rw [← unhide HT]; rfl, (unhide HS1).2⟩
        | false =>
          rw [hz, Bool.false_or] at HT
          go_wp2_with fail
          go_roundw
          case rel => exact ⟨k + 1, f, by omega, by go_num, unhide HT, (unhide HS1).1, (unhide HS1).2⟩
          case measure => simp [intOf]; omega
namespace Rf
def cellAt (t : List ByteArray) (i : Nat) : Bool := (at' t (i + 1)).toList == [91]
def parsAt (ls : List (List ByteArray)) (l : Nat) : List ByteArray := (lineAt ls (home ls (l + 1) - 1)).drop 2
def namedB (ls : List (List ByteArray)) (l : Nat) (x : ByteArray) (cell : Bool) : Bool :=
  if nameB x = false then true
  else if inB (parsAt ls l) x = true then !cell
  else if decl ls x = 0 then false
  else if cell = true then ((first (lineAt ls (decl ls x - 1))).toList == [97, 114, 114, 97, 121]) else ((first (lineAt ls (decl ls x - 1))).toList == [118, 97, 114])
theorem home_is (ls : List (List ByteArray)) : ∀ n, 0 < home ls n → ((first (lineAt ls (home ls n - 1))).toList == [112, 114, 111, 99]) = true
  | 0, h => by simp [home] at h
  | n + 1, h => by
    rw [home_step] at h ⊢
    split
    · rename_i hc; exact hc
    · rename_i hc
      rw [if_neg hc] at h
      exact home_is ls n h
end Rf
theorem home_ref1 (w : World) (S g cap : Nat) (ls : List (List ByteArray)) (l : Nat) (h : SrcG w S g cap ls) (hl : l < ls.length) (hlen : ls.length ≤ 100) :
    Calls Tryz.prog 179 #[.pointer (some ⟨S, 0, none⟩), .int .i64 ((l : Int) + 1)] w fun e w' => e = .returned (.int .i64 (Rf.home ls (l + 1))) ∧ Below w.heap.size w w' := by
  have h := home_ref w S g cap ls (l + 1) h hl hlen
  rw [show ((l + 1 : Nat) : Int) = (l : Int) + 1 by omega] at h
  exact h
set_option maxHeartbeats 4000000 in
set_option maxRecDepth 100000 in
theorem named_ref (w : World) (S g cap : Nat) (ls : List (List ByteArray)) (l i : Nat) (h : SrcG w S g cap ls) (hL : Lawful ls) (hl : l < ls.length) (hi : i < ls[l].length) (hh : Rf.nameB ls[l][i] = true → 0 < Rf.home ls (l + 1)) :
    Calls Tryz.prog 142 #[.pointer (some ⟨S, 0, none⟩), .int .i64 ((l : Int) + 1), .int .i64 i] w fun e w' => e = .returned (.bool (Rf.namedB ls l ls[l][i] (Rf.cellAt ls[l] i))) ∧ Below w.heap.size w w' := by
  have hlen := hL.len
  have HL := hide hL
  have HH := hide h
  have hf := hL.fewAt hl
  have hn1 := hf.1
  have cT := h.top
  obtain ⟨ad, c, cR, hv⟩ := h.row l hl
  obtain ⟨b, o, rfl⟩ := hv.nonnil (by intro e; rw [e] at hi; simp at hi)
  have hl' : (l : Int) < (ls.length : Int) := by omega
  have hw1 : IntKind.i64.wrap ((l : Int) + 1 - 1) = l := by rw [show (l : Int) + 1 - 1 = (l : Int) by omega]; exact IntWalk.i64_in _ ⟨by omega, by omega⟩
  have hw0 : IntKind.i64.wrap (l : Int) = l := IntWalk.i64_in _ ⟨by omega, by omega⟩
  obtain ⟨b', o', cap', he, cx⟩ := hv.cell hi
  simp at he
  obtain ⟨⟨rfl, rfl⟩, rfl⟩ := he
  have HV := hide hv
  have hxs : ls[l][i].size ≤ maxLen := by have := hf.2 _ (List.getElem_mem hi); unfold maxLen; omega
  have HC : Hid (∀ w', Strs w' (.slice (some ⟨b, o, none⟩) ls[l].length c) ls[l] → w'.cell? ⟨b, o + i, none⟩ = some (.string ls[l][i])) := hide (by
    intro w' h
    obtain ⟨b', o', cap', he, c0⟩ := h.cell hi
    simp at he
    obtain ⟨⟨rfl, rfl⟩, rfl⟩ := he
    exact c0)
  have HC2 : Hid (∀ (hj : i + 1 < ls[l].length) w', Strs w' (.slice (some ⟨b, o, none⟩) ls[l].length c) ls[l] → w'.cell? ⟨b, o + (i + 1), none⟩ = some (.string ls[l][i + 1])) := hide (by
    intro hj w' h
    obtain ⟨b', o', cap', he, c0⟩ := h.cell hj
    simp at he
    obtain ⟨⟨rfl, rfl⟩, rfl⟩ := he
    exact c0)
  have HA := hide (show ∀ hj : i + 1 < ls[l].length, Rf.cellAt ls[l] i = (ls[l][i + 1].toList == [91]) from fun hj => by rw [Rf.cellAt, Rf.at_lt hj])
  have HZ := hide (show ¬ i + 1 < ls[l].length → Rf.cellAt ls[l] i = false from fun hj => by
    have e : Rf.at' ls[l] (i + 1) = ⟨#[]⟩ := by simp [Rf.at', List.getElem?_eq_none (show ls[l].length ≤ i + 1 by omega)]
    rw [Rf.cellAt, e]; simp)
  have hi' : (i : Int) < (ls[l].length : Int) := by omega
  have HHo := hide hh
  clear h hL hf hv hh
  generalize ls[l][i] = x at *
  generalize ls[l] = t at *
  generalize hR : Rf.namedB ls l x (Rf.cellAt t i) = R
  have HR := hide hR
  clear hR
  go_enter Tryz.func142, Tryz.ntmps142
  go_wp2_with fail
  refine (name_ref x _ hxs).mono ?_
  rintro e w1 ⟨rfl, hb1⟩
  have HS1 := hide (And.intro ((unhide HH).later hb1) hb1)
  have HV1 := hide ((unhide HV).later hb1)
  clear hb1 cT cR cx
  cases hnm : Rf.nameB x with
  | false =>
    have HE := hide (show R = true by rw [← unhide HR, Rf.namedB, if_pos hnm])
    go_wp2_with fail
    go_ret
    exact ⟨by rw [unhide HE]; rfl, (unhide HS1).2⟩
  | true =>
    have HE := hide (show R = if Rf.inB (Rf.parsAt ls l) x = true then !(Rf.cellAt t i) else if Rf.decl ls x = 0 then false else if Rf.cellAt t i = true then ((Rf.first (Rf.lineAt ls (Rf.decl ls x - 1))).toList == [97, 114, 114, 97, 121]) else ((Rf.first (Rf.lineAt ls (Rf.decl ls x - 1))).toList == [118, 97, 114]) by
      rw [← unhide HR, Rf.namedB, if_neg (by rw [hnm]; simp)])
    clear HR
    have hpos := unhide HHo hnm
    have hpl := Rf.home_b ls (l + 1)
    have hpc := Rf.home_is ls (l + 1) hpos
    obtain ⟨p, hp⟩ : ∃ p, Rf.home ls (l + 1) = p + 1 := ⟨Rf.home ls (l + 1) - 1, by omega⟩
    have hpls : p < ls.length := by omega
    rw [hp, Nat.add_sub_cancel, Rf.lineAt_lt hpls] at hpc
    have hp2 : 2 ≤ ls[p].length := (unhide HL).top _ (List.getElem_mem hpls) (by unfold Rf.topB; rw [hpc]; simp)
    have hpf := (unhide HL).fewAt hpls
    have HP := hide (show Rf.parsAt ls l = ls[p].drop 2 by rw [Rf.parsAt, hp, Nat.add_sub_cancel, Rf.lineAt_lt hpls])
    have hpl1 := hpf.1
    have Hhp := hide hp
    clear hpos hpc hpf hpl hp
    go_wp2_with (go_at_call 179; refine (home_ref1 _ S g cap ls l (unhide HS1).1 hl hlen).mono ?_; rintro e w2 ⟨rfl, hb2⟩; rw [unhide Hhp])
    have HS2 := hide (And.intro ((unhide HS1).1.later hb2) ((unhide HS1).2.trans (hb2.mono (unhide HS1).2.size)))
    have HV2 := hide ((unhide HV1).later hb2)
    have cx := unhide HC _ (unhide HV2)
    clear hb2
    go_region_held3 (fun w' => w'.cell? ⟨b, o + i, none⟩ = some (.string x)) (first | go_keep | exact unhide HC _ ((unhide HV2).later (below_of_drew hb3))) (first | (go_at_call 117; refine (params_ref _ S g cap ls p ((unhide HS2).1.later (below_to_drew _)) hpls hlen hp2 hpl1).mono ?_; rintro e w3 ⟨v3, rfl, hv3, hb3⟩) | (go_at_call 132; refine (in_any _ _ (ls[p].drop 2) x hv3 (by simp; omega)).mono ?_; rintro e w4 ⟨rfl, rfl⟩))
    have hb3' := below_of_drew hb3
    have HS3 := hide (And.intro ((unhide HS2).1.later hb3') ((unhide HS2).2.trans (hb3'.mono (unhide HS2).2.size)))
    have HV3 := hide ((unhide HV2).later hb3')
    rw [unhide HP] at HE
    clear hb3 hb3' hv3 cx
    have hw2 : IntKind.i64.wrap ((i : Int) + 1) = (i : Int) + 1 := IntWalk.i64_in _ ⟨by omega, by omega⟩
    generalize Rf.inB (ls[p].drop 2) x = pb at *
    cases pb with
    | true =>
      rw [if_pos rfl] at HE
      by_cases hj : i + 1 < t.length
      · have hj' : (i : Int) + 1 < (t.length : Int) := by omega
        have cy := unhide HC2 hj _ (unhide HV3)
        rw [unhide HA hj] at HE
        generalize t[i + 1] = y at *
        clear HA HZ HC2
        go_wp2_with fail
        all_goals
          go_ret
          exact ⟨by rw [unhide HE]; exact ret_bool (by simp_all), (unhide HS3).2⟩
      · have hj' : ¬ (i : Int) + 1 < (t.length : Int) := by omega
        rw [unhide HZ hj] at HE
        clear HA HZ HC2
        go_wp2_with fail
        all_goals
          go_ret
          exact ⟨by rw [unhide HE]; exact ret_bool (by simp_all), (unhide HS3).2⟩
    | false =>
      rw [if_neg (by decide)] at HE
      have hdb := Rf.decl_b ls x
      cases hd : Rf.decl ls x with
      | zero =>
        rw [hd, if_pos rfl] at HE
        by_cases hj : i + 1 < t.length
        · have hj' : (i : Int) + 1 < (t.length : Int) := by omega
          have cy := unhide HC2 hj _ (unhide HV3)
          generalize t[i + 1] = y at *
          clear HA HZ HC2
          go_wp2_with (go_at_call 84; refine (declared_ref _ S g cap ls x (unhide HS3).1 (unhide HL)).mono ?_; rintro e w5 ⟨rfl, hb5⟩; rw [hd]; have HS5 := hide ((unhide HS3).2.trans (hb5.mono (unhide HS3).2.size)); clear hb5)
          all_goals
            go_ret
            exact ⟨by rw [unhide HE]; rfl, unhide HS5⟩
        · have hj' : ¬ (i : Int) + 1 < (t.length : Int) := by omega
          clear HA HZ HC2
          go_wp2_with (go_at_call 84; refine (declared_ref _ S g cap ls x (unhide HS3).1 (unhide HL)).mono ?_; rintro e w5 ⟨rfl, hb5⟩; rw [hd]; have HS5 := hide ((unhide HS3).2.trans (hb5.mono (unhide HS3).2.size)); clear hb5)
          all_goals
            go_ret
            exact ⟨by rw [unhide HE]; rfl, unhide HS5⟩
      | succ d =>
        have hdl : d < ls.length := by omega
        rw [hd, if_neg (by omega), Nat.add_sub_cancel, Rf.lineAt_lt hdl] at HE
        have hdz : (((d + 1 : Nat) : Int) == 0) = false := by rw [beq_eq_false_iff_ne]; omega
        have hdi : ((d + 1 : Nat) : Int) = (d : Int) + 1 := by omega
        by_cases hj : i + 1 < t.length
        · have hj' : (i : Int) + 1 < (t.length : Int) := by omega
          have cy := unhide HC2 hj _ (unhide HV3)
          rw [unhide HA hj] at HE
          generalize t[i + 1] = y at *
          clear HA HZ HC2
          go_wp2_with (first | (go_at_call 84; refine (declared_ref _ S g cap ls x (unhide HS3).1 (unhide HL)).mono ?_; rintro e w5 ⟨rfl, hb5⟩; rw [hd, hdi]; have HS5 := hide (And.intro ((unhide HS3).1.later hb5) ((unhide HS3).2.trans (hb5.mono (unhide HS3).2.size))); clear hb5) | (go_at_call 45; refine (head_ref _ S g cap ls d (unhide HS5).1 hdl hlen).mono ?_; rintro e w6 ⟨rfl, hb6⟩; have HS6 := hide ((unhide HS5).2.trans (hb6.mono (unhide HS5).2.size)); clear hb6; generalize Rf.first ls[d] = z at *))
          all_goals
            go_ret
            exact ⟨by rw [unhide HE]; exact ret_bool (by simp_all), unhide HS6⟩
        · have hj' : ¬ (i : Int) + 1 < (t.length : Int) := by omega
          rw [unhide HZ hj] at HE
          clear HA HZ HC2
          go_wp2_with (first | (go_at_call 84; refine (declared_ref _ S g cap ls x (unhide HS3).1 (unhide HL)).mono ?_; rintro e w5 ⟨rfl, hb5⟩; rw [hd, hdi]; have HS5 := hide (And.intro ((unhide HS3).1.later hb5) ((unhide HS3).2.trans (hb5.mono (unhide HS3).2.size))); clear hb5) | (go_at_call 45; refine (head_ref _ S g cap ls d (unhide HS5).1 hdl hlen).mono ?_; rintro e w6 ⟨rfl, hb6⟩; have HS6 := hide ((unhide HS5).2.trans (hb6.mono (unhide HS5).2.size)); clear hb6; generalize Rf.first ls[d] = z at *))
          all_goals
            go_ret
            exact ⟨by rw [unhide HE]; exact ret_bool (by simp_all), unhide HS6⟩
end Go.Proofs.YthleadfkfnnadaaGreat
