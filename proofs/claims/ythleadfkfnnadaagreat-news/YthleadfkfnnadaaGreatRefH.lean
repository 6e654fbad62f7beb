/- The document's answer: lines with names that may stand there, continued. -/
import Derived.Test.YthleadfkfnnadaaGreatRefE
namespace Go.Proofs.YthleadfkfnnadaaGreat
open Go.RowKit
namespace Rf
def calledB (ls : List (List ByteArray)) (t : List ByteArray) : Bool :=
  if decl ls (at' t 1) = 0 then false
  else if ((first (lineAt ls (decl ls (at' t 1) - 1))).toList == [112, 114, 111, 99]) = false then false
  else decide ((parts (t.drop 2)).length = ((lineAt ls (decl ls (at' t 1) - 1)).drop 2).length)
end Rf
set_option maxHeartbeats 4000000 in
set_option maxRecDepth 100000 in
theorem called_ref (w : World) (S g cap : Nat) (ls : List (List ByteArray)) (l : Nat) (h : SrcG w S g cap ls) (hL : Lawful ls) (hl : l < ls.length) (h2 : 2 ≤ ls[l].length) :
    Calls Tryz.prog 141 #[.pointer (some ⟨S, 0, none⟩), .int .i64 ((l : Int) + 1)] w fun e w' => e = .returned (.bool (Rf.calledB ls ls[l])) ∧ Below w.heap.size w w' := by
  have hlen := hL.len
  have HL := hide hL
  have HH := hide h
  have hf := hL.fewAt hl
  have HF := hide hf
  have hn1 := hf.1
  have cT := h.top
  obtain ⟨ad, c, cR, hv⟩ := h.row l hl
  obtain ⟨b, o, rfl⟩ := hv.nonnil (by intro e; rw [e] at h2; simp at h2)
  have hl' : (l : Int) < (ls.length : Int) := by omega
  have hw1 : IntKind.i64.wrap ((l : Int) + 1 - 1) = l := by rw [show (l : Int) + 1 - 1 = (l : Int) by omega]; exact IntWalk.i64_in _ ⟨by omega, by omega⟩
  have hw0 : IntKind.i64.wrap (l : Int) = l := IntWalk.i64_in _ ⟨by omega, by omega⟩
  have h1 : 1 < ls[l].length := by omega
  obtain ⟨b', o', cap', he, cx⟩ := hv.cell h1
  simp at he
  obtain ⟨⟨rfl, rfl⟩, rfl⟩ := he
  obtain ⟨ad', c', he, hcap⟩ := hv.form
  simp at he
  obtain ⟨rfl, rfl⟩ := he
  have HV := hide hv
  have HA := hide (Rf.at_lt h1)
  have HPL := hide (parts_length (ls[l].drop 2))
  generalize hR : Rf.calledB ls ls[l] = R
  rw [Rf.calledB, unhide HA] at hR
  have HR := hide hR
  clear h hL hf hv HA hR
  generalize ls[l][1] = x at *
  generalize ls[l] = t at *
  have h1' : (1 : Int) < (t.length : Int) := by omega
  go_enter Tryz.func141, Tryz.ntmps141
  go_wp2_with fail
  refine (declared_ref _ S g cap ls x (unhide HH) (unhide HL)).mono ?_
  rintro e w1 ⟨rfl, hb1⟩
  have HS1 := hide (And.intro ((unhide HH).later hb1) hb1)
  have HV1 := hide ((unhide HV).later hb1)
  clear hb1 cT cR cx
  have hdb := Rf.decl_b ls x
  cases hd : Rf.decl ls x with
  | zero =>
    rw [hd, if_pos rfl] at HR
    go_wp2_with fail
    go_ret
    exact ⟨by rw [← unhide HR]; rfl, (unhide HS1).2⟩
  | succ d =>
    have hdl : d < ls.length := by omega
    rw [hd, if_neg (by omega), Nat.add_sub_cancel, Rf.lineAt_lt hdl] at HR
    have hdz : (((d + 1 : Nat) : Int) == 0) = false := by rw [beq_eq_false_iff_ne]; omega
    have hdi : ((d + 1 : Nat) : Int) = (d : Int) + 1 := by omega
    rw [hdi] at hdz ⊢
    clear hdi
    have HZ := hide (show ((Rf.first ls[d]).toList == [112, 114, 111, 99]) = true → 2 ≤ ls[d].length from fun hz => (unhide HL).top _ (List.getElem_mem hdl) (by unfold Rf.topB; rw [hz]; simp))
    have hpl1 := ((unhide HL).fewAt hdl).1
    go_wp2_with fail
    refine (head_ref _ S g cap ls d (unhide HS1).1 hdl hlen).mono ?_
    rintro e w2 ⟨rfl, hb2⟩
    have HS2 := hide (And.intro ((unhide HS1).1.later hb2) ((unhide HS1).2.trans (hb2.mono (unhide HS1).2.size)))
    have HV2 := hide ((unhide HV1).later hb2)
    clear hb2
    generalize Rf.first ls[d] = z at *
    cases hz : (z.toList == [112, 114, 111, 99]) with
    | false =>
      rw [hz, if_pos rfl] at HR
      go_wp2_with fail
      go_ret
      exact ⟨by rw [← unhide HR]; rfl, (unhide HS2).2⟩
    | true =>
      rw [hz, if_neg (by decide)] at HR
      have hp2 := unhide HZ hz
      go_wp2_with fail
      all_goals
        refine (parts_ref _ _ (t.drop 2) (by first | exact Strs.gone (by omega) (by omega) | exact (unhide HV2).drop 2 _ _ rfl (by omega)) ((unhide HF).drop 2)).mono ?_
        rintro e w3 ⟨hb3, v3, vs3, rfl, hown3, _⟩
        have HS3 := hide (And.intro ((unhide HS2).1.later hb3) ((unhide HS2).2.trans (hb3.mono (unhide HS2).2.size)))
        obtain ⟨ad3, c3, rfl⟩ := ownsRow_form hown3
        clear hb3 hown3
        go_wp2_with fail
        refine (params_ref _ S g cap ls d (unhide HS3).1 hdl hlen hp2 hpl1).mono ?_
        rintro e w4 ⟨v4, rfl, hv4, hb4⟩
        have HS4 := hide ((unhide HS3).2.trans (hb4.mono (unhide HS3).2.size))
        obtain ⟨ad4, c4, rfl, _⟩ := hv4.form
        clear hb4 hv4
        go_wp2_with fail
        go_ret
        exact ⟨by rw [← unhide HR]; exact ret_bool (by rw [Bool.eq_iff_iff]; simp; omega), unhide HS4⟩
namespace Rf
def namesFrom (ls : List (List ByteArray)) (l : Nat) (t : List ByteArray) : Nat → Nat → Bool
  | 0, _ => true
  | f + 1, k => namedB ls l (at' t k) (cellAt t k) && namesFrom ls l t f (k + 1)
def procFit (ls : List (List ByteArray)) (l : Nat) (t : List ByteArray) : Bool :=
  decide (decl ls (at' t 1) = l + 1) && !twice (t.drop 2) && (!((at' t 1).toList == [109, 97, 105, 110]) || decide (t.length = 2))
def rightB (ls : List (List ByteArray)) (l : Nat) (t : List ByteArray) : Bool :=
  if ((first t).toList == [118, 97, 114]) = true then decide (decl ls (at' t 1) = l + 1)
  else if ((first t).toList == [97, 114, 114, 97, 121]) = true then decide (decl ls (at' t 1) = l + 1)
  else if ((first t).toList == [112, 114, 111, 99]) = true then procFit ls l t
  else if ((first t).toList == [99, 97, 108, 108]) = true then calledB ls t && namesFrom ls l t (t.length - 2) 2
  else namesFrom ls l t (t.length - 1) 1
end Rf
structure LineOK (ls : List (List ByteArray)) (l : Nat) (hl : l < ls.length) : Prop where
  home : Rf.topB ls[l] = false → ∀ i (h : i < ls[l].length), Rf.nameB ls[l][i] = true → 0 < Rf.home ls (l + 1)
  call : ((Rf.first ls[l]).toList == [99, 97, 108, 108]) = true → 2 ≤ ls[l].length
set_option maxHeartbeats 4000000 in
set_option maxRecDepth 100000 in
theorem right_decl (w : World) (S g cap : Nat) (ls : List (List ByteArray)) (l : Nat) (h : SrcG w S g cap ls) (hL : Lawful ls) (hl : l < ls.length)
    (hz : ((Rf.first ls[l]).toList == [118, 97, 114]) = true ∨ (((Rf.first ls[l]).toList == [118, 97, 114]) = false ∧ ((Rf.first ls[l]).toList == [97, 114, 114, 97, 121]) = true)) :
    Calls Tryz.prog 83 #[.pointer (some ⟨S, 0, none⟩), .int .i64 ((l : Int) + 1)] w fun e w' => e = .returned (.bool (Rf.rightB ls l ls[l])) ∧ Below w.heap.size w w' := by
  have hlen := hL.len
  have HL := hide hL
  have HH := hide h
  have cT := h.top
  obtain ⟨ad, c, cR, hv⟩ := h.row l hl
  have h2 : 2 ≤ ls[l].length := hL.top _ (List.getElem_mem hl) (by unfold Rf.topB; rcases hz with hz | ⟨_, hz⟩ <;> rw [hz] <;> simp)
  obtain ⟨b, o, rfl⟩ := hv.nonnil (by intro e; rw [e] at h2; simp at h2)
  have hl' : (l : Int) < (ls.length : Int) := by omega
  have hw1 : IntKind.i64.wrap ((l : Int) + 1 - 1) = l := by rw [show (l : Int) + 1 - 1 = (l : Int) by omega]; exact IntWalk.i64_in _ ⟨by omega, by omega⟩
  have hw0 : IntKind.i64.wrap (l : Int) = l := IntWalk.i64_in _ ⟨by omega, by omega⟩
  have h1 : 1 < ls[l].length := by omega
  have HC : Hid (∀ w', Strs w' (.slice (some ⟨b, o, none⟩) ls[l].length c) ls[l] → w'.cell? ⟨b, o + 1, none⟩ = some (.string ls[l][1])) := hide (by
    intro w' h
    obtain ⟨b', o', cap', he, c0⟩ := h.cell h1
    simp at he
    obtain ⟨⟨rfl, rfl⟩, rfl⟩ := he
    exact c0)
  have HV := hide hv
  have HA := hide (Rf.at_lt h1)
  have hR : Rf.rightB ls l ls[l] = decide (Rf.decl ls ls[l][1] = l + 1) := by
    rw [← unhide HA]
    rcases hz with hz | ⟨hz1, hz⟩
    · rw [Rf.rightB, if_pos hz]
    · rw [Rf.rightB, if_neg (by rw [hz1]; simp), if_pos hz]
  have HR := hide hR
  clear h hL hv HA hR
  generalize Rf.rightB ls l ls[l] = R at *
  go_enter Tryz.func83, Tryz.ntmps83
  go_wp2_with fail
  refine (head_ref _ S g cap ls l (unhide HH) hl hlen).mono ?_
  rintro e w1 ⟨rfl, hb1⟩
  have HS1 := hide (And.intro ((unhide HH).later hb1) hb1)
  have cx := unhide HC _ ((unhide HV).later hb1)
  clear hb1 cT cR
  generalize ls[l][1] = x at *
  generalize Rf.first ls[l] = z at *
  have hnl := Nat.lt_of_lt_of_le (show 1 < 2 by omega) h2
  have h1' : (1 : Int) < (ls[l].length : Int) := by omega
  rcases hz with hz | ⟨hz1, hz⟩
  all_goals
    go_wp2_with (go_at_call 84; refine (declared_ref _ S g cap ls x (unhide HS1).1 (unhide HL)).mono ?_; rintro e w2 ⟨rfl, hb2⟩; have HS2 := hide ((unhide HS1).2.trans (hb2.mono (unhide HS1).2.size)); clear hb2)
    go_ret
    exact ⟨by rw [unhide HR]; exact ret_bool (by rw [Bool.eq_iff_iff]; simp; omega), unhide HS2⟩
set_option maxHeartbeats 4000000 in
set_option maxRecDepth 100000 in
theorem right_proc (w : World) (S g cap : Nat) (ls : List (List ByteArray)) (l : Nat) (h : SrcG w S g cap ls) (hL : Lawful ls) (hl : l < ls.length)
    (q1 : ((Rf.first ls[l]).toList == [118, 97, 114]) = false) (q2 : ((Rf.first ls[l]).toList == [97, 114, 114, 97, 121]) = false) (q3 : ((Rf.first ls[l]).toList == [112, 114, 111, 99]) = true) :
    Calls Tryz.prog 83 #[.pointer (some ⟨S, 0, none⟩), .int .i64 ((l : Int) + 1)] w fun e w' => e = .returned (.bool (Rf.rightB ls l ls[l])) ∧ Below w.heap.size w w' := by
  have hlen := hL.len
  have HL := hide hL
  have HH := hide h
  have cT := h.top
  have hf := hL.fewAt hl
  have hn1 := hf.1
  obtain ⟨ad, c, cR, hv⟩ := h.row l hl
  have h2 : 2 ≤ ls[l].length := hL.top _ (List.getElem_mem hl) (by unfold Rf.topB; rw [q3]; simp)
  obtain ⟨b, o, rfl⟩ := hv.nonnil (by intro e; rw [e] at h2; simp at h2)
  obtain ⟨ad', c', he, hcap⟩ := hv.form
  simp at he
  obtain ⟨rfl, rfl⟩ := he
  have hl' : (l : Int) < (ls.length : Int) := by omega
  have hw1 : IntKind.i64.wrap ((l : Int) + 1 - 1) = l := by rw [show (l : Int) + 1 - 1 = (l : Int) by omega]; exact IntWalk.i64_in _ ⟨by omega, by omega⟩
  have hw0 : IntKind.i64.wrap (l : Int) = l := IntWalk.i64_in _ ⟨by omega, by omega⟩
  have h1 : 1 < ls[l].length := by omega
  have HC : Hid (∀ w', Strs w' (.slice (some ⟨b, o, none⟩) ls[l].length c) ls[l] → w'.cell? ⟨b, o + 1, none⟩ = some (.string ls[l][1])) := hide (by
    intro w' h
    obtain ⟨b', o', cap', he, c0⟩ := h.cell h1
    simp at he
    obtain ⟨⟨rfl, rfl⟩, rfl⟩ := he
    exact c0)
  have HV := hide hv
  have HA := hide (Rf.at_lt h1)
  have hR : Rf.rightB ls l ls[l] = (decide (Rf.decl ls ls[l][1] = l + 1) && !Rf.twice (ls[l].drop 2) && (!(ls[l][1].toList == [109, 97, 105, 110]) || decide (ls[l].length = 2))) := by
    rw [← unhide HA]
    rw [Rf.rightB, if_neg (by rw [q1]; simp), if_neg (by rw [q2]; simp), if_pos q3, Rf.procFit]
  have HR := hide hR
  clear h hL hv HA hR
  generalize Rf.rightB ls l ls[l] = R at *
  go_enter Tryz.func83, Tryz.ntmps83
  go_wp2_with fail
  refine (head_ref _ S g cap ls l (unhide HH) hl hlen).mono ?_
  rintro e w1 ⟨rfl, hb1⟩
  have HS1 := hide (And.intro ((unhide HH).later hb1) hb1)
  have HV1 := hide ((unhide HV).later hb1)
  have cx := unhide HC _ (unhide HV1)
  clear hb1 cT cR
  generalize ls[l][1] = x at *
  generalize Rf.first ls[l] = z at *
  generalize ls[l] = t at *
  have h1' : (1 : Int) < (t.length : Int) := by omega
  go_wp2_with (go_at_call 84; refine (declared_ref _ S g cap ls x (unhide HS1).1 (unhide HL)).mono ?_; rintro e w2 ⟨rfl, hb2⟩; have HV2 := hide ((unhide HV1).later hb2); have HS2 := hide ((unhide HS1).2.trans (hb2.mono (unhide HS1).2.size)); clear hb2)
  all_goals
    refine (twice_ref _ _ (t.drop 2) (by first | exact Strs.gone (by omega) (by omega) | exact (unhide HV2).drop 2 _ _ rfl (by omega)) (by simp; omega)).mono ?_
    rintro e w3 ⟨rfl, hb3⟩
    have HS3 := hide ((unhide HS2).trans (hb3.mono (unhide HS2).size))
    have cy := unhide HC _ ((unhide HV2).later hb3)
    clear hb3 cx
    generalize Rf.twice (t.drop 2) = tw at *
    by_cases hd : Rf.decl ls x = l + 1
    · have hd' : ((Rf.decl ls x : Int) == (l : Int) + 1) = true := by rw [beq_iff_eq]; omega
      rw [decide_eq_true hd] at HR
      cases tw with
      | true =>
        go_wp2_with fail
        go_ret
        exact ⟨by rw [unhide HR]; rfl, unhide HS3⟩
      | false =>
        cases hm : (x.toList == [109, 97, 105, 110]) with
        | true =>
          rw [hm] at HR
          go_wp2_with fail
          all_goals
            go_ret
            exact ⟨by rw [unhide HR]; exact ret_bool (by rw [Bool.eq_iff_iff]; simp; omega), unhide HS3⟩
        | false =>
          rw [hm] at HR
          go_wp2_with fail
          all_goals
            go_ret
            exact ⟨by rw [unhide HR]; rfl, unhide HS3⟩
    · have hd' : ((Rf.decl ls x : Int) == (l : Int) + 1) = false := by rw [beq_eq_false_iff_ne]; omega
      rw [decide_eq_false hd] at HR
      go_wp2_with fail
      all_goals
        go_ret
        exact ⟨by rw [unhide HR]; rfl, unhide HS3⟩
theorem named_ref' (w : World) (S g cap : Nat) (ls : List (List ByteArray)) (l i : Nat) (t : List ByteArray) (h : SrcG w S g cap ls) (hL : Lawful ls) (hl : l < ls.length) (ht : ls[l] = t) (hi : i < t.length) (hh : Rf.nameB t[i] = true → 0 < Rf.home ls (l + 1)) :
    Calls Tryz.prog 142 #[.pointer (some ⟨S, 0, none⟩), .int .i64 ((l : Int) + 1), .int .i64 i] w fun e w' => e = .returned (.bool (Rf.namedB ls l t[i] (Rf.cellAt t i))) ∧ Below w.heap.size w w' := by
  subst ht
  exact named_ref w S g cap ls l i h hL hl hi hh
set_option maxHeartbeats 4000000 in
set_option maxRecDepth 100000 in
theorem right_other (w : World) (S g cap : Nat) (ls : List (List ByteArray)) (l : Nat) (h : SrcG w S g cap ls) (hL : Lawful ls) (hl : l < ls.length) (hok : LineOK ls l hl)
    (q1 : ((Rf.first ls[l]).toList == [118, 97, 114]) = false) (q2 : ((Rf.first ls[l]).toList == [97, 114, 114, 97, 121]) = false) (q3 : ((Rf.first ls[l]).toList == [112, 114, 111, 99]) = false) (q4 : ((Rf.first ls[l]).toList == [99, 97, 108, 108]) = false) :
    Calls Tryz.prog 83 #[.pointer (some ⟨S, 0, none⟩), .int .i64 ((l : Int) + 1)] w fun e w' => e = .returned (.bool (Rf.rightB ls l ls[l])) ∧ Below w.heap.size w w' := by
  have hlen := hL.len
  have HL := hide hL
  have HH := hide h
  have cT := h.top
  have hf := hL.fewAt hl
  have hn1 := hf.1
  obtain ⟨ad, c, cR, hv⟩ := h.row l hl
  have hl' : (l : Int) < (ls.length : Int) := by omega
  have hw1 : IntKind.i64.wrap ((l : Int) + 1 - 1) = l := by rw [show (l : Int) + 1 - 1 = (l : Int) by omega]; exact IntWalk.i64_in _ ⟨by omega, by omega⟩
  have hw0 : IntKind.i64.wrap (l : Int) = l := IntWalk.i64_in _ ⟨by omega, by omega⟩
  have hhome := hok.home (by unfold Rf.topB; rw [q1, q2, q3]; rfl)
  have HHo := hide hhome
  have hR : Rf.rightB ls l ls[l] = Rf.namesFrom ls l ls[l] (ls[l].length - 1) 1 := by
    rw [Rf.rightB, if_neg (by rw [q1]; simp), if_neg (by rw [q2]; simp), if_neg (by rw [q3]; simp), if_neg (by rw [q4]; simp)]
  have HR := hide hR
  have HAt := hide (show ∀ k (hk : k < ls[l].length), Rf.at' ls[l] k = ls[l][k] from fun k hk => Rf.at_lt hk)
  clear h hL hv hR hhome hok
  generalize Rf.rightB ls l ls[l] = R at *
  go_enter Tryz.func83, Tryz.ntmps83
  go_wp2_with fail
  refine (head_ref _ S g cap ls l (unhide HH) hl hlen).mono ?_
  rintro e w1 ⟨rfl, hb1⟩
  have HS1 := hide (And.intro ((unhide HH).later hb1) hb1)
  clear hb1 cT cR
  have HQ := hide (And.intro q1 (And.intro q2 (And.intro q3 q4)))
  generalize Rf.first ls[l] = z at *
  go_wp2_with fail
  generalize hTT : ls[l] = t at *
  have HTT := hide hTT
  clear hTT
  go_loopw [10] (fun i wr => ∃ k f : Nat, 1 ≤ k ∧ (k + f = t.length ∨ (f = 0 ∧ t.length ≤ k)) ∧ k ≤ 1000 ∧ i = .int .i64 k ∧ Rf.namesFrom ls l t f k = R ∧ SrcG wr S g cap ls ∧ Below w.heap.size w wr) (fun i _ => t.length - (intOf i).toNat)
  case atStart => exact ⟨1, t.length - 1, Nat.le_refl _, by omega, by omega, rfl, (unhide HR).symm, (unhide HS1).1, (unhide HS1).2⟩
  case round =>
    obtain ⟨k, f, hk0, hk, hk1, rfl, hT, hs, hbe⟩ := hrel
    have HS := hide (And.intro hs hbe)
    have HT := hide hT
    clear hs hbe hT
    cases f with
    | zero =>
      have hlt : ¬ (k : Int) < (t.length : Int) := by omega
      go_wp2_with fail
      go_ret
      exact ⟨by rw [← unhide HT]; rfl, (unhide HS).2⟩
    | succ f =>
      have hlt : k < t.length := by omega
      have hlt' : (k : Int) < (t.length : Int) := by omega
      rw [Rf.namesFrom, unhide HAt k hlt] at HT
      go_wp2_with fail
      refine (named_ref' _ S g cap ls l k t (unhide HS).1 (unhide HL) hl (unhide HTT) hlt (unhide HHo k hlt)).mono ?_
      rintro e w2 ⟨rfl, hb2⟩
      have HS2 := hide (And.intro ((unhide HS).1.later hb2) ((unhide HS).2.trans (hb2.mono (unhide HS).2.size)))
      clear hb2
      cases hz : Rf.namedB ls l t[k] (Rf.cellAt t k) with
      | false =>
        rw [hz] at HT
        go_wp2_with fail
        go_ret
        exact ⟨by rw [← unhide HT]; rfl, (unhide HS2).2⟩
      | true =>
        rw [hz, Bool.true_and] at HT
        go_wp2_with fail
        go_roundw
        case rel => exact ⟨k + 1, f, by omega, by omega, by omega, by go_num, unhide HT, (unhide HS2).1, (unhide HS2).2⟩
        case measure => simp [intOf]; omega
set_option maxHeartbeats 4000000 in
set_option maxRecDepth 100000 in
theorem right_call (w : World) (S g cap : Nat) (ls : List (List ByteArray)) (l : Nat) (h : SrcG w S g cap ls) (hL : Lawful ls) (hl : l < ls.length) (hok : LineOK ls l hl)
    (q1 : ((Rf.first ls[l]).toList == [118, 97, 114]) = false) (q2 : ((Rf.first ls[l]).toList == [97, 114, 114, 97, 121]) = false) (q3 : ((Rf.first ls[l]).toList == [112, 114, 111, 99]) = false) (q4 : ((Rf.first ls[l]).toList == [99, 97, 108, 108]) = true) :
    Calls Tryz.prog 83 #[.pointer (some ⟨S, 0, none⟩), .int .i64 ((l : Int) + 1)] w fun e w' => e = .returned (.bool (Rf.rightB ls l ls[l])) ∧ Below w.heap.size w w' := by
  have hlen := hL.len
  have HL := hide hL
  have HH := hide h
  have cT := h.top
  have hf := hL.fewAt hl
  have hn1 := hf.1
  obtain ⟨ad, c, cR, hv⟩ := h.row l hl
  have hl' : (l : Int) < (ls.length : Int) := by omega
  have hw1 : IntKind.i64.wrap ((l : Int) + 1 - 1) = l := by rw [show (l : Int) + 1 - 1 = (l : Int) by omega]; exact IntWalk.i64_in _ ⟨by omega, by omega⟩
  have hw0 : IntKind.i64.wrap (l : Int) = l := IntWalk.i64_in _ ⟨by omega, by omega⟩
  have h2 := hok.call q4
  have hhome := hok.home (by unfold Rf.topB; rw [q1, q2, q3]; rfl)
  have HHo := hide hhome
  have hR : Rf.rightB ls l ls[l] = (Rf.calledB ls ls[l] && Rf.namesFrom ls l ls[l] (ls[l].length - 2) 2) := by
    rw [Rf.rightB, if_neg (by rw [q1]; simp), if_neg (by rw [q2]; simp), if_neg (by rw [q3]; simp), if_pos q4]
  have HR := hide hR
  have HAt := hide (show ∀ k (hk : k < ls[l].length), Rf.at' ls[l] k = ls[l][k] from fun k hk => Rf.at_lt hk)
  clear h hL hv hR hhome hok
  generalize Rf.rightB ls l ls[l] = R at *
  go_enter Tryz.func83, Tryz.ntmps83
  go_wp2_with fail
  refine (head_ref _ S g cap ls l (unhide HH) hl hlen).mono ?_
  rintro e w1 ⟨rfl, hb1⟩
  have HS1 := hide (And.intro ((unhide HH).later hb1) hb1)
  clear hb1 cT cR
  have HQ := hide (And.intro q1 (And.intro q2 (And.intro q3 q4)))
  generalize Rf.first ls[l] = z at *
  have HH2 := hide h2
  go_wp2_with fail
  refine (called_ref _ S g cap ls l (unhide HS1).1 (unhide HL) hl (unhide HH2)).mono ?_
  rintro e w2 ⟨rfl, hb2⟩
  have HS2 := hide (And.intro ((unhide HS1).1.later hb2) ((unhide HS1).2.trans (hb2.mono (unhide HS1).2.size)))
  clear hb2
  cases hc : Rf.calledB ls ls[l] with
  | false =>
  rw [hc] at HR
  go_wp2_with fail
  go_ret
  exact ⟨by rw [unhide HR]; rfl, (unhide HS2).2⟩
  | true =>
  rw [hc, Bool.true_and] at HR
  clear hc
  go_wp2_with fail
  generalize hTT : ls[l] = t at *
  have HTT := hide hTT
  clear hTT
  go_loopw [10] (fun i wr => ∃ k f : Nat, 2 ≤ k ∧ (k + f = t.length ∨ (f = 0 ∧ t.length ≤ k)) ∧ k ≤ 1000 ∧ i = .int .i64 k ∧ Rf.namesFrom ls l t f k = R ∧ SrcG wr S g cap ls ∧ Below w.heap.size w wr) (fun i _ => t.length - (intOf i).toNat)
  case atStart => exact ⟨2, t.length - 2, Nat.le_refl _, by omega, by omega, rfl, (unhide HR).symm, (unhide HS2).1, (unhide HS2).2⟩
  case round =>
    obtain ⟨k, f, hk0, hk, hk1, rfl, hT, hs, hbe⟩ := hrel
    have HS := hide (And.intro hs hbe)
    have HT := hide hT
    clear hs hbe hT
    cases f with
    | zero =>
      have hlt : ¬ (k : Int) < (t.length : Int) := by omega
      go_wp2_with fail
      go_ret
      exact ⟨by rw [← unhide HT]; rfl, (unhide HS).2⟩
    | succ f =>
      have hlt : k < t.length := by omega
      have hlt' : (k : Int) < (t.length : Int) := by omega
      rw [Rf.namesFrom, unhide HAt k hlt] at HT
      go_wp2_with fail
      refine (named_ref' _ S g cap ls l k t (unhide HS).1 (unhide HL) hl (unhide HTT) hlt (unhide HHo k hlt)).mono ?_
      rintro e w3 ⟨rfl, hb3⟩
      have HS3 := hide (And.intro ((unhide HS).1.later hb3) ((unhide HS).2.trans (hb3.mono (unhide HS).2.size)))
      clear hb3
      cases hz : Rf.namedB ls l t[k] (Rf.cellAt t k) with
      | false =>
        rw [hz] at HT
        go_wp2_with fail
        go_ret
        exact ⟨by rw [← unhide HT]; rfl, (unhide HS3).2⟩
      | true =>
        rw [hz, Bool.true_and] at HT
        go_wp2_with fail
        go_roundw
        case rel => exact ⟨k + 1, f, by omega, by omega, by omega, by go_num, unhide HT, (unhide HS3).1, (unhide HS3).2⟩
        case measure => simp [intOf]; omega
theorem right_ref (w : World) (S g cap : Nat) (ls : List (List ByteArray)) (l : Nat) (h : SrcG w S g cap ls) (hL : Lawful ls) (hl : l < ls.length) (hok : LineOK ls l hl) :
    Calls Tryz.prog 83 #[.pointer (some ⟨S, 0, none⟩), .int .i64 ((l : Int) + 1)] w fun e w' => e = .returned (.bool (Rf.rightB ls l ls[l])) ∧ Below w.heap.size w w' := by
  by_cases q1 : ((Rf.first ls[l]).toList == [118, 97, 114]) = true
  · exact right_decl w S g cap ls l h hL hl (Or.inl q1)
  replace q1 := Bool.eq_false_iff.mpr q1
  by_cases q2 : ((Rf.first ls[l]).toList == [97, 114, 114, 97, 121]) = true
  · exact right_decl w S g cap ls l h hL hl (Or.inr ⟨q1, q2⟩)
  replace q2 := Bool.eq_false_iff.mpr q2
  by_cases q3 : ((Rf.first ls[l]).toList == [112, 114, 111, 99]) = true
  · exact right_proc w S g cap ls l h hL hl q1 q2 q3
  replace q3 := Bool.eq_false_iff.mpr q3
  by_cases q4 : ((Rf.first ls[l]).toList == [99, 97, 108, 108]) = true
  · exact right_call w S g cap ls l h hL hl hok q1 q2 q3 q4
  exact right_other w S g cap ls l h hL hl hok q1 q2 q3 (Bool.eq_false_iff.mpr q4)
end Go.Proofs.YthleadfkfnnadaaGreat
