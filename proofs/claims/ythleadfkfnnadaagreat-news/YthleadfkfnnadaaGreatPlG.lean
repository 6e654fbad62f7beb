/- The first place, by both: plain. -/
import Derived.Test.YthleadfkfnnadaaGreatRnC
import Derived.Test.YthleadfkfnnadaaGreatRefO
namespace Go.Proofs.YthleadfkfnnadaaGreat
open Go.RowKit
namespace Rf
open Rt
theorem names_all (pls : List PL) : ∀ (r : List PL) (n : Nat), nameErr pls (n + 1) r = 0 → ∀ (i : Nat) (p : PL), r[i]? = some p → namFit pls (n + 1 + i) p = true
  | [], _, _, i, p, h => by simp at h
  | q :: r, n, h, i, p, hp => by
    rw [nameErr] at h
    split at h
    · next hq =>
      cases i with
      | zero => simp at hp; subst hp; exact hq
      | succ i =>
        have := names_all pls r (n + 1) h i p (by simpa using hp)
        rw [show n + 1 + (i + 1) = n + 1 + 1 + i by omega]
        exact this
    · omega
theorem declFrom_spec (x : ByteArray) : ∀ (r : List PL) (n : Nat), 0 < n → Rt.declFrom n r x ≠ 0 → ∃ i p, r[i]? = some p ∧ isDecl p x = true ∧ Rt.declFrom n r x = n + i
  | [], _, _, h => absurd rfl h
  | q :: r, n, hn, h => by
    rw [Rt.declFrom] at h ⊢
    split
    · next hq => exact ⟨0, q, rfl, hq, rfl⟩
    · next hq =>
      rw [if_neg hq] at h
      obtain ⟨i, p, h1, h2, h3⟩ := declFrom_spec x r (n + 1) (by omega) h
      exact ⟨i + 1, p, by simpa using h1, h2, by omega⟩
theorem ctx_of {s : ByteArray} {pls : List PL} (inp : List Int) (h : readS s = (0, 0, pls)) (hlaw : Lawful (readR s).2.2) : Ctx ((rForms 0 (lines s) [zPL]).2.drop 1) pls (readR s).2.2 (srcOf s pls inp) := by
  obtain ⟨h1, h2, h3, h4, h5⟩ := read_nest h
  have hn := nst_of h3
  have hb : Both pls (readR s).2.2 := by
    have := (read_eq s).2.2 (by rw [h])
    rw [h] at this
    exact this
  refine ⟨hn, hb, rfl, rfl, hlaw, fun n hl => ?_, h5, ?_⟩
  · have hl' : n + 1 < pls.length := by rw [hn.len]; omega
    have := names_all pls (pls.drop 1) 0 h4 n pls[n + 1] (by rw [List.getElem?_drop, Nat.add_comm, List.getElem?_eq_getElem hl'])
    rw [lnAt, if_neg (by omega), show ((n : Int) + 1).toNat = n + 1 by omega, List.getElem?_eq_getElem hl']
    rw [show 0 + 1 + n = n + 1 by omega] at this
    exact this
  · have hd : declP pls mainName ≠ 0 := fun e => by
      rw [declForm, e, hb.form0] at h5
      exact absurd h5 (by decide)
    obtain ⟨i, p, p1, p2, p3⟩ := declFrom_spec mainName (pls.drop 1) 1 (by omega) hd
    have hf : declForm pls mainName = p.form := by
      rw [declForm, show declP pls mainName = 1 + i from p3, formAt, if_neg (by omega), Int.toNat_natCast]
      rw [List.getElem?_drop] at p1
      rw [p1]
      rfl
    have := names_all pls (pls.drop 1) 0 h4 i p p1
    rw [hf] at h5 ⊢
    unfold namFit at this
    rw [if_neg (by omega), if_pos h5, Bool.and_eq_true] at this
    have hp := this.2
    unfold parFit at hp
    rw [Bool.and_eq_true] at hp
    have hnm : p.form.name = mainName := by
      unfold isDecl at p2
      simp at p2
      exact p2.2
    have hq := hp.1
    rw [hnm, show (mainName.toList == mainWord) = true by rw [show mainName = ⟨[109, 97, 105, 110].toArray⟩ from rfl, toList_lit]; decide] at hq
    simp at hq
    exact hq
def cellN (pls : List PL) (k : Nat) : Nat := if (formAt pls ((k : Int) + 1)).kind = 2 then (formAt pls ((k : Int) + 1)).cells.toNat else 0
def firstPl (ls : List (List ByteArray)) (D : Nat) (cn : Nat → Nat) : Pl := ⟨[⟨D + 1, [], 0⟩], List.replicate (ls.length + 1) 0, [] :: (List.range ls.length).map (fun k => List.replicate (cn k) 0), 0, [], (goes ls (D + 1) : Nat), 0⟩
section
variable {ps pls : List PL} {ls : List (List ByteArray)} {S : Rt.Src}
theorem Ctx.mainAt (C : Ctx ps pls ls S) : ∃ D : Nat, decl ls mainW = D + 1 ∧ D < ls.length ∧ kd ps D = 3 ∧ stp ps (D + 1) = [(D + 1, 3)] ∧ declP S.pls mainName = D + 1 := by
  have hm : decl ls mainW ≠ 0 := fun e => by
    have h5 := C.main
    rw [declForm, C.both.declE, show decl ls mainName = 0 from e, C.both.form0] at h5
    exact absurd h5 (by decide)
  have hb := decl_b ls mainW
  obtain ⟨D, hD⟩ : ∃ D, decl ls mainW = D + 1 := ⟨decl ls mainW - 1, by omega⟩
  have hl := C.len
  have hDl : D < ps.length := by omega
  have hk : kd ps D = 3 := by
    have h5 := C.main
    rw [declForm, C.both.declE, show decl ls mainName = D + 1 from hD, show ((D + 1 : Nat) : Int) = (D : Int) + 1 from rfl, form_at C.nst hDl, ← kd_lt] at h5
    exact h5
  refine ⟨D, hD, by omega, hk, ?_, ?_⟩
  · rw [opened (Or.inl hk), adm_out C.nst hDl (by omega), hk]; rfl
  · rw [C.spls, declP_noTok, C.both.declE]; exact hD
theorem first_fine (C : Ctx ps pls ls S) : Fine ps pls ls S (firstM S) ∧ ∃ D, decl ls mainW = D + 1 ∧ D < ls.length ∧ plOf pls (firstM S) = firstPl ls D (cellN pls) := by
  obtain ⟨D, d1, d2, d3, d4, d5⟩ := C.mainAt
  have h100 := C.law.len
  obtain ⟨j, j1, j2, j3, j4, j5⟩ := C.stop (k := D + 1) (by omega) (by rw [d4]; simp)
  have hl : (firstM S).line = (goes ls (D + 1) : Nat) := by
    show goOn S.pls S.lk 102 (wrap64 ((declP S.pls mainName : Nat) + 1)) = _
    rw [d5, ← C.go (by omega : D + 1 ≤ ls.length)]
    congr 1
    exact IntWalk.wrap64_in _ (by omega)
  have hjl : (firstM S).line = (j : Int) + 1 := by rw [hl, j1]; omega
  have hpr : procN pls (firstM S).line = D + 1 := by rw [hjl, C.procN j2 j4, j5, d4]; rfl
  obtain ⟨p1, p2⟩ := C.params d2 d3
  have hnp : (formAt pls ((D : Int) + 1)).params = [] := by
    have := C.nopar
    rw [declForm, C.both.declE, show decl ls mainName = D + 1 from d1] at this
    exact this
  rw [hnp] at p2
  have hvl : (firstM S).values = pls.map (fun p => zerosI p.form) := by
    show S.pls.map _ = _
    rw [C.spls, List.map_map]
    rfl
  have hpl := C.both.len
  refine ⟨⟨⟨j, j2, hjl, j3, j4⟩, by simp [firstM], by simp [firstM], ?_, ?_, ?_, ?_⟩, D, d1, d2, ?_⟩
  · intro f hf
    have : f = ⟨D + 1, [], 0⟩ := by
      have : frsOf pls (firstM S).frames (firstM S).line = [⟨procN pls (firstM S).line, [], 0⟩] := rfl
      rw [this, hpr] at hf
      simpa using hf
    rw [this]
    exact ⟨by simp, by show D + 1 ≤ _; omega, by rw [Nat.add_sub_cancel]; exact p1, by rw [Nat.add_sub_cancel]; exact p2⟩
  · intro f hf
    simp [firstM] at hf
  · rw [hvl, List.map_map]; rfl
  · simp [firstM]
  · unfold plOf firstPl
    have hz : ∀ l : Nat, l < pls.length → ((firstM S).values[l]?).getD [] = zerosI (formAt pls (l : Nat)) := fun l h => by
      rw [hvl, List.getElem?_map, List.getElem?_eq_getElem h, formAt, if_neg (by omega), Int.toNat_natCast, List.getElem?_eq_getElem h]
      rfl
    simp only [Pl.mk.injEq]
    refine ⟨?_, ?_, ?_, rfl, rfl, hl, rfl⟩
    · show [_] = [_]
      rw [hpr]
      rfl
    · unfold varsOf
      apply List.ext_getElem
      · simp [hpl]
      · intro i h1 h2
        simp only [List.getElem_map, List.getElem_range, List.getElem_replicate]
        split
        · next hk =>
          rw [hz i (by simpa using h1)]
          unfold zerosI
          rw [if_pos hk]
          rfl
        · rfl
    · unfold celsOf
      rw [hpl, List.range_succ_eq_map, List.map_cons, List.map_map]
      congr 1
      · rw [C.both.form0]; rfl
      · refine List.map_congr_left (fun k hk => ?_)
        have hk' : k < ls.length := by simpa using hk
        show (if (formAt pls ((k + 1 : Nat) : Int)).kind = 2 then _ else _) = _
        rw [show ((k + 1 : Nat) : Int) = (k : Int) + 1 from rfl]
        unfold cellN
        split
        · next hk2 =>
          have := hz (k + 1) (by omega)
          rw [show ((k + 1 : Nat) : Int) = (k : Int) + 1 from rfl] at this
          show ((firstM S).values[k + 1]?).getD [] = _
          rw [this]
          unfold zerosI
          rw [if_neg (by omega)]
        · rfl
theorem arr_line (C : Ctx ps pls ls S) {k : Nat} (hk : k < ls.length) : (((first ls[k]).toList == [97, 114, 114, 97, 121]) = true → ∃ h : 2 < ls[k].length, worth ls[k][2] = (cellN pls k : Nat) ∧ cellN pls k ≤ 1000) ∧ (((first ls[k]).toList == [97, 114, 114, 97, 121]) = false → cellN pls k = 0) := by
  have hf := C.both.form hk
  obtain ⟨_, _, hh, _⟩ := kind_hf hf
  rw [show ((k + 1 : Nat) : Int) = (k : Int) + 1 from rfl] at hf hh
  unfold cellN
  generalize ls[k] = t at *
  generalize formAt pls ((k : Int) + 1) = fm at *
  rw [hh]
  cases hf with
  | array x n hx hn h1 h2 => exact ⟨fun _ => ⟨by simp, by simp; omega, by simp; omega⟩, fun h => by simp [idx] at h⟩
  | _ => exact ⟨fun h => by simp [idx] at h, fun _ => rfl⟩
end
end Rf
end Go.Proofs.YthleadfkfnnadaaGreat
