/- A text with more blanks, a text without blanks: the walks of loose and bare. -/
import Derived.Test.YtopeochnoefgcaaDoorMkH
import Derived.Test.YtopeochnoefgcaaDoorTdA
import Derived.Test.YtopeochnoefgcaaDoorMkS
import Derived.Test.YtopeochnoefgcaaDoorTdE
import Derived.Test.YtopeochnoefgcaaDoorTidy1
namespace Go.Proofs.YtopeochnoefgcaaDoor
open Go.RowKit

set_option maxHeartbeats 2000000 in
set_option maxRecDepth 100000 in
theorem bare_any (s : ByteArray) (w : World) (hs : s.size ≤ 100000) :
    Calls Tryd.prog 7 #[.string s] w fun e w' => e = .returned (.string (Rt.bareB s)) ∧ Below w.heap.size w w' := by
  go_enter Tryd.func7, Tryd.ntmps7
  go_wp2
  go_loopw [3, 4] (fun o i wr => ∃ k : Nat, k ≤ s.size ∧ i = .int .i64 k ∧ o = .string (Rt.bareTo s k) ∧ Below w.heap.size w wr) (fun _ i _ => s.size - (intOf i).toNat)
  case atStart => exact ⟨0, Nat.zero_le _, rfl, rfl, Below.refl _ _⟩
  case round =>
    obtain ⟨k, hk, rfl, rfl, hb⟩ := hrel
    by_cases hlt : k < s.size
    · have HS : Hid (Rt.bareTo s (k + 1) = if (s[k].toNat : Int) = 32 then Rt.bareTo s k else Rt.bareTo s k ++ s.extract k (k + 1)) := by rw [← Rt.byteAt_lt hlt]; rfl
      have hz := Rt.bareTo_size s k hk
      have hx : (s.extract k (k + 1)).size ≤ 1 := by rw [ByteArray.size_extract]; omega
      have a1 := madd_text (a := Rt.bareTo s k) (b := s.extract k (k + 1)) (by omega)
      have hw : IntKind.i64.wrap ((k : Int) + 1) = (k : Int) + 1 := by rw [IntWalk.i64_left, IntWalk.wrap64_in _ (by omega)]
      have HB := hide hb
      clear hb
      by_cases h32 : (s[k].toNat : Int) = 32
      · have h32' : ((s[k].toNat : Int) != 32) = false := by simpa using h32
        go_wp2
        refine ⟨⟨k + 1, by omega, by go_num, ?_, unhide HB⟩, by simp [intOf]; omega⟩
        rw [HS.out, if_pos h32]
      · have h32' : ((s[k].toNat : Int) != 32) = true := by simpa using h32
        go_wp2
        refine ⟨⟨k + 1, by omega, by go_num, ?_, unhide HB⟩, by simp [intOf]; omega⟩
        rw [HS.out, if_neg h32]
    · have hkk : k = s.size := by omega
      subst hkk
      go_wp2
      go_ret
      exact ⟨rfl, hb⟩

set_option maxHeartbeats 4000000 in
set_option maxRecDepth 100000 in
theorem loose_any (s : ByteArray) (w : World) (sv : Value) (salt : List Int) (hs : s.size ≤ 10000) (hc : IntsR w w.heap.size sv salt) :
    Calls Tryd.prog 5 #[.string s, sv] w fun e w' => e = .returned (.string (Rt.looseB s salt)) ∧ Below w.heap.size w w' := by
  obtain ⟨ad, cap, rfl, hcap, hmax, hrng, hcells⟩ := hc
  unfold maxLen at hmax
  by_cases h0 : salt.length = 0
  · have h0' : ((salt.length : Int) == 0) = true := by simpa using h0
    have HE := hide (show Rt.looseB s salt = s by unfold Rt.looseB; rw [if_pos h0])
    clear hcells hrng h0
    go_enter Tryd.func5, Tryd.ntmps5
    go_wp2
    go_ret
    exact ⟨by rw [unhide HE]; rfl, Below.refl _ _⟩
  have h0' : ((salt.length : Int) == 0) = false := by rw [beq_eq_false_iff_ne]; omega
  have HE := hide (show Rt.looseB s salt = (Rt.looseTo s salt s.size).1 by unfold Rt.looseB; rw [if_neg h0])
  obtain ⟨b, off, rfl, hbl, _, hcell⟩ : ∃ b off, ad = some ⟨b, off, none⟩ ∧ b < w.heap.size ∧ b < w.heap.size ∧ ∀ j (h : j < salt.length), w.cell? ⟨b, off + j, none⟩ = some (.int .i64 salt[j]) := by
    rcases hcells with h | h
    · rw [h] at h0; simp at h0
    · exact h
  have hpos : 0 < salt.length := by omega
  have HP := hide hpos
  clear hcells h0 hpos
  go_enter Tryd.func5, Tryd.ntmps5
  go_wp2
  go_loopw [5, 6, 7, 8] (fun o kv i _ wr => ∃ j : Nat, j ≤ s.size ∧ i = .int .i64 j ∧ o = .string (Rt.looseTo s salt j).1 ∧ kv = .int .i64 (Rt.looseTo s salt j).2 ∧ (Rt.looseTo s salt j).2 ≤ j ∧ Below w.heap.size w wr) (fun _ _ i _ _ => s.size - (intOf i).toNat)
  case atStart => exact ⟨0, Nat.zero_le _, rfl, rfl, rfl, Nat.le_refl _, Below.refl _ _⟩
  case round =>
    obtain ⟨j, hj, rfl, rfl, rfl, hk, hb⟩ := hrel
    by_cases hlt : j < s.size
    · have hbl' : Rt.isBlank s j = (decide ((s[j].toNat : Int) = 32) || decide ((s[j].toNat : Int) = 10)) := by unfold Rt.isBlank; rw [Rt.byteAt_lt hlt]
      have HS : Hid (Rt.looseTo s salt (j + 1) = if Rt.isBlank s j = true then (Rt.blanksB ((Rt.looseTo s salt j).1 ++ s.extract j (j + 1)) (Rt.saltAt salt (Rt.looseTo s salt j).2), (Rt.looseTo s salt j).2 + 1) else ((Rt.looseTo s salt j).1 ++ s.extract j (j + 1), (Rt.looseTo s salt j).2)) := hide rfl
      have hz := Rt.looseTo_size s salt j hj
      have hx : (s.extract j (j + 1)).size ≤ 1 := by rw [ByteArray.size_extract]; omega
      have a1 := madd_text (a := (Rt.looseTo s salt j).1) (b := s.extract j (j + 1)) (by omega)
      have ho2 : ((Rt.looseTo s salt j).1 ++ s.extract j (j + 1)).size ≤ 1000000 := by rw [ByteArray.size_append]; omega
      have hw : IntKind.i64.wrap ((j : Int) + 1) = (j : Int) + 1 := by rw [IntWalk.i64_left, IntWalk.wrap64_in _ (by omega)]
      have HB := hide hb
      generalize HL2 : (Rt.looseTo s salt j).2 = q at *
      generalize (Rt.looseTo s salt j).1 = o1 at *
      generalize o1 ++ s.extract j (j + 1) = o2 at *
      clear hb
      by_cases h32 : (s[j].toNat : Int) = 32 ∨ (s[j].toNat : Int) = 10
      · have HT := hide (show Rt.isBlank s j = true by rw [hbl']; simpa using h32)
        clear hbl'
        obtain ⟨ia, qa⟩ := Int.eq_ofNat_of_zero_le (Int.emod_nonneg (q : Int) (show (salt.length : Int) ≠ 0 by have := unhide HP; omega))
        have qa1 : (ia : Int) < (salt.length : Int) := by rw [← qa]; exact Int.emod_lt_of_pos _ (by have := unhide HP; omega)
        have qa0 : (0 : Int) ≤ (ia : Int) := by omega
        have hla : ia < salt.length := by omega
        have hsx := hrng salt[ia] (List.getElem_mem hla)
        have hce : wr.cell? ⟨b, off + ia, none⟩ = some (.int .i64 salt[ia]) := by rw [(unhide HB).cell (p := ⟨b, off + ia, none⟩) hbl]; exact hcell ia hla
        have HSA : Hid (Rt.saltAt salt q = (Rt.pickP salt[ia] 3).toNat) := by
          refine hide ?_
          unfold Rt.saltAt
          have : q % salt.length = ia := by
            have := qa
            have h2 : ((q % salt.length : Nat) : Int) = (q : Int) % (salt.length : Int) := Int.natCast_emod q salt.length
            omega
          rw [this, List.getElem?_eq_getElem hla]
          rfl
        generalize salt[ia] = sx at *
        have ewz : ((salt.length : Int) == 0) = false := h0'
        have hb12 : ((s[j].toNat : Int) == 32) = true ∨ (((s[j].toNat : Int) == 32) = false ∧ ((s[j].toNat : Int) == 10) = true) := by
          rcases h32 with h32 | h32
          · exact Or.inl (by simpa using h32)
          · exact Or.inr ⟨by rw [beq_eq_false_iff_ne]; omega, by simpa using h32⟩
        clear h32
        rcases hb12 with hb1 | ⟨hb1, hb2⟩
        all_goals
          go_wp2_with fail
          refine (pick_any _ sx 3 hsx.1 hsx.2 (by omega) (by omega)).mono ?_
          rintro e w1 ⟨rfl, rfl⟩
          have hp3 := Rt.pick3 sx
          obtain ⟨nn, hnn⟩ := Int.eq_ofNat_of_zero_le hp3.1
          have HNN := hide (show Rt.saltAt salt q = nn by rw [unhide HSA, hnn]; simp)
          rw [hnn] at hp3 ⊢
          clear hnn HSA
          go_wp2_with fail
          go_loopw [5, 8] (fun o nv wr2 => ∃ m p : Nat, m + p = nn ∧ nv = .int .i64 m ∧ o = .string (Rt.blanksB o2 p) ∧ (Rt.blanksB o2 p).size ≤ 1000000 + p ∧ Below w.heap.size w wr2) (fun _ nv _ => (intOf nv).toNat)
          case atStart => exact ⟨nn, 0, by omega, rfl, rfl, by show o2.size ≤ _; omega, unhide HB⟩
          case round =>
            obtain ⟨m, p, hmp, rfl, rfl, hbs, hbb⟩ := hrel
            have HBB := hide hbb
            clear hbb
            have a2 := madd_text (a := Rt.blanksB o2 p) (b := ⟨#[32]⟩) (by show _ + 1 ≤ _; omega)
            by_cases hm : 0 < m
            · have hm' : (0 : Int) < (m : Int) := by omega
              have hwm : IntKind.i64.wrap ((m : Int) - 1) = (m : Int) - 1 := by rw [IntWalk.i64_left, IntWalk.wrap64_in _ (by omega)]
              have HBS : Hid (Rt.blanksB o2 (p + 1) = Rt.blanksB o2 p ++ ⟨#[32]⟩) := hide rfl
              go_wp2_with fail
              go_roundw
              case rel =>
                refine ⟨m - 1, p + 1, by omega, by go_num, by rw [unhide HBS], ?_, unhide HBB⟩
                rw [unhide HBS, ByteArray.size_append]
                show _ + 1 ≤ _
                omega
              case measure => simp [intOf]; omega
            · have hm' : ¬ (0 : Int) < (m : Int) := by omega
              have hpn : p = nn := by omega
              subst hpn
              have hwq : IntKind.i64.wrap ((q : Int) + 1) = (q : Int) + 1 := by rw [IntWalk.i64_left, IntWalk.wrap64_in _ (by omega)]
              go_wp2_with fail
              go_roundw
              case rel =>
                refine ⟨j + 1, by omega, by go_num, ?_, ?_, ?_, unhide HBB⟩
                · rw [unhide HS, if_pos (unhide HT), unhide HNN]
                · rw [unhide HS, if_pos (unhide HT)]; go_num
                · rw [unhide HS, if_pos (unhide HT)]; show q + 1 ≤ _; omega
              case measure => simp [intOf]; omega
      · have HT := hide (show ¬ Rt.isBlank s j = true by rw [hbl']; simpa using h32)
        clear hbl'
        have hb1 : ((s[j].toNat : Int) == 32) = false := by rw [beq_eq_false_iff_ne]; omega
        have hb2 : ((s[j].toNat : Int) == 10) = false := by rw [beq_eq_false_iff_ne]; omega
        clear h32
        go_wp2_with fail
        go_roundw
        case rel =>
          refine ⟨j + 1, by omega, by go_num, ?_, ?_, ?_, unhide HB⟩
          · rw [unhide HS, if_neg (unhide HT)]
          · rw [unhide HS, if_neg (unhide HT)]
          · rw [unhide HS, if_neg (unhide HT)]; show q ≤ _; omega
        case measure => simp [intOf]; omega
    · have hjj : j = s.size := by omega
      subst hjj
      go_wp2_with fail
      go_ret
      exact ⟨by rw [unhide HE]; rfl, hb⟩
end Go.Proofs.YtopeochnoefgcaaDoor

namespace Go.Proofs.YtopeochnoefgcaaDoor
open Go.RowKit

namespace Rt
theorem read_fit {s : ByteArray} {pls : List PL} (h : readS s = (0, 0, pls)) (hs : tooLong s = false) (hl : (lines s).length ≤ 100) (hz : s.size ≤ 40000) : (∀ p ∈ pls, Fit p) ∧ (stopsP pls).length ≤ 1000 := by
  obtain ⟨ps, rfl, _, hp, hd⟩ := read_parts h hs
  have hlen : ps.length = (lines s).length := by have := congrArg List.length hp; simpa using this.symm
  refine ⟨?_, ?_⟩
  · intro p hpm
    rcases List.mem_cons.mp hpm with rfl | hpm
    · exact zPL_fit
    · have h1 : some p.toks ∈ (lines s).map toks := by rw [hp]; exact List.mem_map_of_mem hpm
      obtain ⟨x, hx, hxt⟩ := List.mem_map.mp h1
      obtain ⟨h2, h3⟩ := toks_facts (lines_facts hz x hx) hxt
      have := hd p hpm
      exact ⟨by omega, h3, by omega⟩
  · rw [stopsP, stopsFrom_len]
    have := List.length_filter_le (isStopP (zPL :: ps)) ((zPL :: ps).drop 1)
    simp at this ⊢
    omega
theorem tidied_all (code salt : List Int) : ∃ pls, readS (srcB code) = (0, 0, pls) ∧ readS (looseB (srcB code) salt) = (0, 0, pls) ∧ readS (tidyP pls) = (0, 0, pls) ∧ bareB (tidyP pls) = bareB (srcB code) ∧ 2 ≤ (stopsP pls).length ∧ (stopsP pls).length ≤ 1000 ∧ (∀ p ∈ pls, Fit p) ∧ (srcB code).size ≤ 10000 ∧ (looseB (srcB code) salt).size ≤ 100000 ∧ (tidyP pls).size ≤ 100000 := by
  obtain ⟨n, m, hn, e, hm⟩ := looseB_ok (srcB code) salt
  obtain ⟨pls, h1, h2, h3, h4, h5, h6⟩ := tidied_plain code _ n m hn e hm
  obtain ⟨pls', fb, mb, g1, _, gl, _, gz, gt⟩ := src_read code
  rw [h1] at g1
  injection g1 with _ g1
  injection g1 with _ g1
  subst g1
  obtain ⟨f1, f2⟩ := read_fit h1 gt gl (by omega)
  refine ⟨pls, h1, h2, h3, ?_, h5, f2, f1, by omega, ?_, by omega⟩
  · apply bytes_ext
    rw [bareB_bytes, bareB_bytes, h4]
  · have h7 := hm.size
    rw [bytes_size] at h7
    rw [← bytes_size, e]
    simp only [List.length_append, List.length_replicate]
    omega
end Rt

theorem tidy_ok {s : ByteArray} {pls : List Rt.PL} (w : World) (h : Rt.readS s = (0, 0, pls)) (hf : ∀ p ∈ pls, Rt.Fit p) (hs : s.size ≤ 100000) :
    Calls Tryd.prog 6 #[.string s] w fun e w' => e = .returned (.tuple #[.string (Rt.tidyP pls), .int .i64 0, .int .i64 0]) ∧ Below w.heap.size w w' := by
  refine (tidy_any s w (by unfold maxLen; omega) (fun _ => by rw [h]; exact hf)).mono ?_
  rintro e w' ⟨hb, er, ln, pls', hR, hc⟩
  rw [h] at hR
  injection hR with e1 hR
  injection hR with e2 e3
  subst e1 e2 e3
  rcases hc with ⟨h0, _⟩ | ⟨_, _, he⟩
  · exact absurd rfl h0
  · exact ⟨he, hb⟩
theorem stops_ok {s : ByteArray} {pls : List Rt.PL} (w : World) (h : Rt.readS s = (0, 0, pls)) (hs : s.size ≤ 100000) :
    Calls Tryd.prog 8 #[.string s] w fun e w' => Below w.heap.size w w' ∧ ∃ v, e = .returned (.tuple #[v, .int .i64 0, .int .i64 0]) ∧ w'.ownsRow w.heap.size 3 1 v (Rt.stopsP pls).length (ints (Rt.stopsP pls)) := by
  refine (stops_any s w (by unfold maxLen; omega)).mono ?_
  rintro e w' ⟨hb, er, ln, pls', hR, hc⟩
  rw [h] at hR
  injection hR with e1 hR
  injection hR with e2 e3
  subst e1 e2 e3
  rcases hc with ⟨h0, _⟩ | ⟨_, _, v, he, hv⟩
  · exact absurd rfl h0
  · exact ⟨hb, v, he, hv⟩

set_option maxHeartbeats 4000000 in
set_option maxRecDepth 100000 in
theorem Tidied_any (w : World) (cv sv : Value) (code salt : List Int) (hc : IntsR w w.heap.size cv code) (hsl : IntsR w w.heap.size sv salt) :
    Calls Tryd.prog 3 #[cv, sv] w fun e w' => e = .returned (.bool true) ∧ Below w.heap.size w w' := by
  obtain ⟨pls, r1, r2, r3, r4, r5, r6, r7, r8, r9, r10⟩ := Rt.tidied_all code salt
  have cform : ∃ ad cap, cv = .slice ad code.length cap := by obtain ⟨ad, cap, h, _⟩ := hc; exact ⟨ad, cap, h⟩
  have sform : ∃ ad cap, sv = .slice ad salt.length cap := by obtain ⟨ad, cap, h, _⟩ := hsl; exact ⟨ad, cap, h⟩
  obtain ⟨cad, ccap, rfl⟩ := cform
  obtain ⟨sad, scap, rfl⟩ := sform
  have HX := hide (And.intro r1 (And.intro r2 (And.intro r3 (And.intro r4 (And.intro r7 hsl)))))
  clear r1 r2 r3 r4 r7 hsl
  generalize HT : Rt.srcB code = text at *
  generalize HWd : Rt.looseB text salt = wide at *
  generalize HTd : Rt.tidyP pls = td at *
  generalize HST : Rt.stopsP pls = st at *
  go_enter Tryd.func3, Tryd.ntmps3
  go_wp2_with fail
  refine (source_any _ _ code hc).mono ?_
  rintro e w1 ⟨rfl, hb1⟩
  rw [HT]
  have HB1 := hide hb1
  clear hb1 hc
  go_wp2_with fail
  refine (loose_any text _ _ salt (by omega) (IntsR.kept (B := w1.heap.size) (w := w) (by obtain ⟨ad, cap, h1, h2, h3, h4, h5⟩ := (unhide HX).2.2.2.2.2; refine ⟨ad, cap, h1, h2, h3, h4, ?_⟩; rcases h5 with h5 | ⟨b, off, a1, a2, a3, a4⟩; exact Or.inl h5; exact Or.inr ⟨b, off, a1, Nat.lt_of_lt_of_le a2 (unhide HB1).size, a3, a4⟩) (fun b o _ hb => (unhide HB1).cell (p := ⟨b, o, none⟩) hb) (unhide HB1).size)).mono ?_
  rintro e w2 ⟨rfl, hb2⟩
  rw [HWd]
  have HB2 := hide ((unhide HB1).trans (hb2.mono (B' := w.heap.size) (unhide HB1).size))
  clear hb2 HB1
  go_wp2_with fail
  refine (tidy_ok _ (unhide HX).1 (unhide HX).2.2.2.2.1 (by omega)).mono ?_
  rintro e w3 ⟨rfl, hb3⟩
  rw [HTd]
  have HB3 := hide ((unhide HB2).trans (hb3.mono (B' := w.heap.size) (unhide HB2).size))
  clear hb3 HB2
  go_wp2_with fail
  refine (tidy_ok _ (unhide HX).2.1 (unhide HX).2.2.2.2.1 (by omega)).mono ?_
  rintro e w4 ⟨rfl, hb4⟩
  rw [HTd]
  have HB4 := hide ((unhide HB3).trans (hb4.mono (B' := w.heap.size) (unhide HB3).size))
  clear hb4 HB3
  go_wp2_with fail
  refine (tidy_ok _ (unhide HX).2.2.1 (unhide HX).2.2.2.2.1 (by omega)).mono ?_
  rintro e w5 ⟨rfl, hb5⟩
  rw [HTd]
  have HB5 := hide ((unhide HB4).trans (hb5.mono (B' := w.heap.size) (unhide HB4).size))
  clear hb5 HB4
  go_wp2_with fail
  refine (bare_any td _ (by omega)).mono ?_
  rintro e w6 ⟨rfl, hb6⟩
  have HB6 := hide ((unhide HB5).trans (hb6.mono (B' := w.heap.size) (unhide HB5).size))
  clear hb6 HB5
  go_wp2_with fail
  refine (bare_any text _ (by omega)).mono ?_
  rintro e w7 ⟨rfl, hb7⟩
  have HB7 := hide ((unhide HB6).trans (hb7.mono (B' := w.heap.size) (unhide HB6).size))
  clear hb7 HB6
  have hbe : Rt.bareB td = Rt.bareB text := (unhide HX).2.2.2.1
  rw [hbe]
  clear hbe
  generalize Rt.bareB text = bt at *
  go_wp2_with fail
  refine (stops_ok _ (unhide HX).1 (by omega)).mono ?_
  rintro e w8 ⟨hb8, v8, rfl, hv8⟩
  rw [HST] at hv8
  obtain ⟨ad8, cap8, rfl⟩ := ownsRow_form hv8
  have HB8 := hide ((unhide HB7).trans (hb8.mono (B' := w.heap.size) (unhide HB7).size))
  have HV8 := hide hv8
  clear hb8 HB7 hv8
  go_wp2_with fail
  refine (stops_ok _ (unhide HX).2.1 (by omega)).mono ?_
  rintro e w9 ⟨hb9, v9, rfl, hv9⟩
  rw [HST] at hv9
  obtain ⟨ad9, cap9, rfl⟩ := ownsRow_form hv9
  have HV8b := hide (own_later (unhide HV8) hb9)
  have HB9 := hide ((unhide HB8).trans (hb9.mono (B' := w.heap.size) (unhide HB8).size))
  have HV9 := hide hv9
  clear hb9 HB8 hv9 HV8
  go_wp2_with fail
  refine (stops_ok _ (unhide HX).2.2.1 (by omega)).mono ?_
  rintro e w10 ⟨hb10, v10, rfl, hv10⟩
  rw [HST] at hv10
  obtain ⟨ad10, cap10, rfl⟩ := ownsRow_form hv10
  have HV8c := hide (own_later (unhide HV8b) hb10)
  have HV9b := hide (own_later (unhide HV9) hb10)
  have HB10 := hide ((unhide HB9).trans (hb10.mono (B' := w.heap.size) (unhide HB9).size))
  have HV10 := hide hv10
  clear hb10 HB9 hv10 HV8b HV9
  go_wp2_with fail
  refine (sameInts_keep _ _ _ _ _ st st (unhide HV8c) (unhide HV9b) r6 r6).mono ?_
  rintro e w11 ⟨rfl, hb11⟩
  have HV8d := hide (own_later (unhide HV8c) hb11)
  have HV10b := hide (own_later (unhide HV10) hb11)
  have HB11 := hide ((unhide HB10).trans (hb11.mono (B' := w.heap.size) (unhide HB10).size))
  clear hb11 HB10 HV10 HV8c HV9b
  go_wp2_with fail
  refine (sameInts_keep _ _ _ _ _ st st (unhide HV8d) (unhide HV10b) r6 r6).mono ?_
  rintro e w12 ⟨rfl, hb12⟩
  have HB12 := hide ((unhide HB11).trans (hb12.mono (B' := w.heap.size) (unhide HB11).size))
  clear hb12 HB11 HV8d HV10b
  have hdt : decide (st = st) = true := by simp
  rw [hdt]
  have h2' : (2 : Int) ≤ (st.length : Int) := by omega
  go_wp2_with fail
  go_ret
  exact ⟨rfl, unhide HB12⟩
end Go.Proofs.YtopeochnoefgcaaDoor

