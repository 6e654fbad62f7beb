/- The document's answer: what a line may be, by its first word. -/
import Derived.Test.YthleadfkfnnadaaGreatRef8
namespace Go.Proofs.YthleadfkfnnadaaGreat
open Go.RowKit
theorem Tryz.infoStrs : (Tryz.prog.info? 87).map (fun i => (i.zero, i.size, i.bytes)) = some (some (.slice none 0 0), 1, 24) := by kernel_rfl
def PartsR (w : World) (vs : List Value) (us : List (List ByteArray)) : Prop := vs.length = us.length ∧ ∀ j (h : j < us.length), ∃ v, vs[j]? = some v ∧ Strs w v us[j]
theorem PartsR.later {w w' : World} {vs : List Value} {us : List (List ByteArray)} (h : PartsR w vs us) (hb : Below w.heap.size w w') : PartsR w' vs us :=
  ⟨h.1, fun j hj => let ⟨v, h1, h2⟩ := h.2 j hj; ⟨v, h1, h2.later hb⟩⟩
theorem PartsR.snoc {w : World} {vs : List Value} {us : List (List ByteArray)} (h : PartsR w vs us) {v : Value} {u : List ByteArray} (hv : Strs w v u) : PartsR w (vs ++ [v]) (us ++ [u]) := by
  refine ⟨by simp [h.1], fun j hj => ?_⟩
  by_cases hj' : j < us.length
  · obtain ⟨v', h1, h2⟩ := h.2 j hj'
    exact ⟨v', by rw [List.getElem?_append_left (by rw [h.1]; exact hj')]; exact h1, by rw [List.getElem_append_left hj']; exact h2⟩
  · have hjj : j = us.length := by simp at hj; omega
    subst hjj
    exact ⟨v, by rw [List.getElem?_append_right (by rw [h.1]; exact Nat.le_refl _), h.1]; simp, by simpa using hv⟩
set_option maxHeartbeats 4000000 in
set_option maxRecDepth 100000 in
theorem parts_ref (w : World) (tv : Value) (t : List ByteArray) (ht : Strs w tv t) (hf : Few t) :
    Calls Tryz.prog 156 #[tv] w fun e w' => Below w.heap.size w w' ∧ ∃ v vs, e = .returned v ∧ w'.ownsRow w.heap.size 87 1 v (Rf.parts t).length vs ∧ PartsR w' vs (Rf.parts t) := by
  have hl := hf.1
  obtain ⟨i0, hi, hz0, hz1, hz2⟩ := info_parts Tryz.infoStrs
  obtain ⟨ad, cap, rfl, hcap⟩ := ht.form
  by_cases hz : t.length = 0
  · have hz' : (t.length : Int) = 0 := by omega
    have HE := hide (show Rf.parts t = [] by rw [Rf.parts, if_pos hz])
    go_enter Tryz.func156, Tryz.ntmps156
    go_wp2_with fail
    go_ret
    exact ⟨Below.refl _ _, _, [], rfl, by rw [unhide HE]; exact World.ownsRow_nil _ _ _ _, by rw [unhide HE]; exact ⟨rfl, fun j h => by simp at h⟩⟩
  · have hz' : ((t.length : Int) == 0) = false := by rw [beq_eq_false_iff_ne]; omega
    obtain ⟨b, o, rfl⟩ := ht.nonnil (by intro h; rw [h] at hz; simp at hz)
    have HE := hide (show Rf.parts t = (Rf.partsTo t t.length).1 ++ [t.drop (Rf.partsTo t t.length).2] by rw [Rf.parts, if_neg hz])
    go_enter Tryz.func156, Tryz.ntmps156
    go_wp2_with fail
    have HV := hide ht
    clear ht
    go_loopw [3, 4, 5, 6] (fun v d fr i wr => ∃ (k : Nat) (vs : List Value), k ≤ t.length ∧ i = .int .i64 k ∧ fr = .int .i64 (Rf.partsTo t k).2 ∧ d = .int .i64 (Rf.depth t k) ∧ wr.ownsRow w.heap.size 87 1 v (Rf.partsTo t k).1.length vs ∧ PartsR w vs (Rf.partsTo t k).1 ∧ Below w.heap.size w wr)
      (fun _ _ _ i _ => t.length - (intOf i).toNat)
    case atStart => exact ⟨0, [], Nat.zero_le _, rfl, rfl, rfl, World.ownsRow_nil _ _ _ _, ⟨rfl, fun j h => by simp [Rf.partsTo] at h⟩, Below.refl _ _⟩
    case round =>
      obtain ⟨k, vs, hk, rfl, rfl, rfl, hown, hvs, hbe⟩ := hrel
      obtain ⟨ad, cp, rfl⟩ := ownsRow_form hown
      obtain ⟨pb1, pb2⟩ := Rf.partsTo_b t k
      have hsz := hbe.size
      have hvl := hvs.1
      by_cases hlt : k < t.length
      · obtain ⟨b', o', cap', he, cx⟩ := ((unhide HV).later hbe).cell hlt
        simp at he
        obtain ⟨⟨rfl, rfl⟩, rfl⟩ := he
        have hdb := Rf.depth_b t k
        have HD := hide (show Rf.depth t (k + 1) = Rf.depth t k + Rf.dch t[k] by rw [Rf.depth, Rf.at_lt hlt])
        have HP := hide (show Rf.partsTo t (k + 1) = if (t[k].toList == [44]) = true ∧ Rf.depth t k = 0 then ((Rf.partsTo t k).1 ++ [(t.take k).drop (Rf.partsTo t k).2], k + 1) else Rf.partsTo t k by rw [Rf.partsTo, Rf.at_lt hlt])
        have hlt' : (k : Int) < (t.length : Int) := by omega
        have HX := hide hvs
        clear hvs
        generalize t[k] = x at *
        generalize Rf.depth t k = d at *
        rcases Rf.dch_cases x with ⟨h1, hd⟩ | ⟨h1, h2, hd⟩ | ⟨h1, h2, h3, hd⟩ | ⟨h1, h2, h3, h4, hd⟩ | ⟨h1, h2, h3, h4, hd⟩
        case inr.inr.inr.inr =>
          rw [hd] at HD
          clear hd
          by_cases h5 : (x.toList == [44]) = true ∧ d = 0
          · rw [if_pos h5] at HP
            obtain ⟨h5, rfl⟩ := h5
            have hM := (unhide HV).mid (Rf.partsTo t k).2 k (k - (Rf.partsTo t k).2) (cap - (Rf.partsTo t k).2) (by omega) rfl (by omega)
            have HN := hide ((unhide HX).snoc hM)
            clear hM
            generalize (Rf.partsTo t k).2 = fr at *
            generalize (Rf.partsTo t k).1 = ps at *
            go_wp2_with (at_builtin; refine wpList_append_own _ rfl _ _ 83 rfl w.heap.size 87 i0 _ 1 24 Tryz.underlying83 hi hz0 hz1 hz2 rfl (by decide) _ _ _ rfl (hown.alloc _) ⟨_, 0, none⟩ 1 1 [.slice (some ⟨b, o + fr, none⟩) (k - fr) (cap - fr)] rfl rfl (cell_one_new _ _ _) ?c2 ?c3 ?c4 ?c5 ?_)
            case c2 => first | rfl | (intro u hu; simp at hu; rcases hu with rfl; rfl)
            case c3 => unfold maxLen; omega
            case c4 => omega
            case c5 => first | omega | (simp; omega)
            intro v' w1 hown' hgrow _
            have hb2 := below_append hbe hsz hown hgrow
            clear hgrow hown hbe
            go_wp2_with fail
            go_roundw
            case rel => exact ⟨k + 1, _, by omega, by go_num, by rw [unhide HP]; go_num, by rw [unhide HD]; rfl, by rw [unhide HP]; simpa using hown', by rw [unhide HP]; exact unhide HN, hb2⟩
            case measure => simp [intOf]; omega
          · rw [if_neg h5] at HP
            cases h6 : (x.toList == [44]) with
            | true =>
              have hd0 : ¬ d = 0 := fun h => h5 ⟨h6, h⟩
              go_wp2_with fail
              go_roundw
              case rel => exact ⟨k + 1, _, by omega, by go_num, by rw [unhide HP], by rw [unhide HD] <;> go_num, by rw [unhide HP]; exact hown, by rw [unhide HP]; exact unhide HX, hbe⟩
              case measure => simp [intOf]; omega
            | false =>
              go_wp2_with fail
              go_roundw
              case rel => exact ⟨k + 1, _, by omega, by go_num, by rw [unhide HP], by rw [unhide HD] <;> go_num, by rw [unhide HP]; exact hown, by rw [unhide HP]; exact unhide HX, hbe⟩
              case measure => simp [intOf]; omega
        all_goals
          have h6 : (x.toList == [44]) = false := by simp_all
          rw [hd] at HD
          rw [if_neg (by rw [h6]; simp)] at HP
          clear hd h6
          go_wp2_with fail
          go_roundw
          case rel => exact ⟨k + 1, _, by omega, by go_num, by rw [unhide HP], by rw [unhide HD] <;> go_num, by rw [unhide HP]; exact hown, by rw [unhide HP]; exact unhide HX, hbe⟩
          case measure => simp [intOf]; omega
      · have hlt' : ¬ (k : Int) < (t.length : Int) := by omega
        have hkk : k = t.length := by omega
        subst hkk
        have hM : ∃ o' c', Strs w (.slice (some ⟨b, o', none⟩) (t.length - (Rf.partsTo t t.length).2) c') (t.drop (Rf.partsTo t t.length).2) ∧ (cap = (Rf.partsTo t t.length).2 → o' = o ∧ c' = 0) ∧ (¬ cap = (Rf.partsTo t t.length).2 → o' = o + (Rf.partsTo t t.length).2 ∧ c' = cap - (Rf.partsTo t t.length).2) := by
          by_cases hc : cap = (Rf.partsTo t t.length).2
          · exact ⟨o, 0, Strs.gone (by omega) rfl, fun _ => ⟨rfl, rfl⟩, fun h => absurd hc h⟩
          · exact ⟨_, _, (unhide HV).drop _ _ (cap - (Rf.partsTo t t.length).2) rfl (by omega), fun h => absurd h hc, fun _ => ⟨rfl, rfl⟩⟩
        obtain ⟨o', c', hM1, hM2, hM3⟩ := hM
        have HN := hide (hvs.snoc hM1)
        clear hM1 hvs
        generalize (Rf.partsTo t t.length).2 = fr at *
        generalize (Rf.partsTo t t.length).1 = ps at *
        by_cases hc : cap = fr
        · obtain ⟨rfl, rfl⟩ := hM2 hc
          clear hM2 hM3
          have hfl : fr = t.length := by omega
          have hcl : cap = t.length := by omega
          subst hfl
          rw [Nat.sub_self] at HN
          clear hc
          rw [hcl]
          clear hcl
          go_wp2_with (at_builtin; refine wpList_append_own _ rfl _ _ 83 rfl w.heap.size 87 i0 _ 1 24 Tryz.underlying83 hi hz0 hz1 hz2 rfl (by decide) _ _ _ rfl (hown.alloc _) ⟨_, 0, none⟩ 1 1 [.slice (some ⟨b, o', none⟩) 0 0] rfl rfl (cell_one_new _ _ _) ?c2 ?c3 ?c4 ?c5 ?_)
          case c2 => first | rfl | (intro u hu; simp at hu; rcases hu with rfl; rfl)
          case c3 => unfold maxLen; omega
          case c4 => omega
          case c5 => first | omega | (simp; omega)
          intro v' w1 hown' hgrow _
          have hb2 := below_append hbe hsz hown hgrow
          clear hgrow hown hbe
          go_wp2
          go_ret
          exact ⟨hb2, _, _, rfl, by rw [unhide HE]; simpa using hown', by rw [unhide HE]; exact (unhide HN).later hb2⟩
        · obtain ⟨rfl, rfl⟩ := hM3 hc
          clear hM2 hM3
          have hc1 : ¬ cap - fr = 0 := by omega
          have hc2 : ¬ fr = cap := by omega
          have hc3 : ¬ cap ≤ fr := by omega
          go_wp2_with (at_builtin; refine wpList_append_own _ rfl _ _ 83 rfl w.heap.size 87 i0 _ 1 24 Tryz.underlying83 hi hz0 hz1 hz2 rfl (by decide) _ _ _ rfl (hown.alloc _) ⟨_, 0, none⟩ 1 1 [.slice (some ⟨b, o + fr, none⟩) (t.length - fr) (cap - fr)] rfl rfl (cell_one_new _ _ _) ?c2 ?c3 ?c4 ?c5 ?_)
          case c2 => first | rfl | (intro u hu; simp at hu; rcases hu with rfl; rfl)
          case c3 => unfold maxLen; omega
          case c4 => omega
          case c5 => first | omega | (simp; omega)
          intro v' w1 hown' hgrow _
          have hb2 := below_append hbe hsz hown hgrow
          clear hgrow hown hbe
          go_wp2
          go_ret
          exact ⟨hb2, _, _, rfl, by rw [unhide HE]; simpa using hown', by rw [unhide HE]; exact (unhide HN).later hb2⟩
theorem partsTo_few {t : List ByteArray} (h : Few t) : ∀ i, ∀ u ∈ (Rf.partsTo t i).1, Few u
  | 0, u, hu => by simp [Rf.partsTo] at hu
  | i + 1, u, hu => by
    rw [Rf.partsTo] at hu
    split at hu
    · simp at hu
      rcases hu with hu | rfl
      · exact partsTo_few h i u hu
      · exact (h.take _).drop _
    · exact partsTo_few h i u hu
theorem parts_few {t : List ByteArray} (h : Few t) : ∀ u ∈ Rf.parts t, Few u := by
  intro u hu
  rw [Rf.parts] at hu
  split at hu
  · simp at hu
  · simp at hu
    rcases hu with hu | rfl
    · exact partsTo_few h _ u hu
    · exact h.drop _
theorem parts_length (t : List ByteArray) : (Rf.parts t).length ≤ t.length + 1 := by
  have := (Rf.partsTo_b t t.length).2
  rw [Rf.parts]; split <;> simp; omega
set_option maxHeartbeats 4000000 in
set_option maxRecDepth 100000 in
theorem isCall_ref (t : List ByteArray) (hf : Few t) : Says 137 Rf.isCall t := by
  intro w v hv
  have hl := hf.1
  have HF := hide hf
  obtain ⟨ad, cap, rfl, hcap⟩ := hv.form
  by_cases h2 : t.length < 2
  · have HE := hide (show Rf.isCall t = false by rw [Rf.isCall, if_pos h2])
    have h2' : (t.length : Int) < 2 := by omega
    go_enter Tryz.func137, Tryz.ntmps137
    go_wp2_with fail
    go_ret
    exact ⟨by rw [unhide HE]; rfl, Below.refl _ _⟩
  · obtain ⟨b, o, rfl⟩ := hv.nonnil (by intro h; rw [h] at h2; simp at h2)
    have h1l : 1 < t.length := by omega
    have HE := hide (show Rf.isCall t = ((Rf.parts (t.drop 2)).all Rf.isExpr && Rf.nameB t[1]) by rw [Rf.isCall, if_neg h2, Rf.at_lt h1l])
    have hx1 := hf.2 _ (List.getElem_mem h1l)
    have hx1' : t[1].size ≤ maxLen := by unfold maxLen; omega
    have HV := hide hv
    obtain ⟨b', o', cap', he, cx⟩ := hv.cell h1l
    simp at he
    obtain ⟨⟨rfl, rfl⟩, rfl⟩ := he
    clear hx1 hv
    generalize t[1] = x at *
    have h2' : ¬ (t.length : Int) < 2 := by omega
    have HP := hide (And.intro (parts_few (hf.drop 2)) (parts_length (t.drop 2)))
    clear hf
    go_enter Tryz.func137, Tryz.ntmps137
    go_wp2_with fail
    refine (name_ref x _ hx1').mono ?_
    rintro e w1 ⟨rfl, hb1⟩
    have HV1 := hide ((unhide HV).later hb1)
    have HB1 := hide hb1
    clear hb1 cx
    go_wp2_with fail
    all_goals
      refine (parts_ref _ _ (t.drop 2) (by first | exact Strs.gone (by omega) rfl | exact (unhide HV1).drop 2 _ _ rfl (by omega)) ((unhide HF).drop 2)).mono ?_
      rintro e w2 ⟨hb2, v2, vs, rfl, hown, hvs⟩
      have hpl : (Rf.parts (t.drop 2)).length ≤ 1001 := by have := (unhide HP).2; simp at this; omega
      obtain ⟨ad2, cp2, rfl⟩ := ownsRow_form hown
      have HB2 := hide ((unhide HB1).trans (hb2.mono (B' := w.heap.size) (unhide HB1).size))
      clear hb2
      go_wp2_with fail
      have hpf := (unhide HP).1
      generalize Rf.parts (t.drop 2) = ps at *
      have HPF := hide hpf
      clear hpf HP
      go_loopw [5] (fun i wr => ∃ k : Nat, k ≤ ps.length ∧ i = .int .i64 k ∧ (ps.drop k).all Rf.isExpr = ps.all Rf.isExpr ∧ wr.ownsRow w1.heap.size 87 1 (.slice ad2 ps.length cp2) ps.length vs ∧ PartsR wr vs ps ∧ Below w.heap.size w wr) (fun i _ => ps.length - (intOf i).toNat)
      case atStart => exact ⟨0, Nat.zero_le _, rfl, rfl, hown, hvs, unhide HB2⟩
      case round =>
        obtain ⟨k, hk, rfl, hT, hown3, hvs3, hbe3⟩ := hrel
        by_cases hlt : k < ps.length
        · obtain ⟨u, hu1, hu2⟩ := hvs3.2 k hlt
          obtain ⟨g, cap', hg, _, _, cx⟩ := own_cell hown3 hu1
          simp at hg
          obtain ⟨rfl, rfl⟩ := hg
          rw [List.drop_eq_getElem_cons hlt, List.all_cons] at hT
          have hfk := unhide HPF _ (List.getElem_mem hlt)
          have HT := hide hT
          have HU := hide hu2
          have HX := hide (And.intro hown3 (And.intro hvs3 hbe3))
          have HK := hide hfk
          have hlt' : (k : Int) < (ps.length : Int) := by omega
          clear hT hu2 hown3 hvs3 hbe3 hfk hu1
          generalize ps[k] = y at *
          go_wp2_with fail
          refine (isExpr_ref y (unhide HK) _ _ (unhide HU)).mono ?_
          rintro e w4 ⟨rfl, hb4⟩
          have HB4 := hide hb4
          clear hb4
          cases hn : Rf.isExpr y with
          | true =>
            go_wp2_with fail
            go_roundw
            case rel => exact ⟨k + 1, by omega, by go_num, by have h := unhide HT; rw [hn] at h; simpa using h, own_later (unhide HX).1 (unhide HB4), (unhide HX).2.1.later (unhide HB4), (unhide HX).2.2.trans ((unhide HB4).mono (unhide HX).2.2.size)⟩
            case measure => simp [intOf]; omega
          | false =>
            go_wp2_with fail
            go_ret
            exact ⟨by rw [unhide HE, ← unhide HT, hn]; rfl, (unhide HX).2.2.trans ((unhide HB4).mono (unhide HX).2.2.size)⟩
        · have hlt' : ¬ (k : Int) < (ps.length : Int) := by omega
          rw [List.drop_eq_nil_of_le (by omega)] at hT
          go_wp2_with fail
          go_ret
          exact ⟨by rw [unhide HE, ← hT]; exact ret_bool (by simp), hbe3⟩
set_option maxHeartbeats 8000000 in
set_option maxRecDepth 100000 in
theorem isLine_0 (t : List ByteArray) (hf : Few t) (h0l : 0 < t.length) (e0 : (t[0].toList == [101, 110, 100]) = true) : Says 81 Rf.isLine t := by
  intro w v hv
  have hl := hf.1
  have HF := hide hf
  obtain ⟨ad, cap, rfl, hcap⟩ := hv.form
  obtain ⟨b, o, rfl⟩ := hv.nonnil (by intro h; rw [h] at h0l; simp at h0l)
  have hz : ¬ t.length = 0 := by omega
  have HE0 : Rf.isLine t = Rf.isKind t t[0].toList := by rw [Rf.isLine, if_neg hz, Rf.first, Rf.at_lt h0l]
  unfold Rf.isKind at HE0
  rw [e0, if_pos rfl] at HE0
  have HE := hide HE0
  clear HE0
  have HC : Hid (∀ w' j (hj : j < t.length), Strs w' (.slice (some ⟨b, o, none⟩) t.length cap) t → w'.cell? ⟨b, o + j, none⟩ = some (.string t[j])) := hide (by
    intro w' j hj h
    obtain ⟨b', o', cap', he, c0⟩ := h.cell hj
    simp at he
    obtain ⟨⟨rfl, rfl⟩, rfl⟩ := he
    exact c0)
  have HC0 : Hid (∀ w', Strs w' (.slice (some ⟨b, o, none⟩) t.length cap) t → w'.cell? ⟨b, o, none⟩ = some (.string t[0])) := hide (fun w' h => unhide HC w' 0 h0l h)
  have HV := hide hv
  have hz' : ((t.length : Int) == 0) = false := by rw [beq_eq_false_iff_ne]; omega
  clear hv hf
  generalize t[0] = x at *
  go_enter Tryz.func81, Tryz.ntmps81
  go_wp2_with fail
  all_goals
    refine (allNames_ref _ _ (t.drop 1) (by first | exact Strs.gone (by omega) rfl | exact (unhide HV).drop 1 _ _ rfl (by omega)) ((unhide HF).drop 1)).mono ?_
    rintro e w1 ⟨rfl, hb1⟩
    have HV1 := hide ((unhide HV).later hb1)
    have HB1 := hide hb1
    have cx := unhide HC0 _ (unhide HV1)
    clear hb1
    go_wp2_with fail
    go_ret
    exact ⟨by rw [unhide HE]; exact ret_bool (by rw [Bool.eq_iff_iff]; simp; omega), unhide HB1⟩
set_option maxHeartbeats 8000000 in
set_option maxRecDepth 100000 in
theorem isLine_1 (t : List ByteArray) (hf : Few t) (h0l : 0 < t.length) (e0 : (t[0].toList == [101, 110, 100]) = false) (e1 : (t[0].toList == [101, 108, 115, 101]) = true) : Says 81 Rf.isLine t := by
  intro w v hv
  have hl := hf.1
  have HF := hide hf
  obtain ⟨ad, cap, rfl, hcap⟩ := hv.form
  obtain ⟨b, o, rfl⟩ := hv.nonnil (by intro h; rw [h] at h0l; simp at h0l)
  have hz : ¬ t.length = 0 := by omega
  have HE0 : Rf.isLine t = Rf.isKind t t[0].toList := by rw [Rf.isLine, if_neg hz, Rf.first, Rf.at_lt h0l]
  unfold Rf.isKind at HE0
  rw [e0, if_neg (by decide), e1, if_pos rfl] at HE0
  have HE := hide HE0
  clear HE0
  have HC : Hid (∀ w' j (hj : j < t.length), Strs w' (.slice (some ⟨b, o, none⟩) t.length cap) t → w'.cell? ⟨b, o + j, none⟩ = some (.string t[j])) := hide (by
    intro w' j hj h
    obtain ⟨b', o', cap', he, c0⟩ := h.cell hj
    simp at he
    obtain ⟨⟨rfl, rfl⟩, rfl⟩ := he
    exact c0)
  have HC0 : Hid (∀ w', Strs w' (.slice (some ⟨b, o, none⟩) t.length cap) t → w'.cell? ⟨b, o, none⟩ = some (.string t[0])) := hide (fun w' h => unhide HC w' 0 h0l h)
  have HV := hide hv
  have hz' : ((t.length : Int) == 0) = false := by rw [beq_eq_false_iff_ne]; omega
  clear hv hf
  generalize t[0] = x at *
  go_enter Tryz.func81, Tryz.ntmps81
  go_wp2_with fail
  all_goals
    refine (allNames_ref _ _ (t.drop 1) (by first | exact Strs.gone (by omega) rfl | exact (unhide HV).drop 1 _ _ rfl (by omega)) ((unhide HF).drop 1)).mono ?_
    rintro e w1 ⟨rfl, hb1⟩
    have HV1 := hide ((unhide HV).later hb1)
    have HB1 := hide hb1
    have cx := unhide HC0 _ (unhide HV1)
    clear hb1
    go_wp2_with fail
    go_ret
    exact ⟨by rw [unhide HE]; exact ret_bool (by rw [Bool.eq_iff_iff]; simp; omega), unhide HB1⟩
set_option maxHeartbeats 8000000 in
set_option maxRecDepth 100000 in
theorem isLine_2 (t : List ByteArray) (hf : Few t) (h0l : 0 < t.length) (e0 : (t[0].toList == [101, 110, 100]) = false) (e1 : (t[0].toList == [101, 108, 115, 101]) = false) (e2 : (t[0].toList == [114, 101, 116, 117, 114, 110]) = true) : Says 81 Rf.isLine t := by
  intro w v hv
  have hl := hf.1
  have HF := hide hf
  obtain ⟨ad, cap, rfl, hcap⟩ := hv.form
  obtain ⟨b, o, rfl⟩ := hv.nonnil (by intro h; rw [h] at h0l; simp at h0l)
  have hz : ¬ t.length = 0 := by omega
  have HE0 : Rf.isLine t = Rf.isKind t t[0].toList := by rw [Rf.isLine, if_neg hz, Rf.first, Rf.at_lt h0l]
  unfold Rf.isKind at HE0
  rw [e0, if_neg (by decide), e1, if_neg (by decide), e2, if_pos rfl] at HE0
  have HE := hide HE0
  clear HE0
  have HC : Hid (∀ w' j (hj : j < t.length), Strs w' (.slice (some ⟨b, o, none⟩) t.length cap) t → w'.cell? ⟨b, o + j, none⟩ = some (.string t[j])) := hide (by
    intro w' j hj h
    obtain ⟨b', o', cap', he, c0⟩ := h.cell hj
    simp at he
    obtain ⟨⟨rfl, rfl⟩, rfl⟩ := he
    exact c0)
  have HC0 : Hid (∀ w', Strs w' (.slice (some ⟨b, o, none⟩) t.length cap) t → w'.cell? ⟨b, o, none⟩ = some (.string t[0])) := hide (fun w' h => unhide HC w' 0 h0l h)
  have HV := hide hv
  have hz' : ((t.length : Int) == 0) = false := by rw [beq_eq_false_iff_ne]; omega
  clear hv hf
  generalize t[0] = x at *
  go_enter Tryz.func81, Tryz.ntmps81
  go_wp2_with fail
  all_goals
    refine (allNames_ref _ _ (t.drop 1) (by first | exact Strs.gone (by omega) rfl | exact (unhide HV).drop 1 _ _ rfl (by omega)) ((unhide HF).drop 1)).mono ?_
    rintro e w1 ⟨rfl, hb1⟩
    have HV1 := hide ((unhide HV).later hb1)
    have HB1 := hide hb1
    have cx := unhide HC0 _ (unhide HV1)
    clear hb1
    go_wp2_with fail
    go_ret
    exact ⟨by rw [unhide HE]; exact ret_bool (by rw [Bool.eq_iff_iff]; simp; omega), unhide HB1⟩
set_option maxHeartbeats 8000000 in
set_option maxRecDepth 100000 in
theorem isLine_3 (t : List ByteArray) (hf : Few t) (h0l : 0 < t.length) (e0 : (t[0].toList == [101, 110, 100]) = false) (e1 : (t[0].toList == [101, 108, 115, 101]) = false) (e2 : (t[0].toList == [114, 101, 116, 117, 114, 110]) = false) (e3 : (t[0].toList == [118, 97, 114]) = true) : Says 81 Rf.isLine t := by
  intro w v hv
  have hl := hf.1
  have HF := hide hf
  obtain ⟨ad, cap, rfl, hcap⟩ := hv.form
  obtain ⟨b, o, rfl⟩ := hv.nonnil (by intro h; rw [h] at h0l; simp at h0l)
  have hz : ¬ t.length = 0 := by omega
  have HE0 : Rf.isLine t = Rf.isKind t t[0].toList := by rw [Rf.isLine, if_neg hz, Rf.first, Rf.at_lt h0l]
  unfold Rf.isKind at HE0
  rw [e0, if_neg (by decide), e1, if_neg (by decide), e2, if_neg (by decide), e3, if_pos rfl] at HE0
  have HE := hide HE0
  clear HE0
  have HC : Hid (∀ w' j (hj : j < t.length), Strs w' (.slice (some ⟨b, o, none⟩) t.length cap) t → w'.cell? ⟨b, o + j, none⟩ = some (.string t[j])) := hide (by
    intro w' j hj h
    obtain ⟨b', o', cap', he, c0⟩ := h.cell hj
    simp at he
    obtain ⟨⟨rfl, rfl⟩, rfl⟩ := he
    exact c0)
  have HC0 : Hid (∀ w', Strs w' (.slice (some ⟨b, o, none⟩) t.length cap) t → w'.cell? ⟨b, o, none⟩ = some (.string t[0])) := hide (fun w' h => unhide HC w' 0 h0l h)
  have HV := hide hv
  have hz' : ((t.length : Int) == 0) = false := by rw [beq_eq_false_iff_ne]; omega
  clear hv hf
  generalize t[0] = x at *
  go_enter Tryz.func81, Tryz.ntmps81
  go_wp2_with fail
  all_goals
    refine (allNames_ref _ _ (t.drop 1) (by first | exact Strs.gone (by omega) rfl | exact (unhide HV).drop 1 _ _ rfl (by omega)) ((unhide HF).drop 1)).mono ?_
    rintro e w1 ⟨rfl, hb1⟩
    have HV1 := hide ((unhide HV).later hb1)
    have HB1 := hide hb1
    have cx := unhide HC0 _ (unhide HV1)
    clear hb1
    by_cases hn : t.length = 2
    · have hn' : ((t.length : Int) == 2) = true := by rw [beq_iff_eq]; omega
      rw [decide_eq_true hn] at HE
      go_wp2_with fail
      all_goals
        go_ret
        exact ⟨by rw [unhide HE]; exact ret_bool (by simp_all), unhide HB1⟩
    · have hn' : ((t.length : Int) == 2) = false := by rw [beq_eq_false_iff_ne]; omega
      rw [decide_eq_false hn] at HE
      go_wp2_with fail
      all_goals
        go_ret
        exact ⟨by rw [unhide HE]; exact ret_bool (by simp), unhide HB1⟩
set_option maxHeartbeats 8000000 in
set_option maxRecDepth 100000 in
theorem isLine_6 (t : List ByteArray) (hf : Few t) (h0l : 0 < t.length) (e0 : (t[0].toList == [101, 110, 100]) = false) (e1 : (t[0].toList == [101, 108, 115, 101]) = false) (e2 : (t[0].toList == [114, 101, 116, 117, 114, 110]) = false) (e3 : (t[0].toList == [118, 97, 114]) = false) (e4 : (t[0].toList == [114, 101, 97, 100]) = false) (e5 : (t[0].toList == [112, 114, 111, 99]) = false) (e6 : (t[0].toList == [105, 102]) = true) : Says 81 Rf.isLine t := by
  intro w v hv
  have hl := hf.1
  have HF := hide hf
  obtain ⟨ad, cap, rfl, hcap⟩ := hv.form
  obtain ⟨b, o, rfl⟩ := hv.nonnil (by intro h; rw [h] at h0l; simp at h0l)
  have hz : ¬ t.length = 0 := by omega
  have HE0 : Rf.isLine t = Rf.isKind t t[0].toList := by rw [Rf.isLine, if_neg hz, Rf.first, Rf.at_lt h0l]
  unfold Rf.isKind at HE0
  rw [e0, if_neg (by decide), e1, if_neg (by decide), e2, if_neg (by decide), e3, if_neg (by decide), e4, if_neg (by decide), e5, if_neg (by decide), e6, if_pos rfl] at HE0
  have HE := hide HE0
  clear HE0
  have HC : Hid (∀ w' j (hj : j < t.length), Strs w' (.slice (some ⟨b, o, none⟩) t.length cap) t → w'.cell? ⟨b, o + j, none⟩ = some (.string t[j])) := hide (by
    intro w' j hj h
    obtain ⟨b', o', cap', he, c0⟩ := h.cell hj
    simp at he
    obtain ⟨⟨rfl, rfl⟩, rfl⟩ := he
    exact c0)
  have HC0 : Hid (∀ w', Strs w' (.slice (some ⟨b, o, none⟩) t.length cap) t → w'.cell? ⟨b, o, none⟩ = some (.string t[0])) := hide (fun w' h => unhide HC w' 0 h0l h)
  have HV := hide hv
  have hz' : ((t.length : Int) == 0) = false := by rw [beq_eq_false_iff_ne]; omega
  clear hv hf
  generalize t[0] = x at *
  go_enter Tryz.func81, Tryz.ntmps81
  go_wp2_with fail
  all_goals
    refine (allNames_ref _ _ (t.drop 1) (by first | exact Strs.gone (by omega) rfl | exact (unhide HV).drop 1 _ _ rfl (by omega)) ((unhide HF).drop 1)).mono ?_
    rintro e w1 ⟨rfl, hb1⟩
    have HV1 := hide ((unhide HV).later hb1)
    have HB1 := hide hb1
    have cx := unhide HC0 _ (unhide HV1)
    clear hb1
    go_wp2_with fail
    all_goals
      refine (isExpr_ref _ ((unhide HF).drop 1) _ _ (by first | exact Strs.gone (by omega) rfl | exact (unhide HV1).drop 1 _ _ rfl (by omega))).mono ?_
      rintro e w2 ⟨rfl, hb2⟩
      have HB2 := hide ((unhide HB1).trans (hb2.mono (B' := w.heap.size) (unhide HB1).size))
      clear hb2
      go_wp2_with fail
      go_ret
      exact ⟨by rw [unhide HE]; first | rfl | exact ret_bool (by simp), unhide HB2⟩
end Go.Proofs.YthleadfkfnnadaaGreat
