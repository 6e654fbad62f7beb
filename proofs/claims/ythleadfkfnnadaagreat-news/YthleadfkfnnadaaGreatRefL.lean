/- The document's answer: the walk of Read. -/
import Derived.Test.YthleadfkfnnadaaGreatRowA
namespace Go.Proofs.YthleadfkfnnadaaGreat
open Go.RowKit
def LinesR (w : World) (B : Nat) (vs : List Value) (ls : List (List ByteArray)) : Prop := vs.length = ls.length ∧ ∀ j (h : j < ls.length), ∃ v, vs[j]? = some v ∧ w.ownsRow B 9 1 v ls[j].length (ls[j].map Value.string)
structure SrcS (w : World) (S : Nat) (ls : List (List ByteArray)) (lv : Value) (vs : List Value) : Prop where
  block : w.heap[S]? = some (.cells #[lv] 85 (0, 0))
  own : w.ownsRow (S + 1) 87 1 lv ls.length vs
  lines : LinesR w (S + 1) vs ls
theorem LinesR.map {w w' : World} {B : Nat} {vs : List Value} {ls : List (List ByteArray)} (h : LinesR w B vs ls) (hx : ∀ (n : Nat) (v : Value) (xs : List Value), w.ownsRow B 9 1 v n xs → w'.ownsRow B 9 1 v n xs) : LinesR w' B vs ls :=
  ⟨h.1, fun j hj => let ⟨v, h1, h2⟩ := h.2 j hj; ⟨v, h1, hx _ _ _ h2⟩⟩
theorem LinesR.snoc {w : World} {B : Nat} {vs : List Value} {ls : List (List ByteArray)} (h : LinesR w B vs ls) {v : Value} {u : List ByteArray} (hv : w.ownsRow B 9 1 v u.length (u.map Value.string)) : LinesR w B (vs ++ [v]) (ls ++ [u]) := by
  refine ⟨by simp [h.1], fun j hj => ?_⟩
  by_cases hj' : j < ls.length
  · obtain ⟨v', h1, h2⟩ := h.2 j hj'
    exact ⟨v', by rw [List.getElem?_append_left (by rw [h.1]; exact hj')]; exact h1, by rw [List.getElem_append_left hj']; exact h2⟩
  · have hjj : j = ls.length := by simp at hj; omega
    subst hjj
    exact ⟨v, by rw [List.getElem?_append_right (by rw [h.1]; exact Nat.le_refl _), h.1]; simp, by simpa using hv⟩
theorem SrcS.later {w w' : World} {S : Nat} {ls : List (List ByteArray)} {lv : Value} {vs : List Value} (h : SrcS w S ls lv vs) (hb : Below w.heap.size w w') : SrcS w' S ls lv vs :=
  ⟨block_later h.block hb, own_later h.own hb, h.lines.map (fun _ _ _ h => own_later h hb)⟩
theorem SrcS.push {w w1 w2 : World} {S : Nat} {ls : List (List ByteArray)} {lv lv' : Value} {vs : List Value} {t : List ByteArray} {v : Value} (h : SrcS w S ls lv vs) (hv : w.ownsRow (S + 1) 9 1 v t.length (t.map Value.string)) (hb : Below w.heap.size w w1)
    (hown : w2.ownsRow (S + 1) 87 1 lv' (ls.length + 1) (vs ++ [v])) (hgrow : w1.grownBy w2 lv.ownBlock) :
    SrcS (w2.setCell ⟨S, 0, none⟩ lv') S (ls ++ [t]) lv' (vs ++ [v]) ∧ Below S w (w2.setCell ⟨S, 0, none⟩ lv') ∧ ∀ (B n : Nat) (u : Value) (xs : List Value), S + 1 ≤ B → w.ownsRow B 9 1 u n xs → (w2.setCell ⟨S, 0, none⟩ lv').ownsRow B 9 1 u n xs := by
  have hSlt := block_lt h.block
  have hrow : ∀ k, lv.ownBlock = some k → S < k := fun k hk => by have := (h.own.lt k hk).1; omega
  have hkeep : ∀ k, k < w.heap.size → some k ≠ lv.ownBlock → w2.heap[k]? = w.heap[k]? := fun k hk hv => by
    rw [hgrow.block k (Nat.lt_of_lt_of_le hk hb.size) hv]
    exact hb.block k hk
  have hset : ∀ k, k ≠ S → (w2.setCell ⟨S, 0, none⟩ lv').heap[k]? = w2.heap[k]? := fun k hk => Below.heap_setCell w2 ⟨S, 0, none⟩ _ k hk
  have hK : ∀ (B n : Nat) (u : Value) (xs : List Value), S + 1 ≤ B → w.ownsRow B 9 1 u n xs → (w2.setCell ⟨S, 0, none⟩ lv').ownsRow B 9 1 u n xs := by
    intro B n u xs hB hu
    have hne := own_ne hu h.own (by decide)
    obtain ⟨h1, h2⟩ := hu
    refine ⟨h1, ?_⟩
    rcases h2 with h2 | ⟨g, cap, cur, hv', hg, hh, r⟩
    · exact Or.inl h2
    · exact Or.inr ⟨g, cap, cur, hv', hg, by rw [hset g (by omega), hkeep g (block_lt hh) (fun e => hne g (by rw [hv']; rfl) e.symm)]; exact hh, r⟩
  refine ⟨⟨?_, ?_, (h.lines.map (fun n u xs hu => hK _ n u xs (Nat.le_refl _) hu)).snoc (hK _ _ _ _ (Nat.le_refl _) hv)⟩, ?_, hK⟩
  · have hbk : w2.heap[S]? = some (.cells #[lv] 85 (0, 0)) := (hkeep S hSlt (fun e => by have := hrow S e.symm; omega)).trans h.block
    have := set_block hbk 0 lv'
    simpa using this
  · rw [List.length_append]
    exact ownsRow_setCell_below hown (by show S < S + 1; omega) _
  · refine ⟨hgrow.os.trans hb.os, hgrow.tape.trans hb.tape, hgrow.output.trans hb.output, ?_, fun k hk => (hset k (by omega)).trans (hkeep k (by omega) (fun e => by have := hrow k e.symm; omega))⟩
    have h1 := hgrow.size
    have h2 := hb.size
    simp [World.setCell]
    omega
theorem src_far {w w1 w2 : World} {S : Nat} {lv : Value} {row : Option Nat} (hblk : w.heap[S]? = some (.cells #[lv] 85 (0, 0))) (hb : Below w.heap.size w w1) (hgrow : w1.grownBy w2 row) (hr : row ≠ some S) :
    w2.cell? ⟨S, 0, none⟩ = some lv ∧ w2.frozen? ⟨S, 0, none⟩ = false := by
  have hk : w2.heap[S]? = some (.cells #[lv] 85 (0, 0)) := by
    rw [hgrow.block S (Nat.lt_of_lt_of_le (block_lt hblk) hb.size) (Ne.symm hr), hb.block S (block_lt hblk)]
    exact hblk
  exact ⟨cell_of_block hk 0 (by simp), free_of_block hk 0⟩
theorem SrcS.toG {w : World} {S : Nat} {ls : List (List ByteArray)} {lv : Value} {vs : List Value} (h : SrcS w S ls lv vs) (hne : 0 < ls.length) : ∃ g cap, lv = .slice (some ⟨g, 0, none⟩) ls.length cap ∧ SrcG w S g cap ls := by
  obtain ⟨v0, h0, _⟩ := h.lines.2 0 hne
  obtain ⟨g, cap, he, _, _, _⟩ := own_cell h.own h0
  refine ⟨g, cap, he, ?_, fun l hl => ?_, ⟨⟨_, h.block⟩, own_blk h.own (by rw [he]; rfl)⟩, fun l v hv hl b hb => ?_⟩
  · have := cell_of_block h.block 0 (by simp)
    simp at this
    rw [this, he]
  · obtain ⟨v, h1, h2⟩ := h.lines.2 l hl
    obtain ⟨g', cap', he', _, _, hc⟩ := own_cell h.own h1
    rw [he] at he'
    simp at he'
    obtain ⟨ad, c, rfl⟩ := ownsRow_form h2
    rw [he'.1]
    exact ⟨ad, c, hc, strs_own h2⟩
  · obtain ⟨u, h1, h2⟩ := h.lines.2 l hl
    obtain ⟨g', cap', he', _, _, hc⟩ := own_cell h.own h1
    rw [he] at he'
    simp at he'
    rw [he'.1, hc] at hv
    injection hv with hv
    subst hv
    exact own_blk h2 hb
def ReadRP (s : ByteArray) (w : World) (e : Ending) (w' : World) : Prop := Below w.heap.size w w' ∧
  ((¬ (Rf.readR s).1 = 0 ∧ e = .returned (.tuple #[.pointer none, .int .i64 (Rf.readR s).1, .int .i64 (Rf.readR s).2.1])) ∨
   ((Rf.readR s).1 = 0 ∧ (Rf.readR s).2.1 = 0 ∧ Lined (Rf.readR s).2.2 ∧ 0 < (Rf.readR s).2.2.length ∧ (Rf.readR s).2.2.length ≤ 100 ∧ ∃ S g cap, e = .returned (.tuple #[.pointer (some ⟨S, 0, none⟩), .int .i64 0, .int .i64 0]) ∧ SrcG w' S g cap (Rf.readR s).2.2))
set_option maxHeartbeats 4000000 in
set_option maxRecDepth 100000 in
theorem Read_ref (s : ByteArray) (w : World) (hs : s.size ≤ maxLen) :
    Calls Tryz.prog 44 #[.string s] w (ReadRP s w) := by
  unfold maxLen at hs
  obtain ⟨i0, hi, hz0, hz1, hz2⟩ := info_parts Tryz.infoStrs
  by_cases hl : 40000 < s.size
  · have hl' : (40000 : Int) < (s.size : Int) := by omega
    have HE := hide (show Rf.readR s = (1, 0, []) by rw [Rf.readR, if_pos hl])
    go_enter Tryz.func44, Tryz.ntmps44
    go_wp2_with fail
    go_ret3
    exact ⟨Below.refl _ _, Or.inl ⟨by rw [unhide HE]; decide, by rw [unhide HE]; rfl⟩⟩
  · have hl' : ¬ (40000 : Int) < (s.size : Int) := by omega
    have hs4 : s.size ≤ 40000 := by omega
    have hR : Rf.readR s = if 100 < (Rt.lines s).length then ((1, 0, []) : Int × Int × List (List ByteArray)) else if ¬ (Rf.formsFrom 0 (Rt.lines s) []).1 = 0 then (2, ((Rf.formsFrom 0 (Rt.lines s) []).1 : Int), []) else Rf.readLines (Rf.formsFrom 0 (Rt.lines s) []).2 := by rw [Rf.readR, if_neg hl]
    have HR := hide hR
    have HSM := hide (Rt.lines_facts hs4)
    have hLn : 0 < (Rt.lines s).length := by rw [Rt.lines_len]; omega
    clear hR
    go_enter Tryz.func44, Tryz.ntmps44
    go_wp2_with fail
    refine (lines_ref s _ hs4).mono ?_
    rintro e w1 ⟨hb1, v1, rfl, ho1⟩
    obtain ⟨ad1, c1, rfl⟩ := ownsRow_form ho1
    generalize Rt.lines s = L at *
    by_cases hm : 100 < L.length
    · have hm' : (100 : Int) < (L.length : Int) := by omega
      rw [if_pos hm] at HR
      have HB := hide hb1
      clear hb1 ho1
      go_wp2_with fail
      go_ret3
      exact ⟨unhide HB, Or.inl ⟨by rw [unhide HR]; decide, by rw [unhide HR]; rfl⟩⟩
    · have hm' : decide ((100 : Int) < (L.length : Int)) = false := by rw [decide_eq_false_iff_not]; omega
      have hm2 : ¬ (100 : Int) < (L.length : Int) := by omega
      rw [if_neg hm] at HR
      have HB := hide hb1
      have HO := hide ho1
      have hsz1 := hb1.size
      clear hb1 ho1
      have hA := heap_alloc_new w1 (.cells #[.slice none 0 0] 85)
      have HA := hide hA
      clear hA
      go_wp2_with fail
      generalize hF : Rf.formsFrom 0 L [] = F at *
      have HF := hide hF
      clear hF
      go_loopw [7] (fun i wr => ∃ (k : Nat) (acc : List (List ByteArray)) (lv : Value) (vs : List Value), k ≤ L.length ∧ i = .int .i64 k ∧ acc.length = k ∧ Rf.formsFrom k (L.drop k) acc = F ∧ Lined acc ∧ SrcS wr w1.heap.size acc lv vs ∧ Below w1.heap.size w1 wr)
        (fun i _ => L.length - (intOf i).toNat)
      case atStart => exact ⟨0, [], _, [], Nat.zero_le _, rfl, rfl, unhide HF, ⟨by simp, by simp⟩, ⟨unhide HA, World.ownsRow_nil _ _ _ _, ⟨rfl, fun j h => by simp at h⟩⟩, (Below.refl _ _).alloc (Nat.le_refl _) _⟩
      case round =>
        obtain ⟨k, acc, lv, vs, hk, rfl, hacc, hT, hli, hsr, hbe⟩ := hrel
        have HK := hide hacc
        clear hacc
        have HT := hide hT
        have HLi := hide hli
        clear hT hli
        by_cases hlt : k < L.length
        · have hlt' : (k : Int) < (L.length : Int) := by omega
          obtain ⟨gx, capx', hvx, _, _, cx⟩ := own_cell (own_later (unhide HO) hbe) (j := k) (u := .string L[k]) (by simp [hlt])
          have hsk := (unhide HSM) L[k] (List.getElem_mem hlt)
          simp at hvx
          obtain ⟨rfl, rfl⟩ := hvx
          have hdrop : L.drop k = L[k] :: L.drop (k + 1) := List.drop_eq_getElem_cons hlt
          rw [hdrop, Rf.formsFrom] at HT
          clear hdrop
          have HS := hide (And.intro hsr hbe)
          have hszr := hbe.size
          clear hsr hbe
          generalize L[k] = x at *
          go_wp2_with fail
          refine (tokens_ref x _ hsk).mono ?_
          rintro e w2 ⟨hb2, (⟨ht, v2, rfl⟩ | ⟨ts, v2, ht, rfl, ho2⟩)⟩
          · rw [ht] at HT
            have HB2 := hide ((unhide HS).2.trans (hb2.mono (unhide HS).2.size))
            clear hb2
            go_wp2_with fail
            go_ret3
            have hne : ¬ F.1 = 0 := by rw [← unhide HT]; simp
            have hF1 : F.1 = k + 1 := by rw [← unhide HT]
            refine ⟨(unhide HB).trans ((unhide HB2).mono (unhide HB).size), Or.inl ⟨by rw [unhide HR, if_pos hne]; simp, by rw [unhide HR, if_pos hne, hF1]; simp⟩⟩
          · rw [ht] at HT
            have hfew := few_tx hsk ht
            have hmap : ts.map textV = (Rf.tx ts).map Value.string := by simp [Rf.tx, textV]
            have hlen : ts.length = (Rf.tx ts).length := by simp [Rf.tx]
            rw [hmap, hlen] at ho2
            have HS2 := hide (And.intro ((unhide HS).1.later hb2) ((unhide HS).2.trans (hb2.mono (unhide HS).2.size)))
            have hb2s := hb2.size
            have HFew := hide hfew
            clear hmap hlen hb2 ht hfew
            simp only at HT
            generalize Rf.tx ts = t at *
            obtain ⟨ad2, c2, rfl⟩ := ownsRow_form ho2
            have HO2 := hide ho2
            clear ho2
            go_wp2_with fail
            refine (isLine_ref t (unhide HFew) _ _ (strs_own (unhide HO2))).mono ?_
            rintro e w3 ⟨rfl, hb3⟩
            have HS3 := hide (And.intro ((unhide HS2).1.later hb3) ((unhide HS2).2.trans (hb3.mono (unhide HS2).2.size)))
            have HO3 := hide (own_later (unhide HO2) hb3)
            have hb3s := hb3.size
            clear hb3
            cases hz : Rf.isLine t with
            | false =>
              rw [hz, if_neg (by decide)] at HT
              go_wp2_with fail
              go_ret3
              have hne : ¬ F.1 = 0 := by rw [← unhide HT]; simp
              have hF1 : F.1 = k + 1 := by rw [← unhide HT]
              refine ⟨(unhide HB).trans ((unhide HS3).2.mono (unhide HB).size), Or.inl ⟨by rw [unhide HR, if_pos hne]; simp, by rw [unhide HR, if_pos hne, hF1]; simp⟩⟩
            | true =>
              rw [hz, if_pos rfl] at HT
              have HLi2 := hide ((unhide HLi).snoc (unhide HFew) hz)
              clear hz
              obtain ⟨lad, lcap, hlv⟩ := ownsRow_form (unhide HS3).1.own
              subst hlv
              have cS := cell_of_block (unhide HS3).1.block 0 (by simp)
              simp at cS
              have hown3 : w3.ownsRow (w1.heap.size + 1) 87 1 (.slice lad acc.length lcap) acc.length vs := (unhide HS3).1.own
              rw [unhide HK] at hown3 cS
              have hacck : k ≤ 100 := by omega
              go_wp2_with (at_builtin; refine wpList_append_lies _ rfl (.tmp 49) (.tmp 51) 83 rfl (w1.heap.size + 1) 87 i0 _ 1 24 Tryz.underlying83 hi hz0 hz1 hz2 rfl (by decide) _ _ _ rfl (hown3.alloc _) ⟨_, 0, none⟩ 1 1 [.slice ad2 t.length c2] rfl rfl (cell_one_new _ _ _) (by simp [Value.oneCell']) (by omega) (by unfold maxLen; omega) (by omega) (by have := block_lt (unhide HS3).1.block; simp; omega) _ rfl ?_)
              intro g4 cap4 w4 hown4 hgrow hat hlt4
              have hneS : (Value.slice lad k lcap).ownBlock ≠ some w1.heap.size := fun h => by have := (hown3.lt _ h).1; omega
              obtain ⟨hfar, hfz⟩ := src_far (unhide HS3).1.block ((Below.refl _ _).alloc (Nat.le_refl _) _) hgrow hneS
              have hfin := (unhide HS3).1.push (ownsRow_mono (b' := w1.heap.size + 1) (unhide HO3) (by have := block_lt (unhide HS).1.block; omega)) ((Below.refl _ _).alloc (Nat.le_refl _) _) (by rw [unhide HK]; exact hown4) (by rw [unhide HK]; exact hgrow)
              have HFin := hide hfin
              clear hfin hown4 hgrow hat hlt4 hneS hown3 cS
              rw [unhide HK] at hfar
              go_wp2_with fail
              go_roundw
              case rel =>
                obtain ⟨q1, q2, _⟩ := unhide HFin
                exact ⟨k + 1, _, _, _, by omega, by go_num, by simp; exact unhide HK, unhide HT, unhide HLi2, q1, (unhide HS3).2.trans q2⟩
              case measure => simp [intOf]; omega
        · have hlt' : ¬ (k : Int) < (L.length : Int) := by omega
          rw [List.drop_eq_nil_of_le (by omega), Rf.formsFrom] at HT
          have hF2 : F = (0, acc) := (unhide HT).symm
          rw [hF2, if_neg (by simp)] at HR
          have hal : acc.length ≤ 100 := by have := unhide HK; omega
          have hap : 0 < acc.length := by have := unhide HK; omega
          obtain ⟨g, cap, hlv, hG⟩ := hsr.toG hap
          have HG := hide (And.intro hG ((unhide HB).trans (hbe.mono (unhide HB).size)))
          have HLaw := hide ((unhide HLi).lawful hal)
          clear hF2 hsr hbe hG hlv HT HA HF
          generalize hS : w1.heap.size = S at *
          clear hS
          go_wp2_with fail
          refine (nested_ref _ S g cap acc (unhide HG).1 hal).mono ?_
          rintro e w2 ⟨rfl, hb2⟩
          have HG2 := hide (And.intro ((unhide HG).1.later hb2) ((unhide HG).2.trans (hb2.mono (unhide HG).2.size)))
          clear hb2
          change Hid (Rf.readR s = if ¬ Rf.nested acc = 0 then (3, (Rf.nested acc : Int), []) else if ¬ Rf.rightFrom acc acc.length 0 = 0 then (4, (Rf.rightFrom acc acc.length 0 : Int), []) else Rf.readNames acc) at HR
          by_cases hn : Rf.nested acc = 0
          · rw [if_neg (by omega)] at HR
            have HOK := hide ((unhide HLi).lineOK hn)
            rw [hn]
            generalize hRF : Rf.rightFrom acc acc.length 0 = RF at *
            have HRF := hide hRF
            clear hRF hn
            go_wp2_with fail
            go_loopw [10] (fun i wr => ∃ j f : Nat, j + f = acc.length ∧ i = .int .i64 ((j : Int) + 1) ∧ Rf.rightFrom acc f j = RF ∧ SrcG wr S g cap acc ∧ Below w.heap.size w wr) (fun i _ => acc.length + 1 - (intOf i).toNat)
            case atStart => exact ⟨0, acc.length, by omega, rfl, unhide HRF, (unhide HG2).1, (unhide HG2).2⟩
            case round =>
              obtain ⟨j, f, hjf, rfl, hT, hs3, hb3⟩ := hrel
              have HT := hide hT
              have HG3 := hide (And.intro hs3 hb3)
              have cT := hs3.top
              clear hT hs3 hb3
              cases f with
              | zero =>
                have hj' : ¬ (j : Int) + 1 ≤ (acc.length : Int) := by omega
                have hRF0 : RF = 0 := by rw [← unhide HT]; rfl
                rw [hRF0, if_neg (by simp), Rf.readNames] at HR
                clear hRF0
                have hdb := Rf.decl_b acc Rf.mainW
                go_wp2_with fail
                refine (declared_ref _ S g cap acc Rf.mainW (unhide HG3).1 (unhide HLaw)).mono ?_
                rintro e w4 ⟨rfl, hb4⟩
                have HG4 := hide (And.intro ((unhide HG3).1.later hb4) ((unhide HG3).2.trans (hb4.mono (unhide HG3).2.size)))
                clear hb4 cT
                cases hd : Rf.decl acc Rf.mainW with
                | zero =>
                  rw [hd, if_pos rfl] at HR
                  go_wp2_with fail
                  go_ret3
                  exact ⟨(unhide HG4).2, Or.inl ⟨by rw [unhide HR]; decide, by rw [unhide HR]; rfl⟩⟩
                | succ d =>
                  have hdl : d < acc.length := by omega
                  rw [hd, if_neg (by omega), Nat.add_sub_cancel, Rf.lineAt_lt hdl] at HR
                  have hdz : (((d + 1 : Nat) : Int) == 0) = false := by rw [beq_eq_false_iff_ne]; omega
                  have hdi : ((d + 1 : Nat) : Int) = (d : Int) + 1 := by omega
                  rw [hdi] at hdz ⊢
                  clear hdi
                  go_wp2_with fail
                  refine (head_ref _ S g cap acc d (unhide HG4).1 hdl hal).mono ?_
                  rintro e w5 ⟨rfl, hb5⟩
                  have HG5 := hide (And.intro ((unhide HG4).1.later hb5) ((unhide HG4).2.trans (hb5.mono (unhide HG4).2.size)))
                  clear hb5
                  generalize Rf.first acc[d] = z at *
                  cases hz : (z.toList == [112, 114, 111, 99]) with
                  | false =>
                    rw [hz, if_pos rfl] at HR
                    go_wp2_with fail
                    go_ret3
                    exact ⟨(unhide HG5).2, Or.inl ⟨by rw [unhide HR]; decide, by rw [unhide HR]; rfl⟩⟩
                  | true =>
                    rw [hz, if_neg (by decide)] at HR
                    go_wp2_with fail
                    go_ret3
                    refine ⟨(unhide HG5).2, Or.inr ?_⟩
                    rw [unhide HR]
                    exact ⟨rfl, rfl, unhide HLi, hap, hal, S, g, cap, rfl, (unhide HG5).1⟩
              | succ f =>
                have hjl : j < acc.length := by omega
                have hj' : (j : Int) + 1 ≤ (acc.length : Int) := by omega
                rw [Rf.rightFrom, Rf.lineAt_lt hjl] at HT
                go_wp2_with fail
                refine (right_ref _ S g cap acc j (unhide HG3).1 (unhide HLaw) hjl (unhide HOK j hjl)).mono ?_
                rintro e w4 ⟨rfl, hb4⟩
                have HG4 := hide (And.intro ((unhide HG3).1.later hb4) ((unhide HG3).2.trans (hb4.mono (unhide HG3).2.size)))
                clear hb4 cT
                cases hz : Rf.rightB acc j acc[j] with
                | false =>
                  rw [hz, if_neg (by decide)] at HT
                  have hRF1 : ¬ RF = 0 := by rw [← unhide HT]; omega
                  rw [if_pos hRF1] at HR
                  clear hRF1
                  go_wp2_with fail
                  go_ret3
                  exact ⟨(unhide HG4).2, Or.inl ⟨by rw [unhide HR]; simp, by rw [unhide HR, ← unhide HT]; simp⟩⟩
                | true =>
                  rw [hz, if_pos rfl] at HT
                  go_wp2_with fail
                  go_roundw
                  case rel => exact ⟨j + 1, f, by omega, by go_num, unhide HT, (unhide HG4).1, (unhide HG4).2⟩
                  case measure => simp [intOf]; omega
          · rw [if_pos hn] at HR
            have hn' : (0 : Int) < (Rf.nested acc : Int) := by omega
            go_wp2_with fail
            go_ret3
            exact ⟨(unhide HG2).2, Or.inl ⟨by rw [unhide HR]; simp, by rw [unhide HR]; rfl⟩⟩
end Go.Proofs.YthleadfkfnnadaaGreat
