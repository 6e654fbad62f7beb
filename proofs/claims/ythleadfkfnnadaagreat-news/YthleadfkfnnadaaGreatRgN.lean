/- The document's answer: the first place. -/
import Derived.Deep.OwnRows
import Derived.Test.YthleadfkfnnadaaGreatRnC
import Derived.Test.YthleadfkfnnadaaGreatPlG
namespace Go.Proofs.YthleadfkfnnadaaGreat
open Go.RowKit
theorem made_rep (z : Value) (n : Nat) : (madeCells #[z] n).toList = List.replicate n z := by
  apply List.ext_getElem
  · simp [madeCells]
  · intro i h1 h2
    simp [madeCells, Nat.mod_one]
theorem made_one (w : World) (n : Nat) (ts t : TypeId) (i0 : TypeInfo) (z : Value) (hu : Tryz.prog.underlying ts = some (.slice t)) (hi : Tryz.prog.info? t = some i0) (h0 : i0.zero = some z) (h1 : i0.size = 1) (hz : z.cells = #[z]) (hn : i0.bytes * n ≤ 281474976710656) (hm : n ≤ maxLen) :
    ∃ w', (Instr.makeSlice ts (.int .i64 (n : Int)) (.int .i64 (n : Int))).run Tryz.prog w = .ok (.slice (some ⟨w.heap.size, 0, none⟩) n n) w' ∧ w'.ownsRow w.heap.size t 1 (.slice (some ⟨w.heap.size, 0, none⟩) n n) n (List.replicate n z) ∧ Below w.heap.size w w' ∧ w.heap.size + 1 ≤ w'.heap.size := by
  obtain ⟨w1, hrun, hown, hgrow⟩ := run_make_full (P := Tryz.prog) w w.heap.size ts t i0 z 1 hu hi h0 h1 .i64 .i64 n hn hm (Nat.le_refl _)
  rw [hz, Nat.mul_one, made_rep] at hown
  exact ⟨w1, hrun, hown, ⟨hgrow.os, hgrow.tape, hgrow.output, hgrow.size, fun k hk => hgrow.block k hk (by simp)⟩, (hown.lt w.heap.size rfl).2⟩
theorem intsV_rep (n : Nat) : List.replicate n (Value.int .i64 0) = intsV (List.replicate n 0) := by simp [intsV]
def celAt (cn : Nat → Nat) (k i : Nat) : List Int := if i = 0 then [] else if i ≤ k then List.replicate (cn (i - 1)) 0 else []
def partF (n D : Nat) (cn : Nat → Nat) (k : Nat) (l : Int) : Rf.Pl := ⟨[⟨D + 1, [], 0⟩], List.replicate (n + 1) 0, (List.range (n + 1)).map (celAt cn k), 0, [], l, 0⟩
theorem partF_zero (n D : Nat) (cn : Nat → Nat) (l : Int) : (⟨[⟨D + 1, [], 0⟩], List.replicate (n + 1) 0, List.replicate (n + 1) [], 0, [], l, 0⟩ : Rf.Pl) = partF n D cn 0 l := by
  unfold partF
  simp only [Rf.Pl.mk.injEq, true_and, and_true]
  apply List.ext_getElem
  · simp
  · intro i h1 h2
    simp only [List.getElem_replicate, List.getElem_map, List.getElem_range]
    unfold celAt
    by_cases h : i = 0
    · rw [if_pos h]
    · rw [if_neg h, if_neg (by omega)]
theorem partF_skip (n D : Nat) (cn : Nat → Nat) (k : Nat) (l : Int) (h : cn k = 0) : partF n D cn (k + 1) l = partF n D cn k l := by
  unfold partF
  simp only [Rf.Pl.mk.injEq, true_and, and_true]
  refine List.map_congr_left (fun i _ => ?_)
  unfold celAt
  by_cases h0 : i = 0
  · rw [if_pos h0, if_pos h0]
  · rw [if_neg h0, if_neg h0]
    by_cases h1 : i ≤ k
    · rw [if_pos h1, if_pos (by omega)]
    · rw [if_neg h1]
      by_cases h2 : i ≤ k + 1
      · rw [if_pos h2, show i - 1 = k by omega, h]; rfl
      · rw [if_neg h2]
theorem partF_set (n D : Nat) (cn : Nat → Nat) (k : Nat) (l : Int) : partF n D cn (k + 1) l = { partF n D cn k l with cells := (partF n D cn k l).cells.set (k + 1) (List.replicate (cn k) 0) } := by
  unfold partF
  simp only [Rf.Pl.mk.injEq, true_and, and_true]
  refine Rf.range_set _ _ _ _ _ (fun _ => ?_) (fun i hi => ?_)
  · unfold celAt
    rw [if_neg (by omega), if_pos (Nat.le_refl _), Nat.add_sub_cancel]
  · unfold celAt
    by_cases h0 : i = 0
    · rw [if_pos h0, if_pos h0]
    · rw [if_neg h0, if_neg h0]
      by_cases h1 : i ≤ k
      · rw [if_pos h1, if_pos (by omega)]
      · rw [if_neg h1, if_neg (by omega)]
theorem partF_end (ls : List (List ByteArray)) (D : Nat) (cn : Nat → Nat) : partF ls.length D cn ls.length (Rf.goes ls (D + 1) : Nat) = Rf.firstPl ls D cn := by
  unfold partF Rf.firstPl
  simp only [Rf.Pl.mk.injEq, true_and, and_true]
  rw [List.range_succ_eq_map, List.map_cons, List.map_map]
  congr 1
  refine List.map_congr_left (fun i hi => ?_)
  have hi' : i < ls.length := by simpa using hi
  show celAt cn ls.length (i + 1) = _
  unfold celAt
  rw [if_neg (by omega), if_pos (by omega), Nat.add_sub_cancel]
theorem TyAt.ne {w : World} {a b : Nat} {t u : TypeId} (h1 : TyAt w a t) (h2 : TyAt w b u) (h : t ≠ u) : ¬ a = b := by
  rintro rfl
  obtain ⟨c, h1⟩ := h1
  obtain ⟨d, h2⟩ := h2
  rw [h1] at h2
  injection h2 with h2
  injection h2 with _ h2
  exact h h2
theorem TyAt.lt {w : World} {a : Nat} {t : TypeId} (h : TyAt w a t) : a < w.heap.size := by
  obtain ⟨c, h⟩ := h
  exact block_lt h
theorem TyAt.intro {w : World} {a : Nat} {t : TypeId} {c : Array Value} (h : w.heap[a]? = some (.cells c t (0, 0))) : TyAt w a t := ⟨c, h⟩
abbrev zPlA : Array Value := #[.slice none 0 0, .slice none 0 0, .slice none 0 0, .int .i64 0, .slice none 0 0, .int .i64 0, .int .i64 0]
set_option maxHeartbeats 4000000 in
set_option maxRecDepth 100000 in
theorem first_ref (w : World) (S g cap D : Nat) (ls : List (List ByteArray)) (cn : Nat → Nat) (hG : SrcG w S g cap ls) (hL : Lawful ls) (hnest : Rf.nested ls = 0) (hD : Rf.decl ls ⟨#[109, 97, 105, 110]⟩ = D + 1) (hDl : D < ls.length)
    (hA : ∀ k (hk : k < ls.length), ((Rf.first ls[k]).toList == [97, 114, 114, 97, 121]) = true → ∃ h : 2 < ls[k].length, Rf.worth ls[k][2] = (cn k : Nat) ∧ cn k ≤ 1000) (hZ : ∀ k (hk : k < ls.length), ((Rf.first ls[k]).toList == [97, 114, 114, 97, 121]) = false → cn k = 0) :
    Calls Tryz.prog 54 #[.pointer (some ⟨S, 0, none⟩)] w fun e w' => Below w.heap.size w w' ∧ ∃ fv vv cv ov, e = .returned (.agg (plA fv vv cv ov (Rf.firstPl ls D cn))) ∧ PlW w' w.heap.size fv vv cv ov (Rf.firstPl ls D cn) := by
  obtain ⟨i0, hi0, hz0, hz1, hz2⟩ := info_parts Tryz.infoIntK
  obtain ⟨s0, hs0, hx0, hx1, hx2⟩ := info_parts Tryz.infoSlice
  obtain ⟨j0, hj0, hy0, hy1, hy2⟩ := info_parts Tryz.infoFrameR
  have HG := hide hG
  have hlen := hL.len
  have HL := hide hL
  have HAA := hide hA
  have HZZ := hide hZ
  have HGo := hide (show ∀ w', SrcG w' S g cap ls → Calls Tryz.prog 94 #[.pointer (some ⟨S, 0, none⟩), .int .i64 (((D + 1 : Nat) : Int) + 1)] w' fun e w'' => e = .returned (.int .i64 (Rf.goes ls (D + 1))) ∧ Below w'.heap.size w' w'' from fun w' hG => goes_ref w' S g cap ls (D + 1) hG (by omega) hlen hnest)
  have HD := hide hD
  clear hG hL hA hZ hnest hD
  go_enter Tryz.func54, Tryz.ntmps54
  go_wp2_with fail
  have hb0 := (Below.refl w.heap.size w).alloc (Nat.le_refl _) (.cells zPlA 72)
  have hn0 := heap_alloc_new w (.cells zPlA 72)
  refine (declared_ref _ S g cap ls _ ((unhide HG).later hb0) (unhide HL)).mono ?_
  generalize w.alloc (.cells zPlA 72) = wa at *
  rintro e w1 ⟨rfl, hb1⟩
  rw [unhide HD]
  have hn1 := block_later hn0 hb1
  have hbw1 := hb0.trans (hb1.mono (B' := w.heap.size) hb0.size)
  have hsz0 := block_lt hn1
  have HB1 := hide (And.intro hbw1 hn1)
  clear hb0 hn0 hb1 hn1 hbw1
  have hnP := heap_alloc_new w1 (.cells zPlA 72)
  have hsP : (w1.alloc (.cells zPlA 72)).heap.size = w1.heap.size + 1 := by simp
  have hO0 : PlO (w1.alloc (.cells zPlA 72)) w1.heap.size w1.heap.size ⟨[], [], [], 0, [], 0, 0⟩ nilX := PlO.start rfl rfl rfl rfl hnP (Nat.le_refl _)
  have hbP := (Below.refl w1.heap.size w1).alloc (Nat.le_refl _) (.cells zPlA 72)
  go_wp2_with (at_builtin; refine wpList_append_lies _ rfl _ _ 70 rfl 0 130 j0 _ 3 40 Tryz.underlying70 hj0 hy0 hy1 hy2 rfl (by decide) _ 0 [] rfl (World.ownsRow_nil _ _ _ _) ⟨w1.heap.size + 1, 0, none⟩ 1 1 [.int .i64 ((D : Int) + 1), .slice none 0 0, .int .i64 0] rfl rfl (World.news_of_block (cs := #[.int .i64 ((D : Int) + 1), .slice none 0 0, .int .i64 0]) (t := 130) (fr := (0, 0)) (by have := heap_alloc_new (w1.alloc (.cells zPlA 72)) (.cells #[.int .i64 ((D : Int) + 1), .slice none 0 0, .int .i64 0] 130); rw [hsP] at this; exact this)) (by simp [Value.oneCell']) (by omega) (by unfold maxLen; omega) (by omega) (Nat.zero_le _) (w1.heap.size + 1 + 1) (by simp) ?_)
  intro g' cap' w4 hown4 hgrow hat hlt4
  have hg' : g' = w1.heap.size + 1 + 1 := by rcases hat with h | h; simp [Value.ownBlock] at h; exact h
  have hbF := (Below.refl _ (w1.alloc (.cells zPlA 72))).alloc (Nat.le_refl _) (.cells #[.int .i64 ((D : Int) + 1), .slice none 0 0, .int .i64 0] 130)
  have hO5 : PlO (w4.setCell ⟨w1.heap.size, 0, none⟩ (.slice (some ⟨g', 0, none⟩) 1 cap')) w1.heap.size w1.heap.size ⟨[⟨D + 1, [], 0⟩], [], [], 0, [], 0, 0⟩ ⟨.slice (some ⟨g', 0, none⟩) 1 cap', .slice none 0 0, .slice none 0 0, .slice none 0 0, [.slice none 0 0], []⟩ ∧ _ := hO0.pushFrame (by rw [hsP]; omega) (Below.refl _ _) hbF (.slice none 0 0) ⟨D + 1, [], 0⟩ (World.ownsRow_nil _ _ _ _) hgrow (.slice (some ⟨g', 0, none⟩) 1 cap') hown4 (fun q hq => by simp [Value.ownBlock] at hq; subst hq; exact Or.inr (by rw [hsP]; omega))
  have hP4 : w4.heap[w1.heap.size]? = some (.cells zPlA 72 (0, 0)) := (hgrow.block _ (by simp; omega) (by simp [Value.ownBlock])).trans (block_alloc hnP _)
  have hs4 : w1.heap.size + 3 ≤ w4.heap.size := by omega
  clear hg' hlt4
  have hb5 := hbP.trans hO5.2
  have hO5 := hO5.1
  clear hgrow hat hbP hnP hsP hbF hO0 hown4
  have hs5 : (w4.setCell ⟨w1.heap.size, 0, none⟩ (.slice (some ⟨g', 0, none⟩) 1 cap')).heap.size = w4.heap.size := by simp [World.setCell]
  obtain ⟨w6, hrun6, hown6, hb6, hs6⟩ := made_one (w4.setCell ⟨w1.heap.size, 0, none⟩ (.slice (some ⟨g', 0, none⟩) 1 cap')) (ls.length + 1) 24 3 i0 (.int .i64 0) Tryz.underlying24 hi0 hz0 hz1 rfl (by rw [hz2]; omega) (by unfold maxLen; omega)
  rw [hs5] at hrun6 hown6 hs6
  have hO7 : PlO (w6.setCell ⟨w1.heap.size, 1, none⟩ (.slice (some ⟨w4.heap.size, 0, none⟩) (ls.length + 1) (ls.length + 1))) w1.heap.size w1.heap.size ⟨[⟨D + 1, [], 0⟩], List.replicate (ls.length + 1) 0, [], 0, [], 0, 0⟩ ⟨.slice (some ⟨g', 0, none⟩) 1 cap', .slice (some ⟨w4.heap.size, 0, none⟩) (ls.length + 1) (ls.length + 1), .slice none 0 0, .slice none 0 0, [.slice none 0 0], []⟩ ∧ _ := hO5.newVars (by rw [hs5]; omega) hb6 (.slice (some ⟨w4.heap.size, 0, none⟩) (ls.length + 1) (ls.length + 1)) (List.replicate (ls.length + 1) 0) (by rw [hs5, List.length_replicate, ← intsV_rep]; exact hown6)
  have hb7 := hb5.trans hO7.2
  have hP6 := block_later hO5.block hb6
  have hO7 := hO7.1
  rw [show ((ls.length + 1 : Nat) : Int) = (ls.length : Int) + 1 from rfl] at hrun6
  have hs7 : (w6.setCell ⟨w1.heap.size, 1, none⟩ (.slice (some ⟨w4.heap.size, 0, none⟩) (ls.length + 1) (ls.length + 1))).heap.size = w6.heap.size := by simp [World.setCell]
  obtain ⟨w8, hrun8, hown8, hb8, hs8⟩ := made_one (w6.setCell ⟨w1.heap.size, 1, none⟩ (.slice (some ⟨w4.heap.size, 0, none⟩) (ls.length + 1) (ls.length + 1))) (ls.length + 1) 28 24 s0 (.slice none 0 0) Tryz.underlying28 hs0 hx0 hx1 rfl (by rw [hx2]; omega) (by unfold maxLen; omega)
  rw [hs7] at hrun8 hown8 hs8
  have hO9 : PlO (w8.setCell ⟨w1.heap.size, 2, none⟩ (.slice (some ⟨w6.heap.size, 0, none⟩) (ls.length + 1) (ls.length + 1))) w1.heap.size w1.heap.size ⟨[⟨D + 1, [], 0⟩], List.replicate (ls.length + 1) 0, List.replicate (ls.length + 1) [], 0, [], 0, 0⟩ ⟨.slice (some ⟨g', 0, none⟩) 1 cap', .slice (some ⟨w4.heap.size, 0, none⟩) (ls.length + 1) (ls.length + 1), .slice (some ⟨w6.heap.size, 0, none⟩) (ls.length + 1) (ls.length + 1), .slice none 0 0, [.slice none 0 0], List.replicate (ls.length + 1) (.slice none 0 0)⟩ ∧ _ := hO7.newCels (by rw [hs7]; omega) hb8 (.slice (some ⟨w6.heap.size, 0, none⟩) (ls.length + 1) (ls.length + 1)) (ls.length + 1) rfl rfl (by rw [hs7]; exact hown8)
  have hb9 := hb7.trans hO9.2
  have hP8 := block_later hO7.block hb8
  rw [show ((ls.length + 1 : Nat) : Int) = (ls.length : Int) + 1 from rfl] at hrun8
  have d4 := ((unhide HG).later ((unhide HB1).1.trans (hb5.mono (B' := w.heap.size) (by omega)))).top
  have d6 := ((unhide HG).later ((unhide HB1).1.trans (hb7.mono (B' := w.heap.size) (by omega)))).top
  have hSlt : S < w.heap.size := World.block_lt_of_cell? _ _ (unhide HG).top
  have hSP : ¬ S = w1.heap.size := by omega
  have hPS : ¬ w1.heap.size = S := by omega
  have c4 := (cell_same (i := 0) (Below.heap_setCell w4 ⟨w1.heap.size, 0, none⟩ (.slice (some ⟨g', 0, none⟩) 1 cap') S hSP)).symm.trans d4
  have c6 := (cell_same (i := 0) (Below.heap_setCell w6 ⟨w1.heap.size, 1, none⟩ (.slice (some ⟨w4.heap.size, 0, none⟩) (ls.length + 1) (ls.length + 1)) S hSP)).symm.trans d6
  clear d4 d6
  have p4 : w4.cell? ⟨w1.heap.size, 0, none⟩ = some (.slice none 0 0) := cell_of_block hP4 0 (by simp)
  have p6 : w6.cell? ⟨w1.heap.size, 1, none⟩ = some (.slice none 0 0) := cell_of_block hP6 1 (by simp [plA])
  have p8 : w8.cell? ⟨w1.heap.size, 2, none⟩ = some (.slice none 0 0) := cell_of_block hP8 2 (by simp [plA])
  have z4 := free_of_block hP4
  have z6 := free_of_block hP6
  have z8 := free_of_block hP8
  have hlw : IntKind.i64.wrap ((ls.length : Int) + 1) = (ls.length : Int) + 1 := IntWalk.i64_in _ ⟨by omega, by omega⟩
  have HX9 := hide (And.intro hO9.1 hb9)
  clear hP4 hP6 hP8 hb5 hb6 hb7 hb8 hb9 hO5 hO7 hO9 hown6 hown8
  go_wp2_with fail
  generalize (w8.setCell ⟨w1.heap.size, 2, none⟩ (.slice (some ⟨w6.heap.size, 0, none⟩) (ls.length + 1) (ls.length + 1))) = w9 at *
  clear hrun6 hrun8 c4 c6 p4 p6 p8 z4 z6 z8 hs4 hs5 hs6 hs7 hs8
  generalize w6.heap.size = GC at *
  go_loopw [5] (fun i wr => ∃ (k : Nat) (X : PlX), k ≤ ls.length ∧ i = .int .i64 ((k : Int) + 1) ∧ X.cv = .slice (some ⟨GC, 0, none⟩) (ls.length + 1) (ls.length + 1) ∧ (∀ j, k < j → j ≤ ls.length → X.cps[j]? = some (.slice none 0 0)) ∧ PlO wr w1.heap.size w1.heap.size (partF ls.length D cn k 0) X ∧ Below w.heap.size w wr ∧ wr.heap[w.heap.size]? = some (.cells zPlA 72 (0, 0)))
    (fun i _ => ls.length + 1 - (intOf i).toNat)
  case atStart =>
    refine ⟨0, _, Nat.zero_le _, rfl, rfl, fun j _ hj => ?_, by rw [← partF_zero]; exact (unhide HX9).1, (unhide HB1).1.trans ((unhide HX9).2.mono (B' := w.heap.size) (by omega)), ((unhide HX9).2.block _ hsz0).trans (unhide HB1).2⟩
    rw [List.getElem?_replicate, if_pos (by omega)]
  case round =>
    obtain ⟨k, X, hk, rfl, hcv, hnil, hO, hbe, hR⟩ := hrel
    have hGr := (unhide HG).later hbe
    have cT := hGr.top
    have hPlt := block_lt hO.block
    have HI := hide (And.intro hcv (And.intro hnil (And.intro hO (And.intro hbe hR))))
    by_cases hlt : k < ls.length
    · have hlt' : (k : Int) + 1 ≤ (ls.length : Int) := by omega
      clear hcv hnil hO hbe hR
      go_wp2_with fail
      refine (head_ref _ S g cap ls k hGr hlt hlen).mono ?_
      rintro e w2 ⟨rfl, hb2⟩
      have hO2 := (unhide HI).2.2.1.later hb2
      have hbe2 := (unhide HI).2.2.2.1.trans (hb2.mono (B' := w.heap.size) (unhide HI).2.2.2.1.size)
      have hR2 := block_later (unhide HI).2.2.2.2 hb2
      have HI2 := hide (And.intro hO2 (And.intro hbe2 hR2))
      have HA := hide (unhide HAA k hlt)
      have HZ := hide (unhide HZZ k hlt)
      cases hz : ((Rf.first ls[k]).toList == [97, 114, 114, 97, 121]) with
      | false =>
        have hcn := unhide HZ hz
        clear hb2 hO2 hbe2 hR2 hGr cT
        generalize Rf.first ls[k] = z at *
        go_wp2_with fail
        go_roundw
        case rel => exact ⟨k + 1, X, by omega, by go_num, (unhide HI).1, fun j h1 h2 => (unhide HI).2.1 j (by omega) h2, by rw [partF_skip _ _ _ _ _ hcn]; exact (unhide HI2).1, (unhide HI2).2.1, (unhide HI2).2.2⟩
        case measure => simp [intOf]; omega
      | true =>
        obtain ⟨h2l, hwo, hcn⟩ := unhide HA hz
        have hG2 := hGr.later hb2
        have cT2 := hG2.top
        obtain ⟨ad, c, cL, hst⟩ := hG2.row k hlt
        have q2 : w2.cell? ⟨w1.heap.size, 2, none⟩ = some X.cv := cell_of_block hO2.block 2 (by simp [plA])
        rw [(unhide HI).1] at q2
        have hsz := (unhide HL).fewAt hlt
        obtain ⟨ad', c', he, _, hst⟩ := hst
        injection he with he1 he2 he3
        subst he1 he3
        rcases hst with h | ⟨b, o, rfl, hst⟩
        · rw [h] at h2l; simp at h2l
        have cX := hst 2 h2l
        have hxs := hsz.2 ls[k][2] (List.getElem_mem h2l)
        have hcl : (partF ls.length D cn k 0).cells.length = ls.length + 1 := by simp [partF]
        obtain ⟨g2, c2, e2, _, _, cG⟩ := own_cell hO2.crow (j := k + 1) ((unhide HI).2.1 (k + 1) (by omega) (by omega))
        have hgb := own_blk hO2.crow (g := GC) (by rw [(unhide HI).1]; rfl)
        rw [(unhide HI).1, hcl] at e2
        have e2 : g2 = GC := by simp at e2; exact e2.1.symm
        subst e2
        obtain ⟨gc, hgc⟩ := hgb
        have zG := free_of_block hgc (k + 1)
        have hTG : TyAt w2 g2 24 := ⟨gc, hgc⟩
        have hTb := hG2.tys k _ cL hlt b rfl
        have n1 := hTG.ne (TyAt.intro hO2.block) (by decide)
        have n2 := hTG.ne hG2.ty.1 (by decide)
        have n3 := hTG.ne hG2.ty.2 (by decide)
        have n4 := hTG.ne hTb (by decide)
        have m1 := Ne.symm n1
        have m2 := Ne.symm n2
        have m3 := Ne.symm n3
        have m4 := Ne.symm n4
        have l1 := block_lt hO2.block
        have l2 := hG2.ty.1.lt
        have l3 := hG2.ty.2.lt
        have l4 := hTb.lt
        have hGlt := block_lt hgc
        have hmk := fun W => run_make_row (P := Tryz.prog) 24 3 i0 (.int .i64 0) Tryz.underlying24 hi0 hz0 hz1 rfl .i64 .i64 (cn k) (by rw [hz2]; omega) (by omega) W
        have hw1 : IntKind.i64.wrap ((k : Int) + 1 - 1) = k := by rw [show (k : Int) + 1 - 1 = (k : Int) by omega]; exact IntWalk.i64_in _ ⟨by omega, by omega⟩
        have hw0 : IntKind.i64.wrap (k : Int) = k := IntWalk.i64_in _ ⟨by omega, by omega⟩
        have hlk : (k : Int) < (ls.length : Int) := by omega
        have hlk1 : (k : Int) + 1 < (ls.length : Int) + 1 := by omega
        have hlk0 : (0 : Int) ≤ (k : Int) + 1 := by omega
        have h2l' : (2 : Int) < (ls[k].length : Int) := by omega
        have HWO := hide hwo
        have hbm := (Below.refl w2.heap.size w2).alloc (Nat.le_refl _) (.cells (madeCells #[.int .i64 0] (cn k)) 3)
        have hnw : (w2.alloc (.cells (madeCells #[.int .i64 0] (cn k)) 3)).ownsRow w2.heap.size 3 1 (.slice (some ⟨w2.heap.size, 0, none⟩) (cn k) (cn k)) (List.replicate (cn k) (0 : Int)).length (intsV (List.replicate (cn k) 0)) := by
          rw [List.length_replicate, ← intsV_rep, ← made_rep]
          exact ⟨by simp [madeCells], Or.inr ⟨_, _, _, rfl, Nat.le_refl _, heap_alloc_new w2 _, Nat.le_refl _, by unfold maxLen; omega, by simp [madeCells], by rw [List.take_of_length_le (by simp [madeCells])]⟩⟩
        have hNC := hO2.newCel (i := k + 1) (g := g2) (by have := block_lt hO2.block; omega) hbm (by rw [hcl]; omega) (by rw [(unhide HI).1]; rfl) ((unhide HI).2.1 (k + 1) (by omega) (by omega)) (.slice (some ⟨w2.heap.size, 0, none⟩) (cn k) (cn k)) (List.replicate (cn k) 0) hnw
        rw [World.setCell_alloc_past _ _ _ _ hGlt, ← partF_set] at hNC
        have HNC := hide (And.intro hNC.1 (And.intro (hbe2.trans (hNC.2.mono (B' := w.heap.size) (by omega))) ((hNC.2.block _ hsz0).trans hR2)))
        clear hbm hnw hNC
        have x1 : w2.heap.size ≠ w1.heap.size := by omega
        have x2 : w2.heap.size ≠ S := by omega
        have x3 : w2.heap.size ≠ g := by omega
        have x4 : w2.heap.size ≠ b := by omega
        have x5 : w2.heap.size ≠ g2 := by omega
        clear hb2 hO2 hbe2 hR2 hGr cT hgc hst hsz hG2 hwo HA HZ hcl hTG hTb
        generalize ls[k][2] = x at *
        generalize ls[k].length = ll at *
        generalize Rf.first ls[k] = z at *
        go_wp2_with fail
        go_region_held3 (fun w' => w'.cell? ⟨w1.heap.size, 2, none⟩ = some (.slice (some ⟨g2, 0, none⟩) (ls.length + 1) (ls.length + 1)) ∧ w'.cell? ⟨S, 0, none⟩ = some (.slice (some ⟨g, 0, none⟩) ls.length cap) ∧ w'.cell? ⟨g, k, none⟩ = some (.slice (some ⟨b, o, none⟩) ll c) ∧ w'.cell? ⟨b, o + 2, none⟩ = some (.string x)) (go_keep) ((go_at_call 93; refine (worth_ref x _ (by unfold maxLen; omega)).mono ?_; rintro e w' ⟨rfl, rfl⟩; rw [unhide HWO]))
        go_wp2_with fail
        go_roundw
        case rel =>
          obtain ⟨f1, f2, f3⟩ := unhide HNC
          refine ⟨k + 1, { X with cps := X.cps.set (k + 1) (.slice (some ⟨w2.heap.size, 0, none⟩) (cn k) (cn k)) }, by omega, by go_num, (unhide HI).1, fun j h1 h2 => ?_, f1.later (below_to_drew _), f2.trans ((below_to_drew _).mono f2.size), block_later f3 (below_to_drew _)⟩
          rw [show ({ X with cps := X.cps.set (k + 1) (.slice (some ⟨w2.heap.size, 0, none⟩) (cn k) (cn k)) } : PlX).cps = X.cps.set (k + 1) (.slice (some ⟨w2.heap.size, 0, none⟩) (cn k) (cn k)) from rfl, List.getElem?_set_ne (by omega)]
          exact (unhide HI).2.1 j (by omega) h2
        case measure => simp [intOf]; omega
    · have hlt' : ¬ (k : Int) + 1 ≤ (ls.length : Int) := by omega
      have hke : k = ls.length := by omega
      subst hke
      clear hcv hnil hO hbe hR
      go_wp2_with fail
      refine (unhide HGo _ hGr).mono ?_
      rintro e w2 ⟨rfl, hb2⟩
      have hO2 := ((unhide HI).2.2.1.later hb2)
      have hq := hO2.block
      have q5 : w2.cell? ⟨w1.heap.size, 5, none⟩ = some (.int .i64 0) := cell_of_block hq 5 (by simp [plA])
      have z5 := free_of_block hq 5
      obtain ⟨hO3, hb3⟩ := hO2.setLine (Rf.goes ls (D + 1) : Nat)
      have hPE : ({ partF ls.length D cn ls.length 0 with line := (Rf.goes ls (D + 1) : Nat) } : Rf.Pl) = Rf.firstPl ls D cn := by rw [← partF_end]; rfl
      rw [hPE] at hO3
      have hbe3 := (unhide HI).2.2.2.1.trans ((hb2.mono (B' := w.heap.size) (unhide HI).2.2.2.1.size).trans (hb3.mono (B' := w.heap.size) (by omega)))
      have hR3 := (hb3.block _ hsz0).trans (block_later (unhide HI).2.2.2.2 hb2)
      obtain ⟨xa, xc, ya, yc, za, zc, oa, oc, f1, f2, f3, f4⟩ := hO3.forms
      have hblk := hO3.block
      have hpa : plA X.fv X.vv X.cv X.ov (Rf.firstPl ls D cn) = #[.slice xa (Rf.firstPl ls D cn).frames.length xc, .slice ya (Rf.firstPl ls D cn).vars.length yc, .slice za (Rf.firstPl ls D cn).cells.length zc, .int .i64 (Rf.firstPl ls D cn).read, .slice oa (Rf.firstPl ls D cn).out.length oc, .int .i64 (Rf.firstPl ls D cn).line, .int .i64 (Rf.firstPl ls D cn).fin] := by rw [f1, f2, f3, f4]; rfl
      have hR2 := block_later (unhide HI).2.2.2.2 hb2
      have hp1 : 0 < (Rf.firstPl ls D cn).frames.length := by simp [Rf.firstPl]
      have hp2 : 0 < (Rf.firstPl ls D cn).cells.length := by simp [Rf.firstPl]
      obtain ⟨n0, n1, n2, n3, n4, n5, n6⟩ := seven hR2
      have zn := free_of_block hR2
      have zq := free_of_block hq
      obtain ⟨P0, hP0⟩ : ∃ P0, P0 = Rf.firstPl ls D cn := ⟨_, rfl⟩
      have hl5 : ((Rf.goes ls (D + 1) : Nat) : Int) = P0.line := by rw [hP0]; rfl
      rw [← hP0] at hO3 hpa hp1 hp2 f1 f2 f3 f4
      have hpb : plA X.fv X.vv X.cv X.ov (partF ls.length D cn ls.length 0) = #[.slice xa P0.frames.length xc, .slice ya P0.vars.length yc, .slice za P0.cells.length zc, .int .i64 P0.read, .slice oa P0.out.length oc, .int .i64 0, .int .i64 P0.fin] := by rw [f1, f2, f3, f4, hP0]; rfl
      rw [hpb] at hq
      have hfin := PlQ.w7 (w0 := w) (hO3.rows.mono (B' := w.heap.size) (by omega)) hR3 hbe3 (Nat.le_refl _) (.slice xa P0.frames.length xc) (.slice ya P0.vars.length yc) (.slice za P0.cells.length zc) (.int .i64 P0.read) (.slice oa P0.out.length oc) (.int .i64 P0.line) (.int .i64 P0.fin)
      have HF := hide (And.intro hfin.2 (And.intro (hfin.1.whole hp1 hp2) (And.intro hpa hP0)))
      obtain ⟨q0, q1, q2, q3, q4, q6, q7⟩ := seven hq
      have hsn : ¬ w.heap.size = w1.heap.size := by omega
      have hsm : ¬ w1.heap.size = w.heap.size := by omega
      rw [hl5] at HF ⊢
      clear hO2 hO3 hb2 hb3 hbe3 hR3 hR2 hblk hpa hpb hfin f1 f2 f3 f4 hGr hq hPE hP0 hp1 hp2 q5 z5 hl5
      go_wp2_with fail
      refine bodyPost_ret (v := .agg #[.slice xa P0.frames.length xc, .slice ya P0.vars.length yc, .slice za P0.cells.length zc, .int .i64 P0.read, .slice oa P0.out.length oc, .int .i64 P0.line, .int .i64 P0.fin]) ?_ rfl ?_
      · simp [results, Tryz.results54, go_sem, n0, n1, n2, n3, n4, n5, n6]
      · obtain ⟨h1, h2, h3, h4⟩ := unhide HF
        rw [← h4]
        exact ⟨h1, _, _, _, _, congrArg (fun a => Ending.returned (Value.agg a)) h3.symm, h2⟩
end Go.Proofs.YthleadfkfnnadaaGreat
