/- A step of the machine, and its place by the document: plain. -/
import Derived.Test.YthleadfkfnnadaaGreatNwC
import Derived.Test.YthleadfkfnnadaaGreatFwC
import Derived.Test.YthleadfkfnnadaaGreatEqvG
import Derived.Test.YthleadfkfnnadaaGreatRefW
import Derived.Test.YthleadfkfnnadaaGreatRefO
namespace Go.Proofs.YthleadfkfnnadaaGreat
open Go.RowKit
attribute [local go_sem ↓] Go.wp_at_zero Go.wp_at_succ
namespace Rt
theorem nestLk_len (len : Nat) : ∀ (ps : List PL) (n : Nat) (bs : List Blk) (lk : Lks), (nestLk len ps n bs lk).length = lk.length
  | [], _, _, _ => rfl
  | p :: r, n, bs, lk => by
    unfold nestLk
    split
    · rw [nestLk_len len r, lkStep_len]
    · rfl
theorem linksOf_len (ps : List PL) : (linksOf ps).length = ps.length + 1 := by
  unfold linksOf
  rw [nestLk_len, List.length_replicate]
end Rt
structure Fit (s : ByteArray) (pls : List Rt.PL) : Prop where
  len : (Rt.linksS s).length = pls.length
  fwd : LkFwd (pls.map Rt.noTok) (Rt.linksS s)
  cells : ∀ p ∈ pls, p.form.cells ≤ 1000
def srcOf (s : ByteArray) (pls : List Rt.PL) (inp : List Int) : Rt.Src := ⟨pls.map Rt.noTok, Rt.linksS s, inp⟩
abbrev zMach : Array Value := #[.slice none 0 0, .slice none 0 0, .slice none 0 0, .slice none 0 0, .int .i64 0, .slice none 0 0, .int .i64 0, .int .i64 0]
def NewP (s : ByteArray) (inp : List Int) (w : World) (e : Ending) (w' : World) : Prop :=
  Below w.heap.size w w' ∧
  ((100 < inp.length ∧ e = .returned (.tuple #[.agg zMach, .int .i64 1, .int .i64 0])) ∨
   (inp.length ≤ 100 ∧ ∃ er ln pls, Rt.readS s = (er, ln, pls) ∧
     ((¬ er = 0 ∧ e = .returned (.tuple #[.agg zMach, .int .i64 er, .int .i64 ln])) ∨
      (er = 0 ∧ ln = 0 ∧ pls.length ≤ 101 ∧ ∃ M X, e = .returned (.tuple #[.agg (mcCells X (Rt.firstM (srcOf s pls inp)) []), .int .i64 0, .int .i64 0]) ∧ w.heap.size ≤ M ∧ (∀ k ∈ blkX X, w.heap.size ≤ k) ∧ McS w' M w.heap.size 90 [] (srcOf s pls inp) (Rt.firstM (srcOf s pls inp)) X))))
theorem eight_cells {w : World} {N : Nat} {t : TypeId} {v0 v1 v2 v3 v4 v5 v6 v7 : Value} (h : w.heap[N]? = some (.cells #[v0, v1, v2, v3, v4, v5, v6, v7] t (0, 0))) :
    w.cell? ⟨N, 0, none⟩ = some v0 ∧ w.cell? ⟨N, 1, none⟩ = some v1 ∧ w.cell? ⟨N, 2, none⟩ = some v2 ∧ w.cell? ⟨N, 3, none⟩ = some v3 ∧ w.cell? ⟨N, 4, none⟩ = some v4 ∧ w.cell? ⟨N, 5, none⟩ = some v5 ∧ w.cell? ⟨N, 6, none⟩ = some v6 ∧ w.cell? ⟨N, 7, none⟩ = some v7 :=
  ⟨cell_of_block h 0 (by simp), cell_of_block h 1 (by simp), cell_of_block h 2 (by simp), cell_of_block h 3 (by simp), cell_of_block h 4 (by simp), cell_of_block h 5 (by simp), cell_of_block h 6 (by simp), cell_of_block h 7 (by simp)⟩
abbrev W8 (w : World) (N : Nat) (a b c d e f g h : Value) : World := (((((((w.setCell ⟨N, 0, none⟩ a).setCell ⟨N, 1, none⟩ b).setCell ⟨N, 2, none⟩ c).setCell ⟨N, 3, none⟩ d).setCell ⟨N, 4, none⟩ e).setCell ⟨N, 5, none⟩ f).setCell ⟨N, 6, none⟩ g).setCell ⟨N, 7, none⟩ h
theorem W8_block {w : World} {R : Nat} {x0 x1 x2 x3 x4 x5 x6 x7 : Value} {t : TypeId} (h : w.heap[R]? = some (.cells #[x0, x1, x2, x3, x4, x5, x6, x7] t (0, 0))) (a b c d e f g i : Value) : (W8 w R a b c d e f g i).heap[R]? = some (.cells #[a, b, c, d, e, f, g, i] t (0, 0)) := by
  have := set_block (set_block (set_block (set_block (set_block (set_block (set_block (set_block h 0 a) 1 b) 2 c) 3 d) 4 e) 5 f) 6 g) 7 i
  simpa using this
theorem below_one {B N : Nat} {w w1 : World} (h : Below B w w1) (hN : B ≤ N) (i : Nat) (v : Value) : Below B w (w1.setCell ⟨N, i, none⟩ v) :=
  ⟨h.os, h.tape, h.output, by simpa [World.setCell] using h.size, fun k hk => by rw [Below.heap_setCell w1 ⟨N, i, none⟩ v k (by show k ≠ N; omega)]; exact h.block k hk⟩
theorem below_set8 {B N : Nat} {w w1 : World} (hb : Below B w w1) (hN : B ≤ N) (a b c d e f g h : Value) : Below B w (W8 w1 N a b c d e f g h) :=
  below_one (below_one (below_one (below_one (below_one (below_one (below_one (below_one hb hN _ _) hN _ _) hN _ _) hN _ _) hN _ _) hN _ _) hN _ _) hN _ _
abbrev W4m (w3 : World) (M : Nat) (iv' : Value) : World := ((w3.setCell ⟨M, 1, none⟩ iv').setCell ⟨M, 2, none⟩ (.slice (some ⟨w3.heap.size, 0, none⟩) 1 1)).alloc (.cells #[.slice none 0 0, .int .i64 0] 153)
theorem mach_start {w2 w3 : World} {P B : Nat} {pls : List Rt.PL} {lk : Rt.Lks} {lv : Value} {cs : List (List Value)} {iv' : Value} {inp : List Int} (hp : ProgM w2 P B pls lk lv cs) (hb3 : Below (w2.heap.size + 1) (w2.alloc (.cells #[lv, .slice none 0 0, .slice none 0 0, .slice none 0 0, .int .i64 0, .slice none 0 0, .int .i64 0, .int .i64 0] 90)) w3) (hin : w3.ownsRow (w2.heap.size + 1) 3 1 iv' inp.length (inp.map (Value.int .i64))) :
    McS (W4m w3 w2.heap.size iv') w2.heap.size B 90 [] ⟨pls, lk, inp⟩ ⟨[Rt.noFm], [], 0, [], 0, 0⟩ ⟨lv, iv', .slice (some ⟨w3.heap.size, 0, none⟩) 1 1, .slice none 0 0, .slice none 0 0, [.slice none 0 0], [], cs⟩ ∧ Below w2.heap.size w2 (W4m w3 w2.heap.size iv') := by
  have bM3 := (hb3.block w2.heap.size (by omega)).trans (heap_alloc_new w2 (.cells #[lv, .slice none 0 0, .slice none 0 0, .slice none 0 0, .int .i64 0, .slice none 0 0, .int .i64 0, .int .i64 0] 90))
  have hMlt := block_lt bM3
  have h1 := set_block bM3 1 iv'
  have h2 := set_block h1 2 (.slice (some ⟨w3.heap.size, 0, none⟩) 1 1)
  have hsz : ((w3.setCell ⟨w2.heap.size, 1, none⟩ iv').setCell ⟨w2.heap.size, 2, none⟩ (.slice (some ⟨w3.heap.size, 0, none⟩) 1 1)).heap.size = w3.heap.size := by simp [World.setCell]
  have h3 := block_alloc h2 (.cells #[.slice none 0 0, .int .i64 0] 153)
  have hbb : Below w2.heap.size w2 w3 := ((Below.refl w2.heap.size w2).alloc (Nat.le_refl _) (.cells #[lv, .slice none 0 0, .slice none 0 0, .slice none 0 0, .int .i64 0, .slice none 0 0, .int .i64 0, .int .i64 0] 90)).trans (hb3.mono (by omega))
  have hb24 : Below w2.heap.size w2 (W4m w3 w2.heap.size iv') := (below_one (below_one hbb (Nat.le_refl _) 1 iv') (Nat.le_refl _) 2 (.slice (some ⟨w3.heap.size, 0, none⟩) 1 1)).alloc (by rw [hsz]; omega) _
  have hp4 := hp.later hb24
  have hoth : ∀ k, k < w3.heap.size → k ≠ w2.heap.size → (W4m w3 w2.heap.size iv').heap[k]? = w3.heap[k]? := by
    intro k hk hne
    rw [show (W4m w3 w2.heap.size iv').heap[k]? = ((w3.setCell ⟨w2.heap.size, 1, none⟩ iv').setCell ⟨w2.heap.size, 2, none⟩ (.slice (some ⟨w3.heap.size, 0, none⟩) 1 1)).heap[k]? from heap_alloc_old _ _ (by rw [hsz]; exact hk)]
    rw [Below.heap_setCell _ _ _ _ hne, Below.heap_setCell _ _ _ _ hne]
  have r1 : (W4m w3 w2.heap.size iv').ownsRow 0 3 1 iv' inp.length (intsV inp) := own_same (own_zero hin) (fun g hg => hoth g (hin.lt g hg).2 (by have := (hin.lt g hg).1; omega))
  have hnew := heap_alloc_new ((w3.setCell ⟨w2.heap.size, 1, none⟩ iv').setCell ⟨w2.heap.size, 2, none⟩ (.slice (some ⟨w3.heap.size, 0, none⟩) 1 1)) (.cells #[.slice none 0 0, .int .i64 0] 153)
  rw [hsz] at hnew
  have r2 : (W4m w3 w2.heap.size iv').ownsRow 0 153 2 (.slice (some ⟨w3.heap.size, 0, none⟩) 1 1) 1 [.slice none 0 0, .int .i64 0] :=
    ⟨rfl, Or.inr ⟨w3.heap.size, 1, #[.slice none 0 0, .int .i64 0], rfl, Nat.zero_le _, hnew, Nat.le_refl _, by unfold maxLen; omega, rfl, rfl⟩⟩
  refine ⟨⟨by simpa using h3, ⟨block_lt h3, ?_, hp4.own, hp4.lines, hp4.links, hp4.len⟩, ⟨?_, ?_⟩, rfl, rfl, by unfold TyOk; decide⟩, hb24⟩
  · have := cell_of_block h3 0 (by simp)
    simpa using this
  · intro r hr
    simp only [rowsOf, List.map_cons, List.map_nil, List.zipWith_cons_cons, List.zipWith_nil_left, List.append_nil, List.cons_append, List.nil_append, List.mem_cons, List.not_mem_nil, or_false] at hr
    rcases hr with rfl | rfl | rfl | rfl | rfl
    · exact r1
    · exact r2
    · exact World.ownsRow_nil _ _ _ _
    · exact World.ownsRow_nil _ _ _ _
    · exact World.ownsRow_nil _ _ _ _
  · have hb : blks (rowsOf inp ⟨lv, iv', .slice (some ⟨w3.heap.size, 0, none⟩) 1 1, .slice none 0 0, .slice none 0 0, [.slice none 0 0], [], cs⟩ ⟨[Rt.noFm], [], 0, [], 0, 0⟩) = (match iv'.ownBlock with | none => [w3.heap.size] | some g => [g, w3.heap.size]) := by
      unfold rowsOf
      rw [List.cons_append, blks_cons]
      rfl
    rw [hb]
    cases e : iv'.ownBlock with
    | none => simp
    | some g =>
      have := (hin.lt g e).2
      simp
      omega
theorem McS.shape {w : World} {M B : Nat} {ty : TypeId} {tail : List Value} {S : Rt.Src} {m : Rt.Mc} {X : McX} (h : McS w M B ty tail S m X) : ∃ la lc ia ic fa fc va vc oa oc, X.lv = .slice la S.pls.length lc ∧ X.iv = .slice ia S.input.length ic ∧ X.fv = .slice fa m.frames.length fc ∧ X.vv = .slice va m.values.length vc ∧ X.ov = .slice oa m.output.length oc := by
  obtain ⟨la, lc, e1⟩ := ownsRow_form h.prog.own
  obtain ⟨ia, ic, e2⟩ := ownsRow_form h.input
  obtain ⟨fa, fc, e3⟩ := ownsRow_form h.frames
  obtain ⟨va, vc, e4⟩ := ownsRow_form h.vals
  obtain ⟨oa, oc, e5⟩ := ownsRow_form h.out
  exact ⟨la, lc, ia, ic, fa, fc, va, vc, oa, oc, e1, e2, e3, e4, e5⟩
theorem McS.eight {w : World} {M B : Nat} {ty : TypeId} {tail : List Value} {S : Rt.Src} {m : Rt.Mc} {X : McX} (h : McS w M B ty tail S m X) {N : Nat} {x0 x1 x2 x3 x4 x5 x6 x7 : Value} (hN : w.heap[N]? = some (.cells #[x0, x1, x2, x3, x4, x5, x6, x7] 90 (0, 0))) (hM : N ≠ M) (a b c d e f g i : Value) : McS (W8 w N a b c d e f g i) M B ty tail S m X := by
  have ht : ¬ PTy 90 ∧ 90 ≠ 3 ∧ 90 ≠ 153 ∧ 90 ≠ 24 := by unfold PTy; decide
  have n1 := set_block hN 0 a
  have n2 := set_block n1 1 b
  have n3 := set_block n2 2 c
  have n4 := set_block n3 3 d
  have n5 := set_block n4 4 e
  have n6 := set_block n5 5 f
  have n7 := set_block n6 6 g
  exact (((((((h.aside hN hM ht 0 a).aside n1 hM ht 1 b).aside n2 hM ht 2 c).aside n3 hM ht 3 d).aside n4 hM ht 4 e).aside n5 hM ht 5 f).aside n6 hM ht 6 g).aside n7 hM ht 7 i
set_option maxHeartbeats 1000000 in
set_option maxRecDepth 100000 in
theorem new_any (s : ByteArray) (iv : Value) (inp : List Int) (w : World) (hs : s.size ≤ maxLen) (hi : Ints w iv inp) (hfit : ∀ pls, Rt.readS s = (0, 0, pls) → Fit s pls) :
    Calls Tryz.prog 49 #[.string s, iv] w (NewP s inp w) := by
  obtain ⟨i0, hi0, hz0, hz1, hz2⟩ := info_parts Tryz.infoIntK
  have HI := hide hi
  obtain ⟨iad, icap, rfl, _⟩ := hi
  by_cases hl : 100 < inp.length
  · have hl' : (100 : Int) < (inp.length : Int) := by omega
    have HW := heap_alloc_new w (.cells zMach 90)
    have E := eight_cells HW
    have HB := hide ((Below.refl w.heap.size w).alloc (Nat.le_refl _) (.cells zMach 90))
    clear HW
    go_enter Tryz.func49, Tryz.ntmps49
    go_wp2_with fail
    refine bodyPost_ret (v := .tuple #[.agg zMach, .int .i64 1, .int .i64 0]) ?_ rfl ⟨unhide HB, Or.inl ⟨hl, rfl⟩⟩
    revert E
    generalize w.alloc (.cells zMach 90) = wz
    rintro ⟨E0, E1, E2, E3, E4, E5, E6, E7⟩
    simp [results, Tryz.results49, go_sem, E0, E1, E2, E3, E4, E5, E6, E7]
  · have hl' : ¬ (100 : Int) < (inp.length : Int) := by omega
    go_enter Tryz.func49, Tryz.ntmps49
    go_wp2_with fail
    refine (read_link s _ hs).mono ?_
    rintro e w1 ⟨hb1, er, ln, pls, hR, hcase⟩
    have hb0 := (Below.refl w.heap.size w).alloc (Nat.le_refl _) (.cells zMach 90)
    have hB1 : Below w.heap.size w w1 := hb0.trans (hb1.mono (by simp))
    have bR1 := block_later (heap_alloc_new w (.cells zMach 90)) hb1
    rcases hcase with ⟨her, rfl⟩ | ⟨rfl, rfl, hlen, lv, cs, rfl, hown, hlines, hlk⟩
    · have her' : (er != 0) = true := by simpa using her
      have HB := hide hB1
      have HR := hide hR
      obtain ⟨e0, e1, e2, e3, e4, e5, e6, e7⟩ := eight_cells bR1
      have Z := free_of_block bR1
      have hRlt := block_lt bR1
      have hRne : ¬ w.heap.size = w1.heap.size := by omega
      clear hb1 hb0 hB1 hR
      go_wp2_with fail
      have HW := W8_block bR1 (.slice none 0 0) (.slice none 0 0) (.slice none 0 0) (.slice none 0 0) (.int .i64 0) (.slice none 0 0) (.int .i64 0) (.int .i64 0)
      have E := eight_cells (block_alloc HW (.cells #[.slice none 0 0] 76))
      have HB2 := (below_set8 (unhide HB) (Nat.le_refl _) (.slice none 0 0) (.slice none 0 0) (.slice none 0 0) (.slice none 0 0) (.int .i64 0) (.slice none 0 0) (.int .i64 0) (.int .i64 0))
      have HB3 := HB2.alloc HB2.size (.cells #[.slice none 0 0] 76)
      refine bodyPost_ret (v := .tuple #[.agg zMach, .int .i64 er, .int .i64 ln]) ?_ rfl ⟨HB3, Or.inr ⟨by omega, er, ln, pls, unhide HR, Or.inl ⟨her, rfl⟩⟩⟩
      revert E
      generalize (W8 w1 w.heap.size (.slice none 0 0) (.slice none 0 0) (.slice none 0 0) (.slice none 0 0) (.int .i64 0) (.slice none 0 0) (.int .i64 0) (.int .i64 0)).alloc (.cells #[.slice none 0 0] 76) = wz
      rintro ⟨E0, E1, E2, E3, E4, E5, E6, E7⟩
      simp [results, Tryz.results49, go_sem, E0, E1, E2, E3, E4, E5, E6, E7]
    · obtain ⟨lad, lcap, rfl⟩ := ownsRow_form hown
      have hft := hfit pls hR
      have hbP := (Below.refl w1.heap.size w1).alloc (Nat.le_refl _) (.cells #[.slice lad pls.length lcap] 76)
      have bP := heap_alloc_new w1 (.cells #[.slice lad pls.length lcap] 76)
      have hpm : ProgM (w1.alloc (.cells #[.slice lad pls.length lcap] 76)) w1.heap.size w.heap.size pls (Rt.linksS s) (.slice lad pls.length lcap) cs :=
        ⟨by simp, cell_of_block bP 0 (by simp), ownsRow_mono (own_later hown hbP) (by simp), Keeps.lines (w := w1.alloc (.cells #[.slice lad pls.length lcap] 76)) (fun _ _ _ _ _ _ h => ownsRow_mono h (by simp)) _ _ ((keeps_later hbP).lines _ _ hlines), hlk.later hown hbP, hft.len⟩
      have hne : (Value.slice lad pls.length lcap).ownBlock ≠ some w1.heap.size := by
        intro e
        have := (hown.lt _ e).2
        omega
      have hRlt := block_lt bR1
      have hRne : ¬ w.heap.size = w1.heap.size := by omega
      have bR2 := block_later bR1 hbP
      have HX := hide (And.intro hown hB1)
      have HFT := hide hft
      have HR := hide hR
      clear hown hlines hlk hb1 hb0 hB1 hft hR
      go_wp2_with fail
      refine (drop_any _ w1.heap.size w.heap.size pls (Rt.linksS s) _ cs hpm hne hlen).mono ?_
      rintro e w2 ⟨rfl, ⟨cs2, hp2⟩, hg2⟩
      have c2 := hp2.cell
      have hlt2 := hp2.lt
      have hB2 : Below w.heap.size w w2 := by
        have h1 : Below w.heap.size w (w1.alloc (.cells #[.slice lad pls.length lcap] 76)) := (unhide HX).2.alloc (unhide HX).2.size _
        exact h1.grown hg2 h1.size (fun j hj => by have := ((unhide HX).1.lt j hj).1; simp at this; omega)
      have HB2 := hide (And.intro (hB2.alloc hB2.size (.cells #[.slice lad pls.length lcap, .slice none 0 0, .slice none 0 0, .slice none 0 0, .int .i64 0, .slice none 0 0, .int .i64 0, .int .i64 0] 90)) hB2)
      clear hpm hB2
      go_wp2_with (at_builtin; refine wpList_append_any _ rfl _ _ 24 24 rfl (w2.heap.size + 1) 3 i0 _ Tryz.underlying24 hi0 hz0 hz1 (by omega) rfl _ 0 [] rfl (World.ownsRow_nil _ _ _ _) _ inp.length (inp.map (Value.int .i64)) rfl ?c0 ?c1 ?c2 ?_)
      case c0 => exact ((unhide HI).later (unhide HB2).1).src
      case c1 => omega
      case c2 => simp
      intro v' w3 hown3 hgrow3
      obtain ⟨vad, vcap, rfl⟩ := ownsRow_form hown3
      have hb3 : Below (w2.heap.size + 1) (w2.alloc (.cells #[.slice lad pls.length lcap, .slice none 0 0, .slice none 0 0, .slice none 0 0, .int .i64 0, .slice none 0 0, .int .i64 0, .int .i64 0] 90)) w3 := ⟨hgrow3.os, hgrow3.tape, hgrow3.output, hgrow3.size, fun k hk => hgrow3.block k (by simpa using hk) (by simp [Value.ownBlock])⟩
      have bM3 := (hb3.block w2.heap.size (by omega)).trans (heap_alloc_new w2 (.cells #[.slice lad pls.length lcap, .slice none 0 0, .slice none 0 0, .slice none 0 0, .int .i64 0, .slice none 0 0, .int .i64 0, .int .i64 0] 90))
      obtain ⟨m0, m1, m2, m3, m4, m5, m6, m7⟩ := eight_cells bM3
      have zM := free_of_block bM3
      have hMlt := block_lt bM3
      have hMne : ¬ w2.heap.size = w3.heap.size := by omega
      have H3 := hide (And.intro hown3 (And.intro hb3 bM3))
      have HP2 := hide (And.intro hp2 hg2)
      clear hown3 hb3 bM3 hgrow3 hp2 hg2 bP bR2 hbP
      go_wp2_with fail
      obtain ⟨hown3, hb3, bM3⟩ := unhide H3
      obtain ⟨hms, hb24⟩ := mach_start (unhide HP2).1 hb3 hown3
      refine (first_m _ w2.heap.size w.heap.size (pls.map Rt.noTok) (Rt.linksS s) _ cs2 hms.prog (by simpa using hlen) (unhide HFT).fwd).mono ?_
      rintro e w5 ⟨rfl, hb5⟩
      have h5 := hms.later hb5
      have g6 := h5.c6
      have z6 := h5.fz 6
      have bR2 : w2.heap[w.heap.size]? = some (.cells zMach 90 (0, 0)) := by
        refine ((unhide HP2).2.block w.heap.size (by simp; omega) (fun e => ?_)).trans (block_alloc bR1 _)
        have := ((unhide HX).1.lt _ e.symm).1
        simp at this
        omega
      have hR2lt := block_lt bR2
      have bR5 := block_later bR2 (hb24.trans (hb5.mono hb24.size))
      have hBw : Below w.heap.size w w5 := (unhide HB2).2.trans ((hb24.trans (hb5.mono hb24.size)).mono (B' := w.heap.size) (unhide HB2).2.size)
      have HFM := hide (show Rt.firstM (srcOf s pls inp) = ⟨[Rt.noFm], (pls.map Rt.noTok).map (fun p => Rt.zerosI p.form), 0, [], Rt.goOn (pls.map Rt.noTok) (Rt.linksS s) 102 (wrap64 (Rt.declP (pls.map Rt.noTok) Rt.mainName + 1)), 0⟩ from rfl)
      have hin3 := hown3.lt
      generalize Rt.goOn (pls.map Rt.noTok) (Rt.linksS s) 102 (wrap64 (Rt.declP (pls.map Rt.noTok) Rt.mainName + 1)) = L at *
      have hA6 := (Aft.start h5 (Below.refl _ _)).own (m' := ⟨[Rt.noFm], [], 0, [], L, 0⟩) 6 (.int .i64 L) (by simp [mcCells]) rfl rfl rfl
      have bR6 := (Below.heap_setCell w5 ⟨w2.heap.size, 6, none⟩ (.int .i64 L) w.heap.size (by show w.heap.size ≠ w2.heap.size; omega)).trans bR5
      have HB6 := hide (below_one hBw (show w.heap.size ≤ w2.heap.size by omega) 6 (.int .i64 L))
      have HA6 := hide hA6
      have HR6 := hide bR6
      have hG0 : ∀ k ∈ blkX ⟨.slice lad pls.length lcap, .slice vad inp.length vcap, .slice (some ⟨w3.heap.size, 0, none⟩) 1 1, .slice none 0 0, .slice none 0 0, [.slice none 0 0], [], cs2⟩, w.heap.size ≤ k := by
        intro k hk
        simp only [blkX, List.cons_append, List.nil_append, List.append_nil, List.mem_filterMap, List.mem_cons, List.not_mem_nil, or_false] at hk
        obtain ⟨v, hv, hvk⟩ := hk
        rcases hv with rfl | rfl | rfl | rfl | rfl
        · have := (hin3 k hvk).1; omega
        · simp [Value.ownBlock] at hvk; omega
        · cases hvk
        · cases hvk
        · cases hvk
      have HG0 := hide hG0
      have hcells : ∀ p ∈ pls.map Rt.noTok, p.form.cells ≤ 1000 := by
        intro p hp
        obtain ⟨q, hq, rfl⟩ := List.mem_map.mp hp
        exact (unhide HFT).cells q hq
      clear hown3 hb3 bM3 hms hb24 hb5 h5 bR2 bR5 hBw hA6 bR6 hG0 hin3 m0 m1 m2 m3 m4 m5 m6 m7 zM c2
      go_wp2_with fail
      refine (declare_any _ w2.heap.size w.heap.size 90 [] ⟨pls.map Rt.noTok, Rt.linksS s, inp⟩ _ _ (unhide HA6).mc rfl (by simpa using hlen) hcells).mono ?_
      rintro e w7 ⟨rfl, X7, hA7⟩
      have bR7 := Aft.keeps (unhide HA6).mc hA7 (unhide HR6) (by omega) (by decide)
      have h7 := hA7.mc
      obtain ⟨la, lc, ia, ic, fa, fc, va, vc, oa, oc, q1, q2, q3, q4, q5⟩ := h7.shape
      have hb7 := h7.block
      rw [q1, q2, q3, q4, q5] at hb7
      obtain ⟨x0, x1, x2, x3, x4, x5, x6, x7⟩ := eight_cells hb7
      obtain ⟨y0, y1, y2, y3, y4, y5, y6, y7⟩ := eight_cells bR7
      have zR := free_of_block bR7
      have hRM : ¬ w.heap.size = w2.heap.size := by omega
      have HMC := hide (fun a b c d e f g i => h7.eight bR7 hRM a b c d e f g i)
      have HBW := hide (fun a b c d e f g i => W8_block bR7 a b c d e f g i)
      have HB7 : Hid (∀ a b c d e f g i, Below w.heap.size w (W8 w7 w.heap.size a b c d e f g i)) := hide (fun a b c d e f g i => below_set8 ⟨hA7.frm.os.trans (unhide HB6).os, hA7.frm.tape.trans (unhide HB6).tape, hA7.frm.output.trans (unhide HB6).output, Nat.le_trans (unhide HB6).size hA7.frm.size, fun k hk => (hA7.frm.block k (Nat.lt_of_lt_of_le hk (unhide HB6).size) (fun hm => by
        rcases List.mem_cons.mp hm with rfl | hm
        · omega
        · have := unhide HG0 k hm; omega)).trans ((unhide HB6).block k hk)⟩ (Nat.le_refl _) a b c d e f g i)
      have HG7 : Hid (∀ k ∈ blkX X7, w.heap.size ≤ k) := hide (fun k hk => by
        rcases hA7.grow k hk with h' | h'
        · exact unhide HG0 k h'
        · exact Nat.le_trans (unhide HB6).size h')
      have HQ := hide (show mcCells X7 (Rt.firstM (srcOf s pls inp)) [] = #[.slice la (pls.map Rt.noTok).length lc, .slice ia inp.length ic, .slice fa 1 fc, .slice va ((pls.map Rt.noTok).map (fun p => Rt.zerosI p.form)).length vc, .int .i64 0, .slice oa 0 oc, .int .i64 L, .int .i64 0] by
        rw [unhide HFM]
        simp only [mcCells, q1, q2, q3, q4, q5]
        rfl)
      clear hA7 bR7 h7 hb7 q1 q2 q3 q4 q5 HA6 HR6 HG0
      go_wp2_with fail
      have HQ' : mcCells X7 (Rt.firstM (srcOf s pls inp)) [] = #[.slice la pls.length lc, .slice ia inp.length ic, .slice fa 1 fc, .slice va pls.length vc, .int .i64 0, .slice oa 0 oc, .int .i64 L, .int .i64 0] := by rw [unhide HQ]; simp
      have E := eight_cells (unhide HBW (.slice la pls.length lc) (.slice ia inp.length ic) (.slice fa 1 fc) (.slice va pls.length vc) (.int .i64 0) (.slice oa 0 oc) (.int .i64 L) (.int .i64 0))
      refine bodyPost_ret (v := .tuple #[.agg #[.slice la pls.length lc, .slice ia inp.length ic, .slice fa 1 fc, .slice va pls.length vc, .int .i64 0, .slice oa 0 oc, .int .i64 L, .int .i64 0], .int .i64 0, .int .i64 0]) ?_ rfl ⟨unhide HB7 _ _ _ _ _ _ _ _, Or.inr ⟨by omega, 0, 0, pls, unhide HR, Or.inr ⟨rfl, rfl, hlen, w2.heap.size, X7, by rw [HQ'], by omega, unhide HG7, by rw [unhide HFM]; exact unhide HMC _ _ _ _ _ _ _ _⟩⟩⟩
      obtain ⟨E0, E1, E2, E3, E4, E5, E6, E7⟩ := E
      simp [results, Tryz.results49, go_sem, E0, E1, E2, E3, E4, E5, E6, E7]
end Go.Proofs.YthleadfkfnnadaaGreat
namespace Go.Proofs.YthleadfkfnnadaaGreat
namespace Rt
theorem read_nest {s : ByteArray} {pls : List PL} (h : readS s = (0, 0, pls)) : tooLong s = false ∧ (rForms 0 (lines s) [zPL]).1 = 0 ∧ nestFrom ((rForms 0 (lines s) [zPL]).2.drop 1) 1 [] [zPL] = (0, pls, []) ∧ nameErr pls 1 (pls.drop 1) = 0 ∧ (declForm pls mainName).kind = 3 := by
  unfold readS at h
  split at h
  · injection h with h _; omega
  · next h0 =>
    rw [readForms] at h
    split at h
    · injection h with h _; omega
    · next h1 =>
      rw [readNest] at h
      split at h
      · injection h with h _; omega
      · next h2 =>
        split at h
        · injection h with h _; omega
        · next h3 =>
          rw [readNames] at h
          split at h
          · injection h with h _; omega
          · next h4 =>
            split at h
            · injection h with h _; omega
            · next h5 =>
              injection h with _ h
              injection h with _ h
              subst h
              exact ⟨by simpa using h0, by omega, Prod.ext (by simpa using h2) (Prod.ext rfl (Decidable.not_not.mp h3)), Decidable.not_not.mp h4, Decidable.not_not.mp h5⟩
theorem small_z : Small zPL.form := ⟨by simp [zPL], by simp [zPL], by simp [zPL], by simp [zPL], by simp [zPL]⟩
theorem read_small {s : ByteArray} {pls : List PL} (h : readS s = (0, 0, pls)) : (∀ p ∈ pls, Small p.form) ∧ pls.length ≤ 101 ∧ (linksS s).length = pls.length := by
  obtain ⟨h1, h2, h3, _, _⟩ := read_nest h
  obtain ⟨hz, hl⟩ := tooLong_no h1
  obtain ⟨a, b, rest, c⟩ := rForms_facts (lines s) 0 [zPL] (rForms 0 (lines s) [zPL]).2 (lines_facts hz) (fun p hp => by rw [List.mem_singleton.mp hp]; exact small_z) (Prod.ext h2 rfl)
  obtain ⟨d, e⟩ := nest_facts _ 1 [] [zPL] pls [] (fun p hp => by rw [List.mem_singleton.mp hp]; exact small_z) (fun p hp => b p (List.mem_of_mem_drop hp)) h3 (by omega)
  rw [List.length_drop, a] at d
  simp only [List.length_singleton] at d
  refine ⟨e, by omega, ?_⟩
  unfold linksS
  rw [linksOf_len, List.length_drop, a]
  simp only [List.length_singleton]
  omega
theorem noTok_get {pls : List PL} {n : Nat} {p : PL} (h : (pls.map noTok)[n]? = some p) : ∃ q, pls[n]? = some q ∧ p = noTok q := by
  rw [List.getElem?_map] at h
  cases e : pls[n]? with
  | none => rw [e] at h; cases h
  | some q => rw [e] at h; injection h with h; exact ⟨q, rfl, h.symm⟩
theorem read_fwd {s : ByteArray} {pls : List PL} (h : readS s = (0, 0, pls)) : LkFwd (pls.map noTok) (linksS s) := by
  obtain ⟨h1, h2, h3, _, _⟩ := read_nest h
  obtain ⟨hz, hl⟩ := tooLong_no h1
  obtain ⟨a, b, rest, c⟩ := rForms_facts (lines s) 0 [zPL] (rForms 0 (lines s) [zPL]).2 (lines_facts hz) (fun p hp => by rw [List.mem_singleton.mp hp]; exact small_z) (Prod.ext h2 rfl)
  have hf := links_fwd h3 (by rw [List.length_drop, a]; simp only [List.length_singleton]; omega)
  intro n p hn hk
  obtain ⟨q, hq, rfl⟩ := noTok_get hn
  exact hf n q hq hk
end Rt
theorem fit_of {s : ByteArray} {pls : List Rt.PL} (h : Rt.readS s = (0, 0, pls)) : Fit s pls :=
  ⟨(Rt.read_small h).2.2, Rt.read_fwd h, fun p hp => by have := ((Rt.read_small h).1 p hp).cells; omega⟩
end Go.Proofs.YthleadfkfnnadaaGreat
namespace Go.Proofs.YthleadfkfnnadaaGreat
open Go.RowKit
namespace Rt
theorem lnAt_noTok (pls : List PL) (n : Int) : lnAt (pls.map noTok) n = noTok (lnAt pls n) := by
  unfold lnAt
  split
  · rfl
  · rw [List.getElem?_map]
    cases pls[n.toNat]? <;> rfl
theorem formAt_noTok (pls : List PL) (n : Int) : formAt (pls.map noTok) n = formAt pls n := by
  unfold formAt
  split
  · rfl
  · rw [List.getElem?_map]
    cases pls[n.toNat]? <;> rfl
theorem declFrom_noTok (x : ByteArray) : ∀ (ps : List PL) (n : Nat), declFrom n (ps.map noTok) x = declFrom n ps x
  | [], _ => rfl
  | p :: r, n => by
    rw [List.map_cons, declFrom, declFrom, declFrom_noTok x r (n + 1)]
    rfl
theorem declP_noTok (pls : List PL) (x : ByteArray) : declP (pls.map noTok) x = declP pls x := by
  unfold declP
  rw [← List.map_drop, declFrom_noTok]
theorem isStop_noTok (pls : List PL) (p : PL) : isStopP (pls.map noTok) (noTok p) = isStopP pls p := by
  unfold isStopP
  rw [formAt_noTok]
  rfl
theorem goOn_noTok (pls : List PL) (lk : Lks) : ∀ (f : Nat) (n : Int), goOn (pls.map noTok) lk f n = goOn pls lk f n
  | 0, _ => rfl
  | f + 1, n => by
    rw [goOn, goOn, List.length_map, lnAt_noTok, isStop_noTok, formAt_noTok, goOn_noTok pls lk f, goOn_noTok pls lk f]
    rfl
end Rt
namespace Rf
open Rt
def procN (pls : List PL) (n : Int) : Nat := (lnAt pls n).proc.toNat
def frsOf (pls : List PL) : List Fm → Int → List Fr
  | [], _ => []
  | [f], n => [⟨procN pls n, f.params, f.call⟩]
  | f :: g :: r, n => ⟨procN pls g.call, f.params, f.call⟩ :: frsOf pls (g :: r) n
theorem frs_len (pls : List PL) : ∀ (fs : List Fm) (n : Int), (frsOf pls fs n).length = fs.length
  | [], _ => rfl
  | [_], _ => rfl
  | a :: b :: r, n => by
    show (frsOf pls (b :: r) n).length + 1 = _
    rw [frs_len pls (b :: r) n]
    rfl
def varsOf (pls : List PL) (vs : List (List Int)) : List Int := (List.range pls.length).map (fun l : Nat => if (formAt pls (l : Nat)).kind = 1 then ((vs[l]?).getD []).headD 0 else 0)
def celsOf (pls : List PL) (vs : List (List Int)) : List (List Int) := (List.range pls.length).map (fun l : Nat => if (formAt pls (l : Nat)).kind = 2 then (vs[l]?).getD [] else [])
def plOf (pls : List PL) (m : Mc) : Pl := ⟨frsOf pls m.frames m.line, varsOf pls m.values, celsOf pls m.values, m.taken.toNat, m.output, m.line, m.fin⟩
open Rt
structure Ctx (ps pls : List PL) (ls : List (List ByteArray)) (S : Rt.Src) : Prop where
  nst : Nst ps pls
  both : Both pls ls
  spls : S.pls = pls.map noTok
  lk : S.lk = linksOf ps
  law : Lawful ls
  nam : ∀ n : Nat, n < ps.length → namFit pls (n + 1) (lnAt pls ((n : Int) + 1)) = true
  main : (declForm pls mainName).kind = 3
  nopar : (declForm pls mainName).params = []
structure Fine (ps pls : List PL) (ls : List (List ByteArray)) (S : Rt.Src) (m : Mc) : Prop where
  line : ∃ l : Nat, l < ps.length ∧ m.line = (l : Int) + 1 ∧ isStopP pls (lnAt pls ((l : Int) + 1)) = true ∧ stp ps l ≠ []
  ne : m.frames ≠ []
  few : m.frames.length ≤ 6
  frs : ∀ f ∈ frsOf pls m.frames m.line, FrOK ls f
  calls : ∀ f ∈ m.frames.tail, ∃ c : Nat, c < ps.length ∧ f.call = (c : Int) + 1 ∧ kd ps c = 12
  vals : m.values.map List.length = pls.map (fun p => (zerosI p.form).length)
  taken : 0 ≤ m.taken ∧ m.taken ≤ S.input.length
section
variable {ps pls : List PL} {ls : List (List ByteArray)} {S : Rt.Src} {m : Mc}
theorem Ctx.len (C : Ctx ps pls ls S) : ps.length = ls.length := both_len C.nst C.both
theorem Ctx.go (C : Ctx ps pls ls S) {k : Nat} (hk : k ≤ ls.length) : goOn S.pls S.lk 102 ((k : Int) + 1) = (goes ls k : Nat) := by
  rw [C.spls, C.lk, goOn_noTok]
  exact goOn_goes C.nst C.both C.law.len hk
theorem Ctx.stop (C : Ctx ps pls ls S) {k : Nat} (hk : k ≤ ls.length) (hne : stp ps k ≠ []) : ∃ l : Nat, goes ls k = l + 1 ∧ l < ps.length ∧ isStopP pls (lnAt pls ((l : Int) + 1)) = true ∧ stp ps l ≠ [] ∧ out1 (stp ps l) = out1 (stp ps k) := by
  have hl := C.len
  have h100 := C.law.len
  obtain ⟨l, l1, l2, l3, l4, l5⟩ := go_in C.nst (by omega) 102 k (by omega) (by omega) hne
  rw [goOn_goes C.nst C.both C.law.len hk] at l1
  exact ⟨l, by omega, l2, l3, l4, l5⟩
theorem Ctx.procN (C : Ctx ps pls ls S) {l : Nat} (hl : l < ps.length) (hne : stp ps l ≠ []) : Rf.procN pls ((l : Int) + 1) = (out1 (stp ps l)).1 := by
  unfold Rf.procN
  rw [ln_proc C.nst hl hne]
  omega
theorem Ctx.params (C : Ctx ps pls ls S) {d : Nat} (hd : d < ls.length) (hk : kd ps d = 3) : 2 ≤ (lineAt ls d).length ∧ (formAt pls ((d : Int) + 1)).params.length = (lineAt ls d).length - 2 := by
  have hf := C.both.form hd
  rw [show ((d + 1 : Nat) : Int) = (d : Int) + 1 by omega] at hf
  have hkk : (formAt pls ((d : Int) + 1)).kind = 3 := by
    rw [form_at C.nst (by rw [C.len]; exact hd), ← kd_lt, hk]
  rw [lineAt_lt hd]
  generalize formAt pls ((d : Int) + 1) = fm at *
  generalize ls[d] = t at *
  cases hf with
  | proc x q hx hq hl => simp
  | _ => simp at hkk
theorem range_set {β : Type} (n d : Nat) (f f' : Nat → β) (v : β) (h1 : d < n → f' d = v) (h2 : ∀ k, k ≠ d → f' k = f k) : (List.range n).map f' = ((List.range n).map f).set d v := by
  apply List.ext_getElem
  · simp
  · intro i h3 h4
    rw [List.getElem_set]
    simp only [List.getElem_map, List.getElem_range]
    split
    · next e => subst e; exact h1 (by simpa using h3)
    · next e => exact h2 i (fun q => e q.symm)
end
open Rt
section
variable {ps pls : List PL} {ls : List (List ByteArray)} {S : Rt.Src} {m : Mc}
end
end Rf
end Go.Proofs.YthleadfkfnnadaaGreat
