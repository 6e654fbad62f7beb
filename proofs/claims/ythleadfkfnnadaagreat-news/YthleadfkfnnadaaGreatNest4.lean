/- The walk of nestBlocks. -/
import Derived.Test.YthleadfkfnnadaaGreatFlow1
namespace Go.Proofs.YthleadfkfnnadaaGreat
open Go.RowKit
attribute [local go_sem ↓] Go.wp_at_zero Go.wp_at_succ
theorem NestS.other {w w' : World} {S : Nat} {bs : List Rt.Blk} {bv : Value} (h : NestS w S bs bv) (hS : w'.heap[S]? = w.heap[S]?) (hv : ∀ g, bv.ownBlock = some g → w'.heap[g]? = w.heap[g]?) : NestS w' S bs bv := by
  refine ⟨by rw [hS]; exact h.block, ?_⟩
  obtain ⟨h1, h2⟩ := h.own
  refine ⟨h1, ?_⟩
  rcases h2 with h2 | ⟨g, cap, cur, hv', hg, hh, rr⟩
  · exact Or.inl h2
  · exact Or.inr ⟨g, cap, cur, hv', hg, by rw [hv g (by rw [hv']; rfl)]; exact hh, rr⟩
theorem ProgS.other {w w' : World} {P : Nat} {pls : List Rt.PL} {lv : Value} {cs : List (List Value)} (h : ProgS w P pls lv cs) (hk : ∀ k, k < w.heap.size → (∀ o, w.heap[k]? = some o → (∃ c, o = .cells c 181 (0, 0)) ∨ (∃ c, o = .cells c 212 (0, 0)) → False) → w'.heap[k]? = w.heap[k]?) : ProgS w' P pls lv cs := by
  have hrow : ∀ (B : Nat) (t : TypeId) (size n : Nat) (v : Value) (xs : List Value), t ≠ 181 → t ≠ 212 → w.ownsRow B t size v n xs → w'.ownsRow B t size v n xs := by
    intro B t size n v xs t1 t2 hv
    obtain ⟨h1, h2⟩ := hv
    refine ⟨h1, ?_⟩
    rcases h2 with h2 | ⟨g, cap, cur, hv', hg, hh, rr⟩
    · exact Or.inl h2
    · refine Or.inr ⟨g, cap, cur, hv', hg, ?_, rr⟩
      rw [hk g (block_lt hh) ?_]
      · exact hh
      · intro o ho hx
        rw [hh] at ho
        simp at ho
        subst ho
        rcases hx with ⟨c, e⟩ | ⟨c, e⟩
        · simp at e; exact t1 e.2
        · simp at e; exact t2 e.2
  refine ⟨?_, hrow _ _ _ _ _ _ (by decide) (by decide) h.own, ?_⟩
  · rw [hk P (block_lt h.block) ?_]
    · exact h.block
    · intro o ho hx
      rw [h.block] at ho
      simp at ho
      subst ho
      rcases hx with ⟨c, e⟩ | ⟨c, e⟩ <;> simp at e
  · have hform : ∀ {v : Array Value} {fm : Rt.PForm}, FormV w (P + 1) v fm → FormV w' (P + 1) v fm := by
      intro v fm hf
      obtain ⟨pv, iv, vv, vs, rfl, h1, h2, h3, h4⟩ := hf
      refine ⟨pv, iv, vv, vs, rfl, hrow _ _ _ _ _ _ (by decide) (by decide) h1, hrow _ _ _ _ _ _ (by decide) (by decide) h2, hrow _ _ _ _ _ _ (by decide) (by decide) h3, ?_⟩
      exact ExprsR.map (fun x o hh => hrow _ _ _ _ _ _ (by decide) (by decide) hh) _ _ h4
    have hlines : ∀ ps cs, LinesV w (P + 1) ps cs → LinesV w' (P + 1) ps cs := by
      intro ps
      induction ps with
      | nil => intro cs h; cases cs with
        | nil => trivial
        | cons _ _ => exact h.elim
      | cons p ps ih => intro cs h; cases cs with
        | nil => exact h.elim
        | cons c cs =>
          obtain ⟨⟨tv, fv, xe, xf, e, g1, g2⟩, h2⟩ := h
          exact ⟨⟨tv, fv, xe, xf, e, hrow _ _ _ _ _ _ (by decide) (by decide) g1, hform g2⟩, ih cs h2⟩
    exact hlines _ _ h.lines
theorem placed_ten (w : World) (S : Nat) (bs : List Rt.Blk) (bv : Value) (pl : Rt.PL) (a0 a1 a2 a3 : Option Addr) (c0 c1 c2 c3 : Nat) (xe xf : Int) (h : NestS w S bs bv) (hlen : bs.length ≤ 1000) :
    Calls Tryz.prog 124 #[.pointer (some ⟨S, 0, none⟩), .agg #[.slice a0 pl.toks.length c0, .int .i64 pl.form.kind, .string pl.form.name, .int .i64 pl.form.cells, .slice a1 pl.form.params.length c1, .slice a2 pl.form.index.length c2, .slice a3 pl.form.values.length c3, .int .i64 pl.depth, .int .i64 pl.opener, .int .i64 xe, .int .i64 xf, .int .i64 pl.proc]] w fun e w' =>
      e = .returned (.agg #[.slice a0 pl.toks.length c0, .int .i64 pl.form.kind, .string pl.form.name, .int .i64 pl.form.cells, .slice a1 pl.form.params.length c1, .slice a2 pl.form.index.length c2, .slice a3 pl.form.values.length c3, .int .i64 (Rt.placed bs pl).depth, .int .i64 (Rt.placed bs pl).opener, .int .i64 xe, .int .i64 xf, .int .i64 (Rt.placed bs pl).proc]) ∧ Below w.heap.size w w' := by
  have := placed_any w S bs bv pl a0 a1 a2 a3 c0 c1 c2 c3 xe xf h hlen
  simpa [lineCells] using this
theorem ten_later {w w' : World} {g o : Nat} {v0 v1 v2 v3 v4 v5 v6 v7 v8 v9 v10 v11 : Value} (h : Ten w g o v0 v1 v2 v3 v4 v5 v6 v7 v8 v9 v10 v11) (hb : Below w.heap.size w w') : Ten w' g o v0 v1 v2 v3 v4 v5 v6 v7 v8 v9 v10 v11 := by
  obtain ⟨d0, d1, d2, d3, d4, d5, d6, d7, d8, d9, d10, d11⟩ := h
  exact ⟨cell_later hb d0, cell_later hb d1, cell_later hb d2, cell_later hb d3, cell_later hb d4, cell_later hb d5, cell_later hb d6, cell_later hb d7, cell_later hb d8, cell_later hb d9, cell_later hb d10, cell_later hb d11⟩
theorem tenF_later {w w' : World} {g o : Nat} (h : TenF w g o) (hb : Below w.heap.size w w') (hg : g < w.heap.size) : TenF w' g o := by
  obtain ⟨d0, d1, d2, d3, d4, d5, d6, d7, d8, d9, d10, d11⟩ := h
  have e : ∀ j, w'.frozen? ⟨g, j, none⟩ = w.frozen? ⟨g, j, none⟩ := fun j => hb.frozen (p := ⟨g, j, none⟩) hg
  exact ⟨by rw [e]; exact d0, by rw [e]; exact d1, by rw [e]; exact d2, by rw [e]; exact d3, by rw [e]; exact d4, by rw [e]; exact d5, by rw [e]; exact d6, by rw [e]; exact d7, by rw [e]; exact d8, by rw [e]; exact d9, by rw [e]; exact d10, by rw [e]; exact d11⟩
theorem ten_block {w : World} {L : Nat} {v0 v1 v2 v3 v4 v5 v6 v7 v8 v9 v10 v11 : Value} {t : TypeId} (h : w.heap[L]? = some (.cells #[v0, v1, v2, v3, v4, v5, v6, v7, v8, v9, v10, v11] t (0, 0))) : Ten w L 0 v0 v1 v2 v3 v4 v5 v6 v7 v8 v9 v10 v11 :=
  ⟨cell_of_block h 0 (by simp), cell_of_block h 1 (by simp), cell_of_block h 2 (by simp), cell_of_block h 3 (by simp), cell_of_block h 4 (by simp), cell_of_block h 5 (by simp), cell_of_block h 6 (by simp), cell_of_block h 7 (by simp), cell_of_block h 8 (by simp), cell_of_block h 9 (by simp), cell_of_block h 10 (by simp), cell_of_block h 11 (by simp)⟩
theorem setCell_grown (w : World) (a : Addr) (v : Value) : w.grownBy (w.setCell a v) (some a.block) := ⟨rfl, rfl, rfl, by simp [World.setCell], fun k _ h => Below.heap_setCell w a v k (fun e => h (by rw [e]))⟩
theorem grown_twice {w w1 w2 : World} {row : Option Nat} (h : w.grownBy w1 row) (k : w1.grownBy w2 row) : w.grownBy w2 row :=
  ⟨k.os.trans h.os, k.tape.trans h.tape, k.output.trans h.output, Nat.le_trans h.size k.size, fun i hi hr => (k.block i (Nat.lt_of_lt_of_le hi h.size) hr).trans (h.block i hi hr)⟩
theorem W10_grown (w : World) (g o : Nat) (v0 v1 v2 v3 v4 v5 v6 v7 v8 v9 v10 v11 : Value) : w.grownBy (W10 w g o v0 v1 v2 v3 v4 v5 v6 v7 v8 v9 v10 v11) (some g) :=
  grown_twice (grown_twice (grown_twice (grown_twice (grown_twice (grown_twice (grown_twice (grown_twice (grown_twice (grown_twice (grown_twice (setCell_grown _ _ _) (setCell_grown _ _ _)) (setCell_grown _ _ _)) (setCell_grown _ _ _)) (setCell_grown _ _ _)) (setCell_grown _ _ _)) (setCell_grown _ _ _)) (setCell_grown _ _ _)) (setCell_grown _ _ _)) (setCell_grown _ _ _)) (setCell_grown _ _ _)) (setCell_grown _ _ _)
theorem grown_join {w w1 w5 w6 : World} {row : Option Nat} {g : Nat} (h : w.grownBy w1 row) (hb : Below w1.heap.size w1 w5) (k : w5.grownBy w6 (some g)) (hr : row = some g) : w.grownBy w6 row :=
  ⟨k.os.trans (hb.os.trans h.os), k.tape.trans (hb.tape.trans h.tape), k.output.trans (hb.output.trans h.output), Nat.le_trans h.size (Nat.le_trans hb.size k.size),
    fun i hi hv => (k.block i (Nat.lt_of_lt_of_le hi (Nat.le_trans h.size hb.size)) (by rw [← hr]; exact hv)).trans ((hb.block i (Nat.lt_of_lt_of_le hi h.size)).trans (h.block i hi hv))⟩
theorem W10_cell (w : World) (g o : Nat) (v0 v1 v2 v3 v4 v5 v6 v7 v8 v9 v10 v11 : Value) (q : Nat) (hq : q < o ∨ o + 12 ≤ q) : (W10 w g o v0 v1 v2 v3 v4 v5 v6 v7 v8 v9 v10 v11).cell? ⟨g, q, none⟩ = w.cell? ⟨g, q, none⟩ :=
  (cell_off (show o + 11 ≠ q by omega)).trans ((cell_off (show o + 10 ≠ q by omega)).trans ((cell_off (show o + 9 ≠ q by omega)).trans ((cell_off (show o + 8 ≠ q by omega)).trans ((cell_off (show o + 7 ≠ q by omega)).trans ((cell_off (show o + 6 ≠ q by omega)).trans ((cell_off (show o + 5 ≠ q by omega)).trans ((cell_off (show o + 4 ≠ q by omega)).trans ((cell_off (show o + 3 ≠ q by omega)).trans ((cell_off (show o + 2 ≠ q by omega)).trans ((cell_off (show o + 1 ≠ q by omega)).trans ((cell_off (show o ≠ q by omega)).trans (rfl))))))))))))
theorem W10_nine (w : World) (g o : Nat) (v0 v1 v2 v3 v4 v5 v6 v7 v8 v9 v10 v11 u : Value) (h : w.cell? ⟨g, o + 9, none⟩ = some u) : (W10 w g o v0 v1 v2 v3 v4 v5 v6 v7 v8 v9 v10 v11).cell? ⟨g, o + 9, none⟩ = some v9 :=
  (cell_off (show o + 11 ≠ o + 9 by omega)).trans ((cell_off (show o + 10 ≠ o + 9 by omega)).trans (cell_on (u := u) ((cell_off (show o + 8 ≠ o + 9 by omega)).trans ((cell_off (show o + 7 ≠ o + 9 by omega)).trans ((cell_off (show o + 6 ≠ o + 9 by omega)).trans ((cell_off (show o + 5 ≠ o + 9 by omega)).trans ((cell_off (show o + 4 ≠ o + 9 by omega)).trans ((cell_off (show o + 3 ≠ o + 9 by omega)).trans ((cell_off (show o + 2 ≠ o + 9 by omega)).trans ((cell_off (show o + 1 ≠ o + 9 by omega)).trans ((cell_off (show o ≠ o + 9 by omega)).trans (h))))))))))))
theorem W10_ten (w : World) (g o : Nat) (v0 v1 v2 v3 v4 v5 v6 v7 v8 v9 v10 v11 u : Value) (h : w.cell? ⟨g, o + 10, none⟩ = some u) : (W10 w g o v0 v1 v2 v3 v4 v5 v6 v7 v8 v9 v10 v11).cell? ⟨g, o + 10, none⟩ = some v10 :=
  (cell_off (show o + 11 ≠ o + 10 by omega)).trans (cell_on (u := u) ((cell_off (show o + 9 ≠ o + 10 by omega)).trans ((cell_off (show o + 8 ≠ o + 10 by omega)).trans ((cell_off (show o + 7 ≠ o + 10 by omega)).trans ((cell_off (show o + 6 ≠ o + 10 by omega)).trans ((cell_off (show o + 5 ≠ o + 10 by omega)).trans ((cell_off (show o + 4 ≠ o + 10 by omega)).trans ((cell_off (show o + 3 ≠ o + 10 by omega)).trans ((cell_off (show o + 2 ≠ o + 10 by omega)).trans ((cell_off (show o + 1 ≠ o + 10 by omega)).trans ((cell_off (show o ≠ o + 10 by omega)).trans (h))))))))))))
theorem LkW.put {w : World} {g n cap k : Nat} {lk : Rt.Lks} {v0 v1 v2 v3 v4 v5 v6 v7 v8 v11 x9 x10 : Value} (h : LkW w (.slice (some ⟨g, 0, none⟩) n cap) lk) (h9 : w.cell? ⟨g, k * 12 + 9, none⟩ = some x9) (h10 : w.cell? ⟨g, k * 12 + 10, none⟩ = some x10) :
    LkW (W10 w g (k * 12) v0 v1 v2 v3 v4 v5 v6 v7 v8 x9 x10 v11) (.slice (some ⟨g, 0, none⟩) n cap) lk := by
  intro g' n' cap' e i x hx
  injection e with e _ _
  injection e with e
  injection e with e
  subst e
  obtain ⟨h1, h2⟩ := h g n cap rfl i x hx
  by_cases hik : i = k
  · subst hik
    rw [W10_nine _ _ _ _ _ _ _ _ _ _ _ _ _ _ _ _ h9, W10_ten _ _ _ _ _ _ _ _ _ _ _ _ _ _ _ _ h10]
    exact ⟨h9.symm.trans h1, h10.symm.trans h2⟩
  · rw [W10_cell _ _ _ _ _ _ _ _ _ _ _ _ _ _ _ _ (by omega), W10_cell _ _ _ _ _ _ _ _ _ _ _ _ _ _ _ _ (by omega)]
    exact ⟨h1, h2⟩
set_option maxHeartbeats 4000000 in
set_option maxRecDepth 100000 in
theorem nestBlocks_any (w : World) (P : Nat) (p0 : Rt.PL) (pls : List Rt.PL) (lv : Value) (cs : List (List Value)) (hp : ProgS w P (p0 :: pls) lv cs) (hlen : pls.length ≤ 100) (lk0 : Rt.Lks) (hlk0 : LkW w lv lk0) (hlkl : lk0.length = pls.length + 1) :
    Calls Tryz.prog 76 #[.pointer (some ⟨P, 0, none⟩)] w fun e w' => w.grownBy w' lv.ownBlock ∧
      ∃ er ls bs, Rt.nestFrom pls 1 [] [p0] = (er, ls, bs) ∧
        ((er = 0 ∧ bs = [] ∧ e = .returned (.tuple #[.int .i64 0, .int .i64 0]) ∧ (∃ cs', ProgS w' P ls lv cs') ∧ LkW w' lv (Rt.nestLk (pls.length + 1) pls 1 [] lk0)) ∨
         (er = 0 ∧ ¬ bs = [] ∧ e = .returned (.tuple #[.int .i64 3, .int .i64 pls.length])) ∨
         (¬ er = 0 ∧ e = .returned (.tuple #[.int .i64 3, .int .i64 er]))) := by
  have hPlt := block_lt hp.block
  have hS : (w.alloc (.cells #[noOps] 181)).heap[w.heap.size]? = some (.cells #[noOps] 181 (0, 0)) := heap_alloc_new w _
  have hbA := (Below.refl w.heap.size w).alloc (Nat.le_refl _) (.cells #[noOps] 181)
  have hpA := hp.later hbA
  have hgA : w.grownBy (w.alloc (.cells #[noOps] 181)) lv.ownBlock := ⟨rfl, rfl, rfl, by simp, fun k hk _ => Below.heap_alloc _ _ _ hk⟩
  have hnA : NestS (w.alloc (.cells #[noOps] 181)) w.heap.size [] noOps := ⟨hS, World.ownsRow_nil _ _ _ _⟩
  obtain ⟨ad, cap, hlv⟩ := ownsRow_form hp.own
  have HLV := hide hlv
  have hlkA := hlk0.later hp.own hbA
  clear hp hS hbA hlv hlk0
  go_enter Tryz.func76, Tryz.ntmps76
  go_wp2_with fail
  go_loopw [5, 6] (fun i _ wr => ∃ (k : Nat) (acc rem : List Rt.PL) (bs : List Rt.Blk) (bv : Value) (cs : List (List Value)), i = .int .i64 k ∧ acc.length = k ∧ k + rem.length = pls.length + 1 ∧ 1 ≤ k ∧ bs.length ≤ k ∧ Rt.nestFrom rem k bs acc = Rt.nestFrom pls 1 [] [p0] ∧
      ProgS wr P (acc ++ rem) lv cs ∧ (∃ lk, lk.length = pls.length + 1 ∧ LkW wr lv lk ∧ Rt.nestLk (pls.length + 1) rem k bs lk = Rt.nestLk (pls.length + 1) pls 1 [] lk0) ∧ NestS wr w.heap.size bs bv ∧ w.grownBy wr lv.ownBlock)
    (fun i _ _ => pls.length + 1 - (intOf i).toNat)
  case atStart => exact ⟨1, [p0], pls, [], noOps, cs, rfl, rfl, by omega, Nat.le_refl _, by simp, rfl, hpA, ⟨lk0, hlkl, hlkA, rfl⟩, hnA, hgA⟩
  case round =>
    clear hpA hnA hgA hlkA hlkl
    obtain ⟨k, acc, rem, bs, bv, cs2, rfl, hacc, hrem, hk1, hbs, hT, hpr, hlkx, hns, hgr⟩ := hrel
    have HLK := hide hlkx
    clear hlkx
    have HT := hide hT
    have HA := hide hacc
    clear hT hacc
    have hszr := hgr.size
    have hSlt := block_lt hns.block
    have hPltr := block_lt hpr.block
    have cP := cell_of_block hpr.block 0 (by simp)
    simp at cP
    rw [unhide HLV] at cP
    simp only [List.length_cons] at cP
    have cS := cell_of_block hns.block 0 (by simp)
    simp at cS
    obtain ⟨adb, capb, hbv⟩ := ownsRow_form hns.own
    rw [hbv] at cS
    have HBV := hide hbv
    clear hbv
    cases rem with
    | nil =>
      have hkk : k = pls.length + 1 := by simpa using hrem
      have hlt : ¬ (k : Int) < (pls.length : Int) + 1 := by omega
      have HE : Hid (Rt.nestFrom pls 1 [] [p0] = (0, acc, bs)) := hide (by rw [← unhide HT, Rt.nestFrom])
      have HP := hide hpr
      have HG := hide hgr
      clear hpr hns hgr hrem HT
      rw [List.append_nil] at HP
      by_cases hb : bs = []
      · have hl0 : bs.length = 0 := by rw [hb]; rfl
        rw [hl0] at cS
        clear hl0
        go_wp2_with fail
        go_ret2
        exact ⟨unhide HG, _, _, _, unhide HE, Or.inl ⟨rfl, hb, rfl, ⟨_, unhide HP⟩, by obtain ⟨lk, _, hl1, hl2⟩ := unhide HLK; rw [← hl2, Rt.nestLk]; exact hl1⟩⟩
      · have hl0 : (0 : Int) < (bs.length : Int) := by
          have := List.length_pos_iff.2 hb
          omega
        have hw := wrapm1 pls.length (by omega)
        have hw0 := wrapm0 pls.length (by omega)
        generalize bs.length = bl at *
        go_wp2_with fail
        go_quiet (fail)
        go_wp2_with fail
        go_ret2
        refine ⟨⟨(unhide HG).os, (unhide HG).tape, (unhide HG).output, (unhide HG).size, (unhide HG).block⟩, _, _, _, unhide HE, Or.inr (Or.inl ⟨rfl, hb, ?_⟩)⟩
        simp
    | cons p r =>
      have hrem' : k + r.length = pls.length := by simp at hrem; omega
      have hlt : (k : Int) < (pls.length : Int) + 1 := by omega
      have hlen' := unhide HA
      obtain ⟨g, cap', a0, a1, a2, a3, e0, e1, e2, e3, xe, xf, hlv, hPg, hglt, ⟨d0, d1, d2, d3, d4, d5, d6, d7, d8, d9, d10, d11⟩, ⟨z0, z1, z2, z3, z4, z5, z6, z7, z8, z9, z10, z11⟩, htk, hfm⟩ := hpr.get
      have hlv2 := (unhide HLV).symm.trans hlv
      have hlnn : (acc ++ p :: r).length = pls.length + 1 := by simp; omega
      rw [hlnn] at hlv hlv2
      simp at hlv2
      obtain ⟨rfl, rfl⟩ := hlv2
      rw [hlen'] at d0 d1 d2 d3 d4 d5 d6 d7 d8 d9 d10 d11 z0 z1 z2 z3 z4 z5 z6 z7 z8 z9 z10 z11
      have hk0 : (0 : Int) ≤ (k : Int) := by omega
      have hbs' : bs.length ≤ 1000 := by omega
      -- what lies behind the new variable of the line
      have hbL := (Below.refl wr.heap.size wr).alloc (Nat.le_refl _) (.cells #[.slice a0 p.toks.length e0, .int .i64 p.form.kind, .string p.form.name, .int .i64 p.form.cells, .slice a1 p.form.params.length e1, .slice a2 p.form.index.length e2, .slice a3 p.form.values.length e3, .int .i64 p.depth, .int .i64 p.opener, .int .i64 xe, .int .i64 xf, .int .i64 p.proc] 145)
      have hnsL := hns.later hbL
      have hgS : ¬ g = w.heap.size := by
        intro e
        have h1 := hns.block
        rw [← e] at h1
        have h2 := hpr.own
        rw [hlv] at h2
        rcases h2.2 with ⟨h', _⟩ | ⟨g', _, cur, h', _, hh, _⟩
        · cases h'
        · simp at h'
          rw [← h'.1] at hh
          rw [h1] at hh
          simp at hh
      go_wp2_with fail
      refine (admits_any _ _ _ _ _ hnsL hbs').mono ?_
      rintro e w1 ⟨rfl, hb1⟩
      cases had : Rt.adm bs p.form.kind with
      | false =>
        have HE : Hid (Rt.nestFrom pls 1 [] [p0] = (k, acc ++ p :: r, bs)) := hide (by rw [← unhide HT, Rt.nestFrom, if_neg (by rw [had]; simp)])
        have HG : Hid (w.grownBy w1 lv.ownBlock) := by
          refine hide ?_
          have hb2 := hbL.trans (hb1.mono (B' := wr.heap.size) (by simp))
          exact ⟨hb2.os.trans hgr.os, hb2.tape.trans hgr.tape, hb2.output.trans hgr.output, Nat.le_trans hgr.size hb2.size, fun x hx hv => (hb2.block x (by omega)).trans (hgr.block x hx hv)⟩
        clear hpr hns hgr hnsL hbL hb1 htk hfm HT had
        go_wp2_with fail
        go_ret2
        exact ⟨unhide HG, _, _, _, unhide HE, Or.inr (Or.inr ⟨by omega, rfl⟩)⟩
      | true =>
        have HE : Hid (Rt.nestFrom r (k + 1) (Rt.passed bs k p.form.kind) (acc ++ [Rt.placed bs p]) = Rt.nestFrom pls 1 [] [p0]) := hide (by rw [← unhide HT, Rt.nestFrom, if_pos had])
        have HAD := hide had
        clear had HT
        have hbW := hbL.trans (hb1.mono (B' := wr.heap.size) (by simp))
        have hns1 := hns.later hbW
        have hpr1 := hpr.later hbW
        have HOWN := hpr.own
        have htk1 := own_later htk hbW
        have hfm1 := (keeps_later (B := P + 1) hbW).form hfm
        have hL1 := block_later (heap_alloc_new wr (.cells #[.slice a0 p.toks.length e0, .int .i64 p.form.kind, .string p.form.name, .int .i64 p.form.cells, .slice a1 p.form.params.length e1, .slice a2 p.form.index.length e2, .slice a3 p.form.values.length e3, .int .i64 p.depth, .int .i64 p.opener, .int .i64 xe, .int .i64 xf, .int .i64 p.proc] 145)) hb1
        have hgr1 : w.grownBy w1 lv.ownBlock := ⟨hbW.os.trans hgr.os, hbW.tape.trans hgr.tape, hbW.output.trans hgr.output, Nat.le_trans hgr.size hbW.size, fun x hx hv => (hbW.block x (by omega)).trans (hgr.block x hx hv)⟩
        have TD := hide (ten_later ⟨d0, d1, d2, d3, d4, d5, d6, d7, d8, d9, d10, d11⟩ hbW)
        have TZ := hide (tenF_later ⟨z0, z1, z2, z3, z4, z5, z6, z7, z8, z9, z10, z11⟩ hbW hglt)
        have cP1 := cell_later hbW cP
        have hsz1 := hbW.size
        have hg1 : g < w1.heap.size := by omega
        have hP1 : P < w1.heap.size := by omega
        have hL1lt := block_lt hL1
        have hgL : ¬ g = wr.heap.size := by omega
        have hPL : ¬ P = wr.heap.size := by omega
        have hPg' : ¬ P = g := by omega
        obtain ⟨l0, l1, l2, l3, l4, l5, l6, l7, l8, l9, l10, l11⟩ := ten_block hL1
        have TL := hide (ten_block hL1)
        clear d0 d1 d2 d3 d4 d5 d6 d7 d8 d9 d10 d11 z0 z1 z2 z3 z4 z5 z6 z7 z8 z9 z10 z11 cP cS hns hpr htk hfm hgr hbL hnsL hb1
        have HLK1 : Hid (∃ lk, lk.length = pls.length + 1 ∧ LkW w1 lv lk ∧ Rt.nestLk (pls.length + 1) (p :: r) k bs lk = Rt.nestLk (pls.length + 1) pls 1 [] lk0) := by
          obtain ⟨lk, hl0, hl1, hl2⟩ := unhide HLK
          exact hide ⟨lk, hl0, hl1.later HOWN hbW, hl2⟩
        clear HOWN HLK
        have HX := hide (And.intro hpr1 (And.intro htk1 (And.intro hfm1 hgr1)))
        clear hpr1 htk1 hfm1 hgr1 hbW
        go_wp2_with fail
        go_region_with
          ((go_at_call 124; refine (placed_ten _ _ bs bv p a0 a1 a2 a3 e0 e1 e2 e3 xe xf (by exact hns1.later (below_to_drew _)) hbs').mono ?_; rintro e w5 ⟨rfl, hb5⟩; have cP5 := cell_later (below_of_drew hb5) cP1; obtain ⟨d0, d1, d2, d3, d4, d5, d6, d7, d8, d9, d10, d11⟩ := ten_later (unhide TD) (below_of_drew hb5); obtain ⟨z0, z1, z2, z3, z4, z5, z6, z7, z8, z9, z10, z11⟩ := tenF_later (unhide TZ) (below_of_drew hb5) hg1; obtain ⟨m0, m1, m2, m3, m4, m5, m6, m7, m8, m9, m10, m11⟩ := ten_later (unhide TL) (below_of_drew hb5)))
        all_goals
          obtain ⟨hpr1, htk1, hfm1, hgr1⟩ := unhide HX
          have hb5' := below_of_drew hb5
          have hns5 := hns1.later hb5'
          have hpr5 := hpr1.later hb5'
          have htk5 := own_later htk1 hb5'
          have hfm5 := (keeps_later (B := P + 1) hb5').form hfm1
          obtain ⟨hsT, hsF⟩ := Rt.placed_same bs p
          have hput := ProgS.put (p' := Rt.placed bs p) (n := pls.length + 1) (g := g) (cap := cap) (by rw [← hlv]; exact hpr5) hlnn.symm a0 a1 a2 a3 e0 e1 e2 e3 xe xf (by rw [hsT]; exact htk5) (by rw [hsF]; exact hfm5)
          rw [hsT, hsF, hlen'] at hput
          have hother := W10_other w5 g (k * 12) (.slice a0 p.toks.length e0) (.int .i64 p.form.kind) (.string p.form.name) (.int .i64 p.form.cells) (.slice a1 p.form.params.length e1) (.slice a2 p.form.index.length e2) (.slice a3 p.form.values.length e3) (.int .i64 (Rt.placed bs p).depth) (.int .i64 (Rt.placed bs p).opener) (.int .i64 xe) (.int .i64 xf) (.int .i64 (Rt.placed bs p).proc)
          have hsize := W10_size w5 g (k * 12) (.slice a0 p.toks.length e0) (.int .i64 p.form.kind) (.string p.form.name) (.int .i64 p.form.cells) (.slice a1 p.form.params.length e1) (.slice a2 p.form.index.length e2) (.slice a3 p.form.values.length e3) (.int .i64 (Rt.placed bs p).depth) (.int .i64 (Rt.placed bs p).opener) (.int .i64 xe) (.int .i64 xf) (.int .i64 (Rt.placed bs p).proc)
          have hns6 := hns5.other (hother w.heap.size (fun e => hgS e.symm)) (fun x hx => hother x (fun e => own_ne hns5.own hpr5.own (by decide) x hx (by rw [hlv, e]; rfl)))
          have hgr6 := grown_join hgr1 hb5' (W10_grown w5 g (k * 12) (.slice a0 p.toks.length e0) (.int .i64 p.form.kind) (.string p.form.name) (.int .i64 p.form.cells) (.slice a1 p.form.params.length e1) (.slice a2 p.form.index.length e2) (.slice a3 p.form.values.length e3) (.int .i64 (Rt.placed bs p).depth) (.int .i64 (Rt.placed bs p).opener) (.int .i64 xe) (.int .i64 xf) (.int .i64 (Rt.placed bs p).proc)) (show lv.ownBlock = some g by rw [hlv]; rfl)
          rw [← hlv] at hput
          obtain ⟨cs6, hpr6⟩ := hput
          have HLK6 : Hid (∃ lk, lk.length = pls.length + 1 ∧ LkW (W10 w5 g (k * 12) (.slice a0 p.toks.length e0) (.int .i64 p.form.kind) (.string p.form.name) (.int .i64 p.form.cells) (.slice a1 p.form.params.length e1) (.slice a2 p.form.index.length e2) (.slice a3 p.form.values.length e3) (.int .i64 (Rt.placed bs p).depth) (.int .i64 (Rt.placed bs p).opener) (.int .i64 xe) (.int .i64 xf) (.int .i64 (Rt.placed bs p).proc)) lv lk ∧ Rt.nestLk (pls.length + 1) (p :: r) k bs lk = Rt.nestLk (pls.length + 1) pls 1 [] lk0) := by
            obtain ⟨lk, hl0, hl1, hl2⟩ := unhide HLK1
            refine hide ⟨lk, hl0, ?_, hl2⟩
            have hl5 := hl1.later hpr1.own hb5'
            rw [hlv] at hl5 ⊢
            exact LkW.put hl5 d9 d10
          have HPR6 := hide hpr6
          have HGR6 := hide hgr6
          have HNS6 := hide hns6
          have hneS : ¬ some w.heap.size = lv.ownBlock := fun e => by rw [hlv] at e; simp [Value.ownBlock] at e; exact hgS e.symm
          have hneR : ∀ x, bv.ownBlock = some x → ¬ some x = lv.ownBlock := fun x hx e => own_ne hns5.own hpr5.own (by decide) x hx e.symm
          have hneL : ¬ some wr.heap.size = lv.ownBlock := fun e => by rw [hlv] at e; simp [Value.ownBlock] at e; exact hgL e.symm
          have hWL := hother wr.heap.size (fun e => hgL e.symm)
          have hszL : wr.heap.size < (W10 w5 g (k * 12) (.slice a0 p.toks.length e0) (.int .i64 p.form.kind) (.string p.form.name) (.int .i64 p.form.cells) (.slice a1 p.form.params.length e1) (.slice a2 p.form.index.length e2) (.slice a3 p.form.values.length e3) (.int .i64 (Rt.placed bs p).depth) (.int .i64 (Rt.placed bs p).opener) (.int .i64 xe) (.int .i64 xf) (.int .i64 (Rt.placed bs p).proc)).heap.size := by rw [hsize]; have := hb5'.size; omega
          have HML := hide (And.intro hneL (And.intro hWL (And.intro hszL m1)))
          have HNe := hide (And.intro hneS hneR)
          clear hneL hWL hszL
          clear hpr6 hgr6 hns6 hpr1 htk1 hfm1 hgr1 hpr5 htk5 hfm5 hns5 hother hsize hb5' HX TD TZ TL hns1 hneS hneR
          go_wp2_with fail
          refine (link_any _ P _ lv cs6 k (unhide HPR6)).mono ?_
          rintro e w6 ⟨rfl, hex6, hg6, hlk6⟩
          have HLK7 := hide (show ∃ lk, lk.length = pls.length + 1 ∧ LkW w6 lv lk ∧ Rt.nestLk (pls.length + 1) r (k + 1) (Rt.passed bs k p.form.kind) lk = Rt.nestLk (pls.length + 1) pls 1 [] lk0 from by
            obtain ⟨lk, hl0, hl1, hl2⟩ := unhide HLK6
            have hl3 := hlk6 lk hl1
            have e1 : Rt.lineAtP (acc ++ Rt.placed bs p :: r) (k : Int) = Rt.placed bs p := by
              rw [← unhide HA, Rt.lineAtP_in (by simp)]
              simp
            have e2 : (acc ++ Rt.placed bs p :: r).length = pls.length + 1 := by rw [← hlnn]; simp
            rw [e1, e2] at hl3
            refine ⟨_, by rw [Rt.lkStep_len]; exact hl0, hl3, ?_⟩
            rw [← hl2, Rt.nestLk, if_pos (unhide HAD)])
          clear hlk6 HLK6
          have hns6 : NestS w6 w.heap.size bs bv := (unhide HNS6).other (hg6.block _ (block_lt (unhide HNS6).block) (unhide HNe).1) (fun x hx => hg6.block x ((unhide HNS6).own.lt x hx).2 ((unhide HNe).2 x hx))
          have cL6 : w6.cell? ⟨wr.heap.size, 1, none⟩ = some (.int .i64 p.form.kind) := by
            obtain ⟨u1, u2, u3, u4⟩ := unhide HML
            rw [World.cell?_of_block (a := ⟨wr.heap.size, 1, none⟩) ((hg6.block wr.heap.size u3 u1).trans u2)]
            exact u4
          have HPUT := hide hex6
          have HGR7 := hide (grown_twice (unhide HGR6) hg6)
          clear hex6 hg6 HPR6 HNS6 HNe HGR6
          go_wp2_with fail
          refine (pass_any _ _ _ _ _ _ hns6 hbs').mono ?_
          rintro e w7 ⟨rfl, bv7, hns7, hfr7⟩
          obtain ⟨cs7, hpr7⟩ := unhide HPUT
          have hgr7 := unhide HGR7
          have hpl7 := Rt.passed_len bs k p.form.kind
          have hpr8 : ProgS w7 P (acc ++ Rt.placed bs p :: r) lv cs7 := by
            refine hpr7.other (fun x hx hno => hfr7.block x hx ?_ ?_)
            · intro e
              subst e
              exact hno _ hns6.block (Or.inl ⟨_, rfl⟩)
            · intro e
              rcases hns6.own.2 with ⟨h', _⟩ | ⟨g', _, cur, h', _, hh, _⟩
              · rw [h'] at e; cases e
              · rw [h'] at e
                simp [Value.ownBlock] at e
                subst e
                exact hno _ hh (Or.inr ⟨_, rfl⟩)
          have hgr8 : w.grownBy w7 lv.ownBlock := ⟨hfr7.os.trans hgr7.os, hfr7.tape.trans hgr7.tape, hfr7.output.trans hgr7.output, Nat.le_trans hgr7.size hfr7.size, fun x hx hv => (hfr7.block x (Nat.lt_of_lt_of_le hx hgr7.size) (by omega) (fun e => by have := (hns6.own.lt x e.symm).1; omega)).trans (hgr7.block x hx hv)⟩
          have HLK8 : Hid (∃ lk, lk.length = pls.length + 1 ∧ LkW w7 lv lk ∧ Rt.nestLk (pls.length + 1) r (k + 1) (Rt.passed bs k p.form.kind) lk = Rt.nestLk (pls.length + 1) pls 1 [] lk0) := by
            obtain ⟨lk, hl0, hl1, hl2⟩ := unhide HLK7
            refine hide ⟨lk, hl0, hl1.same (fun x hx => hfr7.block x ((hpr7.own.lt x hx).2) ?_ ?_), hl2⟩
            · intro e
              subst e
              rcases hpr7.own.2 with ⟨h', _⟩ | ⟨g', _, cur, h', _, hh, _⟩
              · rw [h'] at hx; cases hx
              · rw [h'] at hx
                simp [Value.ownBlock] at hx
                rw [hx, hns6.block] at hh
                simp at hh
            · intro e
              exact own_ne hpr7.own hns6.own (by decide) x hx e.symm
          have HF := hide (And.intro hpr8 (And.intro hns7 hgr8))
          clear hpr8 hns7 hgr8 hfr7 hpr7 hgr7 hns6 HPUT HGR7
          go_wp2_with fail
          go_roundw
          case rel =>
            obtain ⟨q1, q2, q3⟩ := unhide HF
            exact ⟨k + 1, acc ++ [Rt.placed bs p], r, _, bv7, cs7, by go_num, by simp; exact unhide HA, by omega, by omega, by omega, unhide HE, by simpa using q1, unhide HLK8, q2, q3⟩
          case measure => simp [intOf]; omega
end Go.Proofs.YthleadfkfnnadaaGreat
