/- A row of bytes of the call's own, to which texts are put: append(bytes, s...), string(bytes). -/
import Derived.Test.YtbpajiljfppjcaaGreatDoorRtMach
import Derived.Test.YtbpajiljfppjcaaGreatDoorPlainb
import Derived.Deep.AppendSrc
import Derived.Laws.IdiomStrings
namespace Go.Proofs.YtbpajiljfppjcaaGreatDoor
open Go.RowKit

structure ProgR (w : World) (P B : Nat) (pls : List Rt.PL) (lv : Value) (cs : List (List Value)) : Prop where
  block : w.heap[P]? = some (.cells #[lv] 73 (0, 0))
  own : w.ownsRow B 122 12 lv pls.length cs.flatten
  lines : LinesV w B pls cs
theorem ProgR.later {w w' : World} {P B : Nat} {pls : List Rt.PL} {lv : Value} {cs : List (List Value)} (h : ProgR w P B pls lv cs) (hb : Below w.heap.size w w') : ProgR w' P B pls lv cs :=
  ⟨block_later h.block hb, own_later h.own hb, (keeps_later hb).lines _ _ h.lines⟩

/-- A line of the program, read. -/
theorem ProgR.get {w : World} {P B : Nat} {acc : List Rt.PL} {p : Rt.PL} {r : List Rt.PL} {lv : Value} {cs : List (List Value)} (h : ProgR w P B (acc ++ p :: r) lv cs) :
    ∃ g cap a0 a1 a2 a3 c0 c1 c2 c3 xe xf, lv = .slice (some ⟨g, 0, none⟩) (acc ++ p :: r).length cap ∧ g < w.heap.size ∧
      Ten w g (acc.length * 12) (.slice a0 p.toks.length c0) (.int .i64 p.form.kind) (.string p.form.name) (.int .i64 p.form.cells) (.slice a1 p.form.params.length c1) (.slice a2 p.form.index.length c2) (.slice a3 p.form.values.length c3) (.int .i64 p.depth) (.int .i64 p.opener) (.int .i64 xe) (.int .i64 xf) (.int .i64 p.proc) ∧ TenF w g (acc.length * 12) ∧
      w.ownsRow B 154 2 (.slice a0 p.toks.length c0) p.toks.length (Rt.toksCells p.toks) ∧
      FormV w B #[.int .i64 p.form.kind, .string p.form.name, .int .i64 p.form.cells, .slice a1 p.form.params.length c1, .slice a2 p.form.index.length c2, .slice a3 p.form.values.length c3] p.form := by
  obtain ⟨c1, c, c2, hcs, hl, _, hc, _⟩ := h.lines.part
  obtain ⟨tv, fv, xe, xf, hcc, ht, hf⟩ := hc
  have hf2 := hf
  obtain ⟨pv, iv, vv, vs, hfv, b1, b2, b3, _⟩ := hf
  obtain ⟨a0, k0, rfl⟩ := ownsRow_form ht
  obtain ⟨a1, k1, rfl⟩ := ownsRow_form b1
  obtain ⟨a2, k2, rfl⟩ := ownsRow_form b2
  obtain ⟨a3, k3, rfl⟩ := ownsRow_form b3
  subst hfv
  have hget : ∀ j u, c[j]? = some u → cs.flatten[acc.length * 12 + j]? = some u := by
    intro j u hj
    rw [hcs, List.flatten_append, List.getElem?_append_right (by omega), hl, Nat.add_sub_cancel_left, List.flatten_cons, List.getElem?_append_left (List.getElem?_eq_some_iff.1 hj).1]
    exact hj
  have hown := h.own
  obtain ⟨g, cap, hlv, hg, hglt, _⟩ := own_cell hown (hget 0 _ (by rw [hcc]; rfl))
  have hcell : ∀ j u, c[j]? = some u → w.cell? ⟨g, acc.length * 12 + j, none⟩ = some u := by
    intro j u hj
    obtain ⟨g', cap', hlv', _, _, hc'⟩ := own_cell hown (hget j u hj)
    rw [hlv] at hlv'
    simp at hlv'
    rw [hlv'.1]
    exact hc'
  have hfz : ∀ j, w.frozen? ⟨g, j, none⟩ = false := by
    intro j
    rw [hlv] at hown
    exact hown.frozenAt j
  refine ⟨g, cap, a0, a1, a2, a3, k0, k1, k2, k3, xe, xf, hlv, hglt, ⟨?_, ?_, ?_, ?_, ?_, ?_, ?_, ?_, ?_, ?_, ?_, ?_⟩, ⟨hfz _, hfz _, hfz _, hfz _, hfz _, hfz _, hfz _, hfz _, hfz _, hfz _, hfz _, hfz _⟩, ht, hf2⟩
  · exact hcell 0 _ (by rw [hcc]; rfl)
  · exact hcell 1 _ (by rw [hcc]; rfl)
  · exact hcell 2 _ (by rw [hcc]; rfl)
  · exact hcell 3 _ (by rw [hcc]; rfl)
  · exact hcell 4 _ (by rw [hcc]; rfl)
  · exact hcell 5 _ (by rw [hcc]; rfl)
  · exact hcell 6 _ (by rw [hcc]; rfl)
  · exact hcell 7 _ (by rw [hcc]; rfl)
  · exact hcell 8 _ (by rw [hcc]; rfl)
  · exact hcell 9 _ (by rw [hcc]; rfl)
  · exact hcell 10 _ (by rw [hcc]; rfl)
  · exact hcell 11 _ (by rw [hcc]; rfl)

/-- A line of the program, read at its number. -/
theorem ProgR.at {w : World} {P B : Nat} {pls : List Rt.PL} {lv : Value} {cs : List (List Value)} (h : ProgR w P B pls lv cs) {i : Nat} (hi : i < pls.length) :
    ∃ g cap a0 a1 a2 a3 c0 c1 c2 c3 xe xf, lv = .slice (some ⟨g, 0, none⟩) pls.length cap ∧ g < w.heap.size ∧
      Ten w g (i * 12) (.slice a0 pls[i].toks.length c0) (.int .i64 pls[i].form.kind) (.string pls[i].form.name) (.int .i64 pls[i].form.cells) (.slice a1 pls[i].form.params.length c1) (.slice a2 pls[i].form.index.length c2) (.slice a3 pls[i].form.values.length c3) (.int .i64 pls[i].depth) (.int .i64 pls[i].opener) (.int .i64 xe) (.int .i64 xf) (.int .i64 pls[i].proc) ∧
      w.ownsRow B 154 2 (.slice a0 pls[i].toks.length c0) pls[i].toks.length (Rt.toksCells pls[i].toks) ∧
      FormV w B #[.int .i64 pls[i].form.kind, .string pls[i].form.name, .int .i64 pls[i].form.cells, .slice a1 pls[i].form.params.length c1, .slice a2 pls[i].form.index.length c2, .slice a3 pls[i].form.values.length c3] pls[i].form := by
  have hs := split_at hi
  have hl : (pls.take i).length = i := by simp; omega
  have h2 := h
  rw [hs] at h2
  obtain ⟨g, cap, a0, a1, a2, a3, c0, c1, c2, c3, xe, xf, hlv, h4, h5, _, h6, h7⟩ := h2.get
  rw [← hs] at hlv
  rw [hl] at h5
  exact ⟨g, cap, a0, a1, a2, a3, c0, c1, c2, c3, xe, xf, hlv, h4, h5, h6, h7⟩

theorem ProgR.lvForm {w : World} {P B : Nat} {pls : List Rt.PL} {lv : Value} {cs : List (List Value)} (h : ProgR w P B pls lv cs) : ∃ ad cap, lv = .slice ad pls.length cap ∧ w.cell? ⟨P, 0, none⟩ = some (.slice ad pls.length cap) := by
  obtain ⟨ad, cap, rfl⟩ := ownsRow_form h.own
  exact ⟨ad, cap, rfl, cell_of_block h.block 0 (by simp)⟩

/-- A function that hands back a line. -/
def PLinePR (B : Nat) (pl : Rt.PL) (w : World) (e : Ending) (w' : World) : Prop := ∃ a0 a1 a2 a3 c0 c1 c2 c3 xe xf, e = .returned (.agg #[.slice a0 pl.toks.length c0, .int .i64 pl.form.kind, .string pl.form.name, .int .i64 pl.form.cells, .slice a1 pl.form.params.length c1, .slice a2 pl.form.index.length c2, .slice a3 pl.form.values.length c3, .int .i64 pl.depth, .int .i64 pl.opener, .int .i64 xe, .int .i64 xf, .int .i64 pl.proc]) ∧ w'.ownsRow B 154 2 (.slice a0 pl.toks.length c0) pl.toks.length (Rt.toksCells pl.toks) ∧ FormV w' B #[.int .i64 pl.form.kind, .string pl.form.name, .int .i64 pl.form.cells, .slice a1 pl.form.params.length c1, .slice a2 pl.form.index.length c2, .slice a3 pl.form.values.length c3] pl.form ∧ Below w.heap.size w w'

theorem linepr_zero {B : Nat} {w w' : World} (hb : Below w.heap.size w w') : PLinePR B Rt.zPL w (.returned (.agg #[.slice none 0 0, .int .i64 0, .string ⟨#[]⟩, .int .i64 0, .slice none 0 0, .slice none 0 0, .slice none 0 0, .int .i64 0, .int .i64 0, .int .i64 0, .int .i64 0, .int .i64 0])) w' :=
  ⟨none, none, none, none, 0, 0, 0, 0, 0, 0, rfl, World.ownsRow_nil _ _ _ _, FormV_plain _ _ _ _ _, hb⟩

set_option maxHeartbeats 1000000 in
set_option maxRecDepth 100000 in
theorem Line_r (w : World) (P B : Nat) (pls : List Rt.PL) (lv : Value) (cs : List (List Value)) (n : Int) (h : ProgR w P B pls lv cs) :
    Calls Tryz.prog 68 #[.pointer (some ⟨P, 0, none⟩), .int .i64 n] w (PLinePR B (Rt.lineAtP pls n) w) := by
  obtain ⟨ad, cap, hlv, cP⟩ := h.lvForm
  have hPlt := block_lt h.block
  by_cases h0 : n < 0
  · have HE := hide (Rt.lineAtP_out (pls := pls) (Or.inl h0))
    clear h
    go_enter Tryz.func68, Tryz.ntmps68
    go_wp2_with fail
    refine bodyPost_ret (v := .agg #[.slice none 0 0, .int .i64 0, .string ⟨#[]⟩, .int .i64 0, .slice none 0 0, .slice none 0 0, .slice none 0 0, .int .i64 0, .int .i64 0, .int .i64 0, .int .i64 0, .int .i64 0]) ?_ rfl (by rw [unhide HE]; exact linepr_zero ((Below.refl _ _).alloc (Nat.le_refl _) _))
    simp [results, Tryz.results68, go_sem]
  by_cases h1 : (pls.length : Int) ≤ n
  · have HE := hide (Rt.lineAtP_out (pls := pls) (Or.inr h1))
    clear h
    go_enter Tryz.func68, Tryz.ntmps68
    go_wp2_with fail
    refine bodyPost_ret (v := .agg #[.slice none 0 0, .int .i64 0, .string ⟨#[]⟩, .int .i64 0, .slice none 0 0, .slice none 0 0, .slice none 0 0, .int .i64 0, .int .i64 0, .int .i64 0, .int .i64 0, .int .i64 0]) ?_ rfl (by rw [unhide HE]; exact linepr_zero ((Below.refl _ _).alloc (Nat.le_refl _) _))
    simp [results, Tryz.results68, go_sem]
  obtain ⟨k, rfl⟩ := Int.eq_ofNat_of_zero_le (show 0 ≤ n by omega)
  have hlt : k < pls.length := by omega
  obtain ⟨g, cap', a0, a1, a2, a3, e0, e1, e2, e3, xe, xf, hlv', hglt, ⟨d0, d1, d2, d3, d4, d5, d6, d7, d8, d9, d10, d11⟩, htk, hfv⟩ := h.at hlt
  have hlv2 := hlv.symm.trans hlv'
  simp at hlv2
  obtain ⟨rfl, rfl⟩ := hlv2
  have HE := hide (Rt.lineAtP_in hlt)
  have HF := hide (And.intro htk hfv)
  clear h hfv htk hlv hlv'
  generalize pls[k] = pl at *
  go_enter Tryz.func68, Tryz.ntmps68
  go_wp2_with fail
  refine bodyPost_ret (v := .agg #[.slice a0 pl.toks.length e0, .int .i64 pl.form.kind, .string pl.form.name, .int .i64 pl.form.cells, .slice a1 pl.form.params.length e1, .slice a2 pl.form.index.length e2, .slice a3 pl.form.values.length e3, .int .i64 pl.depth, .int .i64 pl.opener, .int .i64 xe, .int .i64 xf, .int .i64 pl.proc]) ?_ rfl (by rw [unhide HE]; exact ⟨a0, a1, a2, a3, e0, e1, e2, e3, xe, xf, rfl, own_later (unhide HF).1 ((Below.refl _ _).alloc (Nat.le_refl _) _), (keeps_later (B := B) ((Below.refl _ _).alloc (Nat.le_refl _) _)).form (unhide HF).2, (Below.refl _ _).alloc (Nat.le_refl _) _⟩)
  simp [results, Tryz.results68, go_sem]

/-- The program stays while a row of ints grows. -/
theorem prog_grownr {w w1 : World} {o : Obj} {P B : Nat} {pls : List Rt.PL} {lv : Value} {cs : List (List Value)} {row : Option Nat} {t : TypeId} (h : ProgR w P B pls lv cs) (hg : (w.alloc o).grownBy w1 row) (hrow : ∀ x, row = some x → ∃ c, w.heap[x]? = some (.cells c t (0, 0)))
    (ht : t ≠ 73 ∧ t ≠ 122 ∧ t ≠ 154 ∧ t ≠ 9 ∧ t ≠ 200 ∧ t ≠ 117) : ProgR w1 P B pls lv cs := by
  obtain ⟨t1, t2, t3, t4, t5, t6⟩ := ht
  have hblk : ∀ (k : Nat) (x : Obj), w.heap[k]? = some x → (∀ c, x ≠ .cells c t (0, 0)) → w1.heap[k]? = some x := by
    intro k x hk hx
    refine grown_keep hg hk (fun e => ?_)
    obtain ⟨c, hc⟩ := hrow k e
    rw [hk] at hc
    simp at hc
    exact hx c hc
  have hr : ∀ (B : Nat) (t' : TypeId) (size n : Nat) (v : Value) (xs : List Value), t' ≠ t → w.ownsRow B t' size v n xs → w1.ownsRow B t' size v n xs := by
    intro B t' size n v xs hne hv
    obtain ⟨h1, h2⟩ := hv
    refine ⟨h1, ?_⟩
    rcases h2 with h2 | ⟨g, cap, cur, hv', hg', hh, rr⟩
    · exact Or.inl h2
    · exact Or.inr ⟨g, cap, cur, hv', hg', hblk g _ hh (fun c e => by simp at e; exact hne e.2), rr⟩
  have hform : ∀ {v : Array Value} {fm : Rt.PForm}, FormV w B v fm → FormV w1 B v fm := by
    intro v fm hf
    obtain ⟨pv, iv, vv, vs, rfl, h1, h2, h3, h4⟩ := hf
    exact ⟨pv, iv, vv, vs, rfl, hr _ _ _ _ _ _ (Ne.symm t4) h1, hr _ _ _ _ _ _ (Ne.symm t5) h2, hr _ _ _ _ _ _ (Ne.symm t6) h3, ExprsR.map (fun x o hh => hr _ _ _ _ _ _ (Ne.symm t5) hh) _ _ h4⟩
  have hlines : ∀ ps cs, LinesV w B ps cs → LinesV w1 B ps cs := by
    intro ps
    induction ps with
    | nil => intro cs h; cases cs with
      | nil => trivial
      | cons _ _ => exact h.elim
    | cons p ps ih => intro cs h; cases cs with
      | nil => exact h.elim
      | cons c cs =>
        obtain ⟨⟨tv, fv, xe, xf, e, g1, g2⟩, h2⟩ := h
        exact ⟨⟨tv, fv, xe, xf, e, hr _ _ _ _ _ _ (Ne.symm t3) g1, hform g2⟩, ih cs h2⟩
  exact ⟨hblk P _ h.block (fun c e => by simp at e; exact t1 e.2.symm), hr _ _ _ _ _ _ (Ne.symm t2) h.own, hlines _ _ h.lines⟩
end Go.Proofs.YtbpajiljfppjcaaGreatDoor

namespace Go.Proofs.YtbpajiljfppjcaaGreatDoor
open Go.RowKit

section
variable {P : Program} (w : World)
theorem run_append_text (base : Nat) (t tx ty e : TypeId) (i : TypeInfo) (z : Value) (ht : P.underlying t = some (.slice e)) (hx : P.underlying tx = some .string) (hi : P.info? e = some i) (hz : i.zero = some z)
    (hsize : i.size = 1) (hby : i.bytes = 1) (hzs : z.cells.size = 1)
    (v : Value) (n : Nat) (xs : List Value) (hown : w.ownsRow base e 1 v n xs) (s : ByteArray)
    (h63 : n + s.size ≤ 140737488355328) (hbase : base ≤ w.heap.size) :
    ∃ v' w', (Builtin.append_ #[t, tx] ty #[v, .string s]).run P w = .ok v' w' ∧ w'.ownsRow base e 1 v' (n + s.size) (xs ++ byteCells s) ∧ w.grownBy w' v.ownBlock := by
  have hs : Src P i.size tx (.string s) s.size (byteCells s) w := by rw [hsize]; exact Src.ofString w hx s
  have hl : (byteCells s).length = s.size := byteCells_length s
  have hlx : xs.length = n := by simpa using hown.1
  have hlen : (xs ++ byteCells s).length = n + s.size := by rw [List.length_append, hlx, hl]
  have hmx : n + s.size ≤ maxLen := by unfold maxLen; omega
  have grown : ∀ (old : Nat), old < n + s.size → ∀ (row : Option Nat),
      (w.drew.alloc (.cells ((xs ++ byteCells s).toArray ++ Builtin.zeroCells z.cells (grownCap w (n + s.size) old e - (n + s.size))) e)).ownsRow base e 1
        (.slice (some ⟨w.heap.size, 0, none⟩) (n + s.size) (grownCap w (n + s.size) old e)) (n + s.size) (xs ++ byteCells s) ∧
      w.grownBy (w.drew.alloc (.cells ((xs ++ byteCells s).toArray ++ Builtin.zeroCells z.cells (grownCap w (n + s.size) old e - (n + s.size))) e)) row := by
    intro old ho row
    have hge := grownCap_ge w (n + s.size) old e
    have hcm : grownCap w (n + s.size) old e ≤ maxLen := grownCap_le_maxLen w (n + s.size) old e hmx
    refine ⟨⟨by rw [hlen]; simp, .inr ⟨w.heap.size, _, _, rfl, hbase, heap_alloc_new w.drew _, hge, hcm, ?_, ?_⟩⟩, ⟨rfl, rfl, rfl, by simp, fun k hk _ => heap_alloc_old w.drew _ hk⟩⟩
    · simp only [Array.size_append, List.size_toArray, size_zeroCells, hzs, hlen]
      omega
    · simp only [Array.toList_append, Nat.mul_one]
      rw [← hlen]
      exact List.take_left
  rcases hown.2 with ⟨rfl, rfl⟩ | ⟨g, cap, cur, rfl, hbg, hg, hnc, hcm, hcs, htake⟩
  · have hx0 : xs = [] := List.eq_nil_of_length_eq_zero hlx
    subst hx0
    by_cases hm : s.size = 0
    · have hn : byteCells s = [] := List.eq_nil_of_length_eq_zero (by rw [hl]; exact hm)
      refine ⟨.slice none 0 0, w, ?_, ?_, ⟨rfl, rfl, rfl, Nat.le_refl _, fun _ _ _ => rfl⟩⟩
      · have h0 := hs.len
        have h1 := hs.cells
        rw [hm, hn] at h1
        simp [Builtin.append_, run_underlying ht, run_underlying hx, sizeOf, typeInfo, hi, Builtin.lenOf, hm, h1]
      · rw [hm, hn]
        exact World.ownsRow_nil w base e 1
    · have hr := run_append_grow_src (P := P) w t tx ty e i z ht hi hz none 0 0 [] (run_firstCells_none w.drew i.size 0 0 0) (.string s) s.size (byteCells s) hs (by omega) (by omega) (by rw [hby]; exact growslice_fits (by omega) (by omega))
      have hgr := grown 0 (by omega) (Value.ownBlock (.slice none 0 0))
      simp only [Nat.zero_add, List.nil_append] at hgr hr ⊢
      exact ⟨_, _, hr, hgr.1, hgr.2⟩
  · by_cases hroom : n + s.size ≤ cap
    · have hst := run_storeCells_at P g n e (byteCells s) 0 cur w hg (by rw [hl, hcs]; omega) hs.one
      simp only [Nat.add_zero] at hst
      have hcl := hs.cells
      rw [hsize] at hcl
      refine ⟨.slice (some ⟨g, 0, none⟩) (n + s.size) cap, w.setRow g (cur.toList.take n ++ byteCells s ++ cur.toList.drop (n + (byteCells s).length)).toArray, ?_, ⟨by rw [hlen]; simp, .inr ⟨g, cap, _, rfl, hbg, setRow_heap w g cur _ e _ hg, hroom, hcm, ?_, ?_⟩⟩, ⟨rfl, rfl, rfl, by simp, fun k _ hk => setRow_other w g k _ (fun e => hk (by simp [Value.ownBlock, e]))⟩⟩
      · simp [Builtin.append_, run_underlying ht, run_underlying hx, sizeOf, typeInfo, hi, Builtin.lenOf, hroom, hcl, Addr.add_lit, hsize, hst]
      · simp only [List.size_toArray, List.length_append, List.length_take, List.length_drop, Array.length_toList]
        omega
      · rw [Nat.mul_one] at htake ⊢
        rw [htake, ← hlen]
        exact List.take_left
    · have holds : ∀ j u, xs[j]? = some u → w.cell? ((⟨g, 0, none⟩ : Addr).add j) = some u := hown.cells (g := g) rfl
      have hr := run_append_grow_src (P := P) w t tx ty e i z ht hi hz (some ⟨g, 0, none⟩) n cap xs (run_firstCells_some (P := P) w.drew i.size n ⟨g, 0, none⟩ n cap xs (by rw [hlx, hsize]; simp) (by simpa using holds)) (.string s) s.size (byteCells s) hs (by omega) (by omega) (by rw [hby]; exact growslice_fits (by omega) (by omega))
      have hgr := grown cap (by omega) (Value.ownBlock (.slice (some ⟨g, 0, none⟩) n cap))
      exact ⟨_, _, hr, hgr.1, hgr.2⟩

theorem wpList_append_text {ops : Array Oper} {rest : List Oper} {o : Oper} {a : Act} {Q : Exit → Act → World → Prop} (hgd : o.guard = none) (r x : Operand) (t tx : TypeId)
    (ho : o.op = .call { callee := .builtin .append, args := #[r, x], argTypes := #[t, tx] })
    (base : Nat) (e : TypeId) (i : TypeInfo) (z : Value) (ht : P.underlying t = some (.slice e)) (hx : P.underlying tx = some .string) (hi : P.info? e = some i) (hz : i.zero = some z)
    (hsize : i.size = 1) (hby : i.bytes = 1) (hzs : z.cells.size = 1)
    (v : Value) (n : Nat) (xs : List Value) (hs : a.eval r = v) (hown : w.ownsRow base e 1 v n xs) (s : ByteArray) (hxs : a.eval x = .string s)
    (h63 : n + s.size ≤ 140737488355328) (hbase : base ≤ w.heap.size)
    (h : ∀ v' w', w'.ownsRow base e 1 v' (n + s.size) (xs ++ byteCells s) → w.grownBy w' v.ownBlock → wpList P ops Q rest (a.put o.dst v') w') : wpList P ops Q (o :: rest) a w := by
  refine wpList_plain hgd fun _ hK => ?_
  obtain ⟨v', w', hr, h2, h3⟩ := run_append_text (P := P) w base t tx o.type e i z ht hx hi hz hsize hby hzs v n xs hown s h63 hbase
  unfold Oper.wp execOp
  simp only [ho, resolve, invoke, builtin, Sem.run_bind, Sem.run_pure, Result.andThen_ok, List.map_toArray, List.map_cons, List.map_nil, hs, hxs, hr]
  exact hK _ _ (h v' w' h2 h3)

/-- string(bytes), of a row of the call's own. -/
theorem run_text_of_own (src dst e : TypeId) (base : Nat) (v : Value) (n : Nat) (l : List UInt8) (hs : P.underlying src = some (.slice e)) (he : P.underlying e = some (.int .u8)) (hd : P.underlying dst = some .string)
    (hown : w.ownsRow base e 1 v n (l.map fun b => Value.int .u8 b.toNat)) : (convert src dst v).run P w = .ok (.string ⟨l.toArray⟩) w := by
  have hn : l.length = n := by simpa using hown.1
  rcases hown.2 with ⟨rfl, rfl⟩ | ⟨g, cap, cur, rfl, _⟩
  · have : l = [] := List.eq_nil_of_length_eq_zero hn
    subst this
    rw [run_convert_bytes_string w src dst e none 0 0 hs he hd]
    rfl
  · subst hn
    exact run_convert_bytes_back w src dst e ⟨g, 0, none⟩ cap l hs he hd (fun j hj => hown.cells (g := g) rfl j _ (by simp [hj]))
end

end Go.Proofs.YtbpajiljfppjcaaGreatDoor

