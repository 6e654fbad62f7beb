/- The links between lines: the walk of link. -/
import Derived.Test.YthleadfkfnnadaaGreatNest3
import Derived.Test.YthleadfkfnnadaaGreatProg0
namespace Go.Proofs.YthleadfkfnnadaaGreat
open Go.RowKit
attribute [local go_sem ↓] Go.wp_at_zero Go.wp_at_succ
theorem split_at {pls : List Rt.PL} {i : Nat} (hi : i < pls.length) : pls = pls.take i ++ pls[i] :: pls.drop (i + 1) := by
  rw [← List.drop_eq_getElem_cons hi, List.take_append_drop]
theorem ProgS.at {w : World} {P : Nat} {pls : List Rt.PL} {lv : Value} {cs : List (List Value)} (h : ProgS w P pls lv cs) {i : Nat} (hi : i < pls.length) :
    ∃ g cap a0 a1 a2 a3 c0 c1 c2 c3 xe xf, lv = .slice (some ⟨g, 0, none⟩) pls.length cap ∧ P < g ∧ g < w.heap.size ∧
      Ten w g (i * 12) (.slice a0 pls[i].toks.length c0) (.int .i64 pls[i].form.kind) (.string pls[i].form.name) (.int .i64 pls[i].form.cells) (.slice a1 pls[i].form.params.length c1) (.slice a2 pls[i].form.index.length c2) (.slice a3 pls[i].form.values.length c3) (.int .i64 pls[i].depth) (.int .i64 pls[i].opener) (.int .i64 xe) (.int .i64 xf) (.int .i64 pls[i].proc) ∧
      w.ownsRow (P + 1) 188 2 (.slice a0 pls[i].toks.length c0) pls[i].toks.length (Rt.toksCells pls[i].toks) ∧
      FormV w (P + 1) #[.int .i64 pls[i].form.kind, .string pls[i].form.name, .int .i64 pls[i].form.cells, .slice a1 pls[i].form.params.length c1, .slice a2 pls[i].form.index.length c2, .slice a3 pls[i].form.values.length c3] pls[i].form := by
  have hs := split_at hi
  have hl : (pls.take i).length = i := by simp; omega
  have h2 := h
  rw [hs] at h2
  obtain ⟨g, cap, a0, a1, a2, a3, c0, c1, c2, c3, xe, xf, hlv, h3, h4, h5, _, h6, h7⟩ := h2.get
  rw [← hs] at hlv
  rw [hl] at h5
  exact ⟨g, cap, a0, a1, a2, a3, c0, c1, c2, c3, xe, xf, hlv, h3, h4, h5, h6, h7⟩
theorem ProgS.lvForm {w : World} {P : Nat} {pls : List Rt.PL} {lv : Value} {cs : List (List Value)} (h : ProgS w P pls lv cs) : ∃ ad cap, lv = .slice ad pls.length cap ∧ w.cell? ⟨P, 0, none⟩ = some (.slice ad pls.length cap) := by
  obtain ⟨ad, cap, rfl⟩ := ownsRow_form h.own
  exact ⟨ad, cap, rfl, cell_of_block h.block 0 (by simp)⟩
namespace Rt
def lineAtP (pls : List PL) (n : Int) : PL := if n < 0 then zPL else (pls[n.toNat]?).getD zPL
theorem lineAtP_form (pls : List PL) (n : Int) : (lineAtP pls n).form = formAt pls n := by
  unfold lineAtP formAt
  split
  · rfl
  · cases pls[n.toNat]? <;> rfl
theorem lineAtP_in {pls : List PL} {n : Nat} (h : n < pls.length) : lineAtP pls (n : Int) = pls[n] := by
  rw [lineAtP, if_neg (by omega)]
  simp [h]
theorem lineAtP_out {pls : List PL} {n : Int} (h : n < 0 ∨ (pls.length : Int) ≤ n) : lineAtP pls n = zPL := by
  unfold lineAtP
  split
  · rfl
  · rw [List.getElem?_eq_none (by omega)]
    rfl
end Rt
def PLineP (P : Nat) (pl : Rt.PL) (w : World) (e : Ending) (w' : World) : Prop := ∃ a0 a1 a2 a3 c0 c1 c2 c3 xe xf, e = .returned (.agg #[.slice a0 pl.toks.length c0, .int .i64 pl.form.kind, .string pl.form.name, .int .i64 pl.form.cells, .slice a1 pl.form.params.length c1, .slice a2 pl.form.index.length c2, .slice a3 pl.form.values.length c3, .int .i64 pl.depth, .int .i64 pl.opener, .int .i64 xe, .int .i64 xf, .int .i64 pl.proc]) ∧ w'.ownsRow (P + 1) 188 2 (.slice a0 pl.toks.length c0) pl.toks.length (Rt.toksCells pl.toks) ∧ FormV w' (P + 1) #[.int .i64 pl.form.kind, .string pl.form.name, .int .i64 pl.form.cells, .slice a1 pl.form.params.length c1, .slice a2 pl.form.index.length c2, .slice a3 pl.form.values.length c3] pl.form ∧ Below w.heap.size w w'
theorem linep_zero {P : Nat} {w w' : World} (hb : Below w.heap.size w w') : PLineP P Rt.zPL w (.returned (.agg #[.slice none 0 0, .int .i64 0, .string ⟨#[]⟩, .int .i64 0, .slice none 0 0, .slice none 0 0, .slice none 0 0, .int .i64 0, .int .i64 0, .int .i64 0, .int .i64 0, .int .i64 0])) w' :=
  ⟨none, none, none, none, 0, 0, 0, 0, 0, 0, rfl, World.ownsRow_nil _ _ _ _, FormV_plain _ _ _ _ _, hb⟩
set_option maxHeartbeats 1000000 in
set_option maxRecDepth 100000 in
theorem Line_any (w : World) (P : Nat) (pls : List Rt.PL) (lv : Value) (cs : List (List Value)) (n : Int) (h : ProgS w P pls lv cs) :
    Calls Tryz.prog 90 #[.pointer (some ⟨P, 0, none⟩), .int .i64 n] w (PLineP P (Rt.lineAtP pls n) w) := by
  obtain ⟨ad, cap, hlv, cP⟩ := h.lvForm
  have hPlt := block_lt h.block
  by_cases h0 : n < 0
  · have HE := hide (Rt.lineAtP_out (pls := pls) (Or.inl h0))
    clear h
    go_enter Tryz.func90, Tryz.ntmps90
    go_wp2_with fail
    refine bodyPost_ret (v := .agg #[.slice none 0 0, .int .i64 0, .string ⟨#[]⟩, .int .i64 0, .slice none 0 0, .slice none 0 0, .slice none 0 0, .int .i64 0, .int .i64 0, .int .i64 0, .int .i64 0, .int .i64 0]) ?_ rfl (by rw [unhide HE]; exact linep_zero ((Below.refl _ _).alloc (Nat.le_refl _) _))
    simp [results, Tryz.results90, go_sem]
  by_cases h1 : (pls.length : Int) ≤ n
  · have HE := hide (Rt.lineAtP_out (pls := pls) (Or.inr h1))
    clear h
    go_enter Tryz.func90, Tryz.ntmps90
    go_wp2_with fail
    refine bodyPost_ret (v := .agg #[.slice none 0 0, .int .i64 0, .string ⟨#[]⟩, .int .i64 0, .slice none 0 0, .slice none 0 0, .slice none 0 0, .int .i64 0, .int .i64 0, .int .i64 0, .int .i64 0, .int .i64 0]) ?_ rfl (by rw [unhide HE]; exact linep_zero ((Below.refl _ _).alloc (Nat.le_refl _) _))
    simp [results, Tryz.results90, go_sem]
  obtain ⟨k, rfl⟩ := Int.eq_ofNat_of_zero_le (show 0 ≤ n by omega)
  have hlt : k < pls.length := by omega
  obtain ⟨g, cap', a0, a1, a2, a3, e0, e1, e2, e3, xe, xf, hlv', _, hglt, ⟨d0, d1, d2, d3, d4, d5, d6, d7, d8, d9, d10, d11⟩, htk, hfv⟩ := h.at hlt
  have hlv2 := hlv.symm.trans hlv'
  simp at hlv2
  obtain ⟨rfl, rfl⟩ := hlv2
  have HE := hide (Rt.lineAtP_in hlt)
  have HF := hide (And.intro htk hfv)
  clear h hfv htk hlv hlv'
  generalize pls[k] = pl at *
  go_enter Tryz.func90, Tryz.ntmps90
  go_wp2_with fail
  refine bodyPost_ret (v := .agg #[.slice a0 pl.toks.length e0, .int .i64 pl.form.kind, .string pl.form.name, .int .i64 pl.form.cells, .slice a1 pl.form.params.length e1, .slice a2 pl.form.index.length e2, .slice a3 pl.form.values.length e3, .int .i64 pl.depth, .int .i64 pl.opener, .int .i64 xe, .int .i64 xf, .int .i64 pl.proc]) ?_ rfl (by rw [unhide HE]; exact ⟨a0, a1, a2, a3, e0, e1, e2, e3, xe, xf, rfl, own_later (unhide HF).1 ((Below.refl _ _).alloc (Nat.le_refl _) _), (keeps_later (B := P + 1) ((Below.refl _ _).alloc (Nat.le_refl _) _)).form (unhide HF).2, (Below.refl _ _).alloc (Nat.le_refl _) _⟩)
  simp [results, Tryz.results90, go_sem]
end Go.Proofs.YthleadfkfnnadaaGreat
namespace Go.Proofs.YthleadfkfnnadaaGreat
namespace Rt
abbrev Lks := List (Int × Int)
def lkStep (len : Nat) (lk : Lks) (pl : PL) (n : Nat) : Lks :=
  if 1 ≤ pl.opener ∧ pl.opener < len then
    if pl.form.kind = 6 then lk.modify pl.opener.toNat (fun x => ((n : Int), x.2))
    else if pl.form.kind = 4 then lk.modify pl.opener.toNat (fun x => (x.1, (n : Int)))
    else lk
  else lk
def nestLk (len : Nat) : List PL → Nat → List Blk → Lks → Lks
  | [], _, _, lk => lk
  | p :: r, n, bs, lk => if adm bs p.form.kind = true then nestLk len r (n + 1) (passed bs n p.form.kind) (lkStep len lk (placed bs p) n) else lk
theorem lkStep_len (len : Nat) (lk : Lks) (pl : PL) (n : Nat) : (lkStep len lk pl n).length = lk.length := by
  unfold lkStep
  split
  · split
    · simp
    · split
      · simp
      · rfl
  · rfl
def linksOf (ps : List PL) : Lks := nestLk (ps.length + 1) ps 1 [] (List.replicate (ps.length + 1) (0, 0))
def linksS (s : ByteArray) : Lks := linksOf ((rForms 0 (lines s) [zPL]).2.drop 1)
end Rt
end Go.Proofs.YthleadfkfnnadaaGreat
namespace Go.Proofs.YthleadfkfnnadaaGreat
open Go.RowKit
attribute [local go_sem ↓] Go.wp_at_zero Go.wp_at_succ
theorem set_grown (w : World) (a : Addr) (v : Value) : w.grownBy (w.setCell a v) (some a.block) := ⟨rfl, rfl, rfl, by simp [World.setCell], fun k _ h => Below.heap_setCell w a v k (fun e => h (by rw [e]))⟩
theorem below_grown {w w1 : World} (row : Option Nat) (h : Below w.heap.size w w1) : w.grownBy w1 row := ⟨h.os, h.tape, h.output, h.size, fun k hk _ => h.block k hk⟩
theorem grown_more {w w1 w2 : World} {row : Option Nat} (h : w.grownBy w1 row) (k : w1.grownBy w2 row) : w.grownBy w2 row :=
  ⟨k.os.trans h.os, k.tape.trans h.tape, k.output.trans h.output, Nat.le_trans h.size k.size, fun i hi hr => (k.block i (Nat.lt_of_lt_of_le hi h.size) hr).trans (h.block i hi hr)⟩
theorem ProgS.setE {w : World} {P : Nat} {acc : List Rt.PL} {p : Rt.PL} {r : List Rt.PL} {g n cap : Nat} {cs : List (List Value)} (h : ProgS w P (acc ++ p :: r) (.slice (some ⟨g, 0, none⟩) n cap) cs) (hn : n = (acc ++ p :: r).length) (t : Nat) (ht : t = 9 ∨ t = 10) (x : Int) :
    ∃ cs', ProgS (w.setCell ⟨g, acc.length * 12 + t, none⟩ (.int .i64 x)) P (acc ++ p :: r) (.slice (some ⟨g, 0, none⟩) n cap) cs' := by
  obtain ⟨d1, c, d2, hcs, hl, hA, hc, hC⟩ := h.lines.part
  have hg : P < g := by
    have := (h.own.lt g rfl).1
    omega
  have hother : ∀ k, k ≠ g → (w.setCell ⟨g, acc.length * 12 + t, none⟩ (.int .i64 x)).heap[k]? = w.heap[k]? := fun k hk => Below.heap_setCell w ⟨g, acc.length * 12 + t, none⟩ _ k hk
  have hK : Keeps w (w.setCell ⟨g, acc.length * 12 + t, none⟩ (.int .i64 x)) (P + 1) (P + 1) := by
    intro ty size n' v xs ht' hv
    have hne := own_ne hv h.own ht'
    obtain ⟨h1, h2⟩ := hv
    refine ⟨h1, ?_⟩
    rcases h2 with h2 | ⟨g', cap', cur, hv', hg', hh, rr⟩
    · exact Or.inl h2
    · exact Or.inr ⟨g', cap', cur, hv', hg', by rw [hother g' (fun e => hne g' (by rw [hv']; rfl) (by rw [e]; rfl))]; exact hh, rr⟩
  have hlen := hc.len
  obtain ⟨tv, fv, xe, xf, hcc, h1, h2⟩ := hc
  have hc' : LineV w (P + 1) p (c.set t (.int .i64 x)) := by
    obtain ⟨pv, iv, vv, vs, hfv, hr⟩ := h2
    subst hfv
    subst hcc
    rcases ht with rfl | rfl
    · exact ⟨tv, _, x, xf, rfl, h1, ⟨pv, iv, vv, vs, rfl, hr⟩⟩
    · exact ⟨tv, _, xe, x, rfl, h1, ⟨pv, iv, vv, vs, rfl, hr⟩⟩
  refine ⟨d1 ++ c.set t (.int .i64 x) :: d2, ?_, ?_, LinesV.join _ _ _ _ _ _ (hK.lines _ _ hA) (hK.line hc') (hK.lines _ _ hC)⟩
  · rw [hother P (by omega)]
    exact h.block
  · have hown := h.own
    rw [← hn] at hown
    have e1 : cs.flatten = d1.flatten ++ c ++ d2.flatten := by rw [hcs]; simp
    rw [e1] at hown
    have := own_store1 hown t (.int .i64 x) (by omega)
    rw [hl] at this
    rw [← hn]
    simpa using this
theorem link_done {w w2 w3 : World} {P : Nat} {pls : List Rt.PL} {lv : Value} {cs : List (List Value)} {g cap j : Nat} (h : ProgS w2 P pls lv cs) (hlv : lv = .slice (some ⟨g, 0, none⟩) pls.length cap) (hb : Below w.heap.size w w2) (hj : j < pls.length) (hb3 : Below w2.heap.size w2 w3) (t : Nat) (ht : t = 9 ∨ t = 10) (x : Int) :
    (∃ cs', ProgS (w3.setCell ⟨g, j * 12 + t, none⟩ (.int .i64 x)) P pls lv cs') ∧ w.grownBy (w3.setCell ⟨g, j * 12 + t, none⟩ (.int .i64 x)) lv.ownBlock := by
  have h3 := h.later hb3
  have hs := split_at hj
  have hl : (pls.take j).length = j := by simp; omega
  refine ⟨?_, ?_⟩
  · rw [hlv] at h3 ⊢
    rw [hs] at h3
    have := h3.setE (by rw [← hs]) t ht x
    rw [hl, ← hs] at this
    exact this
  · rw [hlv]
    exact grown_more (below_grown _ (hb.trans (hb3.mono hb.size))) (set_grown w3 ⟨g, j * 12 + t, none⟩ (.int .i64 x))
def LkW (w : World) (lv : Value) (lk : Rt.Lks) : Prop := ∀ g n cap, lv = .slice (some ⟨g, 0, none⟩) n cap → ∀ i x, lk[i]? = some x → w.cell? ⟨g, i * 12 + 9, none⟩ = some (.int .i64 x.1) ∧ w.cell? ⟨g, i * 12 + 10, none⟩ = some (.int .i64 x.2)
theorem LkW.same {w w' : World} {lv : Value} {lk : Rt.Lks} (h : LkW w lv lk) (hb : ∀ g, lv.ownBlock = some g → w'.heap[g]? = w.heap[g]?) : LkW w' lv lk := by
  intro g n cap e i x hx
  obtain ⟨h1, h2⟩ := h g n cap e i x hx
  have hg := hb g (by rw [e]; rfl)
  rw [World.cell?_of_block (a := ⟨g, i * 12 + 9, none⟩) hg, World.cell?_of_block (a := ⟨g, i * 12 + 10, none⟩) hg]
  exact ⟨h1, h2⟩
theorem LkW.later {w w' : World} {B n : Nat} {t : TypeId} {sz : Nat} {lv : Value} {xs : List Value} {lk : Rt.Lks} (h : LkW w lv lk) (ho : w.ownsRow B t sz lv n xs) (hb : Below w.heap.size w w') : LkW w' lv lk :=
  h.same (fun g hg => hb.block g (ho.lt g hg).2)
theorem get_modify {α : Type} (l : List α) (j i : Nat) (f : α → α) (x : α) (h : (l.modify j f)[i]? = some x) : (i = j ∧ ∃ y, l[i]? = some y ∧ x = f y) ∨ (i ≠ j ∧ l[i]? = some x) := by
  rw [List.getElem?_modify] at h
  cases hy : l[i]? with
  | none => rw [hy] at h; cases h
  | some y =>
    rw [hy] at h
    by_cases e : j = i
    · simp [e] at h
      exact Or.inl ⟨e.symm, y, rfl, h.symm⟩
    · simp [e] at h
      exact Or.inr ⟨fun e' => e e'.symm, by rw [h]⟩
theorem cell_off {w : World} {g q q' : Nat} {v : Value} (h : q ≠ q') : (w.setCell ⟨g, q, none⟩ v).cell? ⟨g, q', none⟩ = w.cell? ⟨g, q', none⟩ :=
  World.cell?_setCell_other _ _ _ _ (fun e => h (by injection e))
theorem cell_on {w : World} {g q : Nat} {v u : Value} (h : w.cell? ⟨g, q, none⟩ = some u) : (w.setCell ⟨g, q, none⟩ v).cell? ⟨g, q, none⟩ = some v := World.cell?_setCell_same _ _ _ h
theorem LkW.set9 {w : World} {g n cap j : Nat} {lk : Rt.Lks} (h : LkW w (.slice (some ⟨g, 0, none⟩) n cap) lk) (v : Int) : LkW (w.setCell ⟨g, j * 12 + 9, none⟩ (.int .i64 v)) (.slice (some ⟨g, 0, none⟩) n cap) (lk.modify j (fun x => (v, x.2))) := by
  intro g' n' cap' e i x hx
  injection e with e _ _
  injection e with e
  injection e with e
  subst e
  rcases get_modify _ _ _ _ _ hx with ⟨rfl, y, hy, rfl⟩ | ⟨hne, hy⟩
  · obtain ⟨h1, h2⟩ := h g n cap rfl i y hy
    exact ⟨cell_on h1, (cell_off (by omega)).trans h2⟩
  · obtain ⟨h1, h2⟩ := h g n cap rfl i x hy
    exact ⟨(cell_off (by omega)).trans h1, (cell_off (by omega)).trans h2⟩
theorem LkW.set10 {w : World} {g n cap j : Nat} {lk : Rt.Lks} (h : LkW w (.slice (some ⟨g, 0, none⟩) n cap) lk) (v : Int) : LkW (w.setCell ⟨g, j * 12 + 10, none⟩ (.int .i64 v)) (.slice (some ⟨g, 0, none⟩) n cap) (lk.modify j (fun x => (x.1, v))) := by
  intro g' n' cap' e i x hx
  injection e with e _ _
  injection e with e
  injection e with e
  subst e
  rcases get_modify _ _ _ _ _ hx with ⟨rfl, y, hy, rfl⟩ | ⟨hne, hy⟩
  · obtain ⟨h1, h2⟩ := h g n cap rfl i y hy
    exact ⟨(cell_off (by omega)).trans h1, cell_on h2⟩
  · obtain ⟨h1, h2⟩ := h g n cap rfl i x hy
    exact ⟨(cell_off (by omega)).trans h1, (cell_off (by omega)).trans h2⟩
def LinkP (P : Nat) (pls : List Rt.PL) (lv : Value) (n : Nat) (w : World) (e : Ending) (w' : World) : Prop := e = .returned (.tuple #[]) ∧ (∃ cs', ProgS w' P pls lv cs') ∧ w.grownBy w' lv.ownBlock ∧ ∀ lk, LkW w lv lk → LkW w' lv (Rt.lkStep pls.length lk (Rt.lineAtP pls n) n)
set_option maxHeartbeats 2000000 in
set_option maxRecDepth 100000 in
theorem link_any (w : World) (P : Nat) (pls : List Rt.PL) (lv : Value) (cs : List (List Value)) (n : Nat) (h : ProgS w P pls lv cs) :
    Calls Tryz.prog 125 #[.pointer (some ⟨P, 0, none⟩), .int .i64 n] w (LinkP P pls lv n w) := by
  obtain ⟨ad, cap, hlv, cP⟩ := h.lvForm
  have hPlt := block_lt h.block
  have HH := hide h
  have HLV := hide hlv
  clear h hlv
  go_enter Tryz.func125, Tryz.ntmps125
  go_wp2_with fail
  refine (Line_any _ _ _ _ _ _ (unhide HH)).mono ?_
  rintro e w1 ⟨a0, a1, a2, a3, c0, c1, c2, c3, xe, xf, rfl, _, _, hb1⟩
  have HLK : Hid (∀ (lk : Rt.Lks) (w' : World), LkW w lv lk → Below w.heap.size w w' → LkW w' lv lk) := hide (fun lk w' hl hb => hl.later (unhide HH).own hb)
  generalize HPLN : Rt.lineAtP pls n = pl at *
  replace HPLN := hide HPLN
  have h1 := (unhide HH).later hb1
  have H1 := hide (And.intro h1 hb1)
  have cP1 := cell_later hb1 cP
  have hsz1 := hb1.size
  clear cP
  have hbL := (Below.refl w1.heap.size w1).alloc (Nat.le_refl _) (.cells #[.slice a0 pl.toks.length c0, .int .i64 pl.form.kind, .string pl.form.name, .int .i64 pl.form.cells, .slice a1 pl.form.params.length c1, .slice a2 pl.form.index.length c2, .slice a3 pl.form.values.length c3, .int .i64 pl.depth, .int .i64 pl.opener, .int .i64 xe, .int .i64 xf, .int .i64 pl.proc] 145)
  have hL := heap_alloc_new w1 (.cells #[.slice a0 pl.toks.length c0, .int .i64 pl.form.kind, .string pl.form.name, .int .i64 pl.form.cells, .slice a1 pl.form.params.length c1, .slice a2 pl.form.index.length c2, .slice a3 pl.form.values.length c3, .int .i64 pl.depth, .int .i64 pl.opener, .int .i64 xe, .int .i64 xf, .int .i64 pl.proc] 145)
  have k1 := cell_of_block hL 1 (by simp)
  have k8 := cell_of_block hL 8 (by simp)
  have cP2 := cell_later hbL cP1
  have H2 := hide (And.intro (h1.later hbL) (hb1.trans (hbL.mono (B' := w.heap.size) hb1.size)))
  have hsz2 := hbL.size
  simp only [List.getElem_toArray, List.getElem_cons_succ, List.getElem_cons_zero] at k1 k8
  have hLne : ¬ w1.heap.size = P := by omega
  have hlvlt : ∀ g, lv.ownBlock = some g → g < w1.heap.size := fun g hg => (h1.own.lt g hg).2
  clear hb1 h1 hL hbL cP1 H1
  go_wp2_with fail
  generalize w1.alloc (.cells #[.slice a0 pl.toks.length c0, .int .i64 pl.form.kind, .string pl.form.name, .int .i64 pl.form.cells, .slice a1 pl.form.params.length c1, .slice a2 pl.form.index.length c2, .slice a3 pl.form.values.length c3, .int .i64 pl.depth, .int .i64 pl.opener, .int .i64 xe, .int .i64 xf, .int .i64 pl.proc] 145) = w2 at *
  generalize w1.heap.size = L at *
  have HST : Hid (∀ lk : Rt.Lks, Rt.lkStep pls.length lk pl n = if 1 ≤ pl.opener ∧ pl.opener < pls.length then (if pl.form.kind = 6 then lk.modify pl.opener.toNat (fun x => ((n : Int), x.2)) else if pl.form.kind = 4 then lk.modify pl.opener.toNat (fun x => (x.1, (n : Int))) else lk) else lk) := hide (fun _ => rfl)
  generalize pl.opener = op at *
  generalize pl.form.kind = kx at *
  by_cases ho : op < 1
  · have ho' : decide (op < 1) = true := by simpa using ho
    go_quiet (fail)
    go_wp2_with fail
    go_end0
    obtain ⟨q1, q2⟩ := unhide H2
    exact ⟨rfl, ⟨_, q1.later (below_drewN _ _)⟩, below_grown _ (q2.trans ((below_drewN _ _).mono q2.size)), fun lk hl => by rw [unhide HPLN, unhide HST, if_neg (by omega)]; exact unhide HLK lk _ hl (q2.trans ((below_drewN _ _).mono q2.size))⟩
  · by_cases hp : (pls.length : Int) ≤ op
    · have ho' : decide (op < 1) = false := by simpa using ho
      go_quiet (fail)
      go_wp2_with fail
      go_end0
      obtain ⟨q1, q2⟩ := unhide H2
      exact ⟨rfl, ⟨_, q1.later (below_drewN _ _)⟩, below_grown _ (q2.trans ((below_drewN _ _).mono q2.size)), fun lk hl => by rw [unhide HPLN, unhide HST, if_neg (by omega)]; exact unhide HLK lk _ hl (q2.trans ((below_drewN _ _).mono q2.size))⟩
    · obtain ⟨j, rfl⟩ := Int.eq_ofNat_of_zero_le (show 0 ≤ op by omega)
      have hjl : j < pls.length := by omega
      have hj1 : ¬ (j : Int) < 1 := by omega
      have ho' : decide ((j : Int) < 1) = false := by simpa using hj1
      have hj2 : ¬ (pls.length : Int) ≤ (j : Int) := by omega
      have hj3 : (0 : Int) ≤ (j : Int) := by omega
      have hj4 : (j : Int) < (pls.length : Int) := by omega
      obtain ⟨g, cap', a0', a1', a2', a3', e0, e1, e2, e3, xe', xf', hlv', hPg, hglt, ⟨_, _, _, _, _, _, _, _, _, d9, d10, _⟩, _, _⟩ := (unhide H2).1.at hjl
      have hlv2 := (unhide HLV).symm.trans hlv'
      simp only [Value.slice.injEq, true_and] at hlv2
      obtain ⟨rfl, rfl⟩ := hlv2
      have fz : ∀ q, w2.frozen? ⟨g, q, none⟩ = false := fun q => by
        have := (unhide H2).1.own
        rw [hlv'] at this
        exact this.frozenAt q
      have z9 := fz (j * 12 + 9)
      have z10 := fz (j * 12 + 10)
      have hPg' : ¬ P = g := by omega
      have hgP' : ¬ g = P := by omega
      have hgL : ¬ g = L := by
        have := hlvlt g (by rw [hlv']; rfl)
        omega
      have hLg : ¬ L = g := fun e => hgL e.symm
      have HLV2 := hide hlv'
      clear hlv' fz
      go_quiet (fail)
      cases k6 : (kx == 6) with
      | true =>
        go_wp2_with fail
        go_region_held3 (fun w' => w'.cell? ⟨L, 8, none⟩ = some (.int .i64 (j : Int)) ∧ w'.cell? ⟨P, 0, none⟩ = some (.slice (some ⟨g, 0, none⟩) pls.length cap)) (first | go_keep | (simp [World.cell?_setCell_other, *]; done) | (simp [World.cell?_setCell_other, *]; omega)) (fail)
        go_wp2_with fail
        go_end0
        obtain ⟨q1, q2⟩ := unhide H2
        obtain ⟨l1, l2⟩ := link_done q1 (unhide HLV2) q2 hjl (below_drewN w2 _) 9 (Or.inl rfl) _
        refine ⟨rfl, l1, l2, fun lk hl => ?_⟩
        rw [unhide HPLN, unhide HST, if_pos (by omega), if_pos (by simpa using k6), unhide HLV2]
        refine LkW.set9 ?_ _
        rw [← unhide HLV2]
        exact unhide HLK lk _ hl (q2.trans ((below_drewN _ _).mono q2.size))
      | false =>
        cases k4 : (kx == 4) with
        | true =>
          go_wp2_with fail
          go_region_held3 (fun w' => w'.cell? ⟨L, 8, none⟩ = some (.int .i64 (j : Int)) ∧ w'.cell? ⟨P, 0, none⟩ = some (.slice (some ⟨g, 0, none⟩) pls.length cap)) (first | go_keep | (simp [World.cell?_setCell_other, *]; done) | (simp [World.cell?_setCell_other, *]; omega)) (fail)
          go_wp2_with fail
          go_end0
          obtain ⟨q1, q2⟩ := unhide H2
          obtain ⟨l1, l2⟩ := link_done q1 (unhide HLV2) q2 hjl (below_drewN w2 _) 10 (Or.inr rfl) _
          refine ⟨rfl, l1, l2, fun lk hl => ?_⟩
          rw [unhide HPLN, unhide HST, if_pos (by omega), if_neg (by simpa using k6), if_pos (by simpa using k4), unhide HLV2]
          refine LkW.set10 ?_ _
          rw [← unhide HLV2]
          exact unhide HLK lk _ hl (q2.trans ((below_drewN _ _).mono q2.size))
        | false =>
          go_wp2_with fail
          go_end0
          obtain ⟨q1, q2⟩ := unhide H2
          exact ⟨rfl, ⟨_, q1.later (below_drewN _ _)⟩, below_grown _ (q2.trans ((below_drewN _ _).mono q2.size)), fun lk hl => by rw [unhide HPLN, unhide HST, if_pos (by omega), if_neg (by simpa using k6), if_neg (by simpa using k4)]; exact unhide HLK lk _ hl (q2.trans ((below_drewN _ _).mono q2.size))⟩
end Go.Proofs.YthleadfkfnnadaaGreat
