/- The nesting of blocks: its state in memory, admits and pass. -/
import Derived.Test.YthleadfkfnnadaaGreatProg0
namespace Go.Proofs.YthleadfkfnnadaaGreat
open Go.RowKit
attribute [local go_sem ↓] Go.wp_at_zero Go.wp_at_succ
theorem ProgS.push {w w1 w2 : World} {P : Nat} {pls : List Rt.PL} {lv lv' : Value} {cs : List (List Value)} {p : Rt.PL} {c : List Value} (h : ProgS w P pls lv cs) (hp : LineV w (P + 1) p c) (hb : Below w.heap.size w w1)
    (hown : w2.ownsRow (P + 1) 145 12 lv' (pls.length + 1) (cs.flatten ++ c)) (hgrow : w1.grownBy w2 lv.ownBlock) :
    ProgS (w2.setCell ⟨P, 0, none⟩ lv') P (pls ++ [p]) lv' (cs ++ [c]) ∧ Below P w (w2.setCell ⟨P, 0, none⟩ lv') := by
  have hPlt := block_lt h.block
  have hrow : ∀ k, lv.ownBlock = some k → P < k := fun k hk => by have := (h.own.lt k hk).1; omega
  have hkeep : ∀ k, k < w.heap.size → some k ≠ lv.ownBlock → w2.heap[k]? = w.heap[k]? := fun k hk hv => by
    rw [hgrow.block k (Nat.lt_of_lt_of_le hk hb.size) hv]
    exact hb.block k hk
  have hset : ∀ k, k ≠ P → (w2.setCell ⟨P, 0, none⟩ lv').heap[k]? = w2.heap[k]? := fun k hk => Below.heap_setCell w2 ⟨P, 0, none⟩ _ k hk
  have hK : Keeps w (w2.setCell ⟨P, 0, none⟩ lv') (P + 1) (P + 1) := by
    intro t size n v xs ht hv
    have hne := own_ne hv h.own ht
    obtain ⟨h1, h2⟩ := hv
    refine ⟨h1, ?_⟩
    rcases h2 with h2 | ⟨g, cap, cur, hv', hg, hh, r⟩
    · exact Or.inl h2
    · exact Or.inr ⟨g, cap, cur, hv', hg, by rw [hset g (by omega), hkeep g (block_lt hh) (fun e => hne g (by rw [hv']; rfl) e.symm)]; exact hh, r⟩
  refine ⟨⟨?_, ?_, LinesV.snoc (hK.line hp) _ _ (hK.lines _ _ h.lines)⟩, ?_⟩
  · have hbk : w2.heap[P]? = some (.cells #[lv] 76 (0, 0)) := (hkeep P hPlt (fun e => by have := hrow P e.symm; omega)).trans h.block
    have := set_block hbk 0 lv'
    simpa using this
  · have : (cs ++ [c]).flatten = cs.flatten ++ c := by simp
    rw [this, List.length_append]
    exact ownsRow_setCell_below hown (by show P < P + 1; omega) _
  · refine ⟨hgrow.os.trans hb.os, hgrow.tape.trans hb.tape, hgrow.output.trans hb.output, ?_, fun k hk => (hset k (by omega)).trans (hkeep k (by omega) (fun e => by have := hrow k e.symm; omega))⟩
    have h1 := hgrow.size
    have h2 := hb.size
    simp [World.setCell]
    omega
theorem far_cell {w w1 w2 : World} {P : Nat} {lv : Value} {row : Option Nat} (hblk : w.heap[P]? = some (.cells #[lv] 76 (0, 0))) (hb : Below w.heap.size w w1) (hgrow : w1.grownBy w2 row) (hr : row ≠ some P) :
    w2.cell? ⟨P, 0, none⟩ = some lv ∧ w2.frozen? ⟨P, 0, none⟩ = false := by
  have hk : w2.heap[P]? = some (.cells #[lv] 76 (0, 0)) := by
    rw [hgrow.block P (Nat.lt_of_lt_of_le (block_lt hblk) hb.size) (Ne.symm hr), hb.block P (block_lt hblk)]
    exact hblk
  exact ⟨cell_of_block hk 0 (by simp), free_of_block hk 0⟩
abbrev zLine : Array Value := #[noOps, .int .i64 0, .string ⟨#[]⟩, .int .i64 0, noOps, noOps, noOps, .int .i64 0, .int .i64 0, .int .i64 0, .int .i64 0, .int .i64 0]
theorem alloc2_plain (w : World) (o1 o2 : Obj) : ((w.alloc o1).alloc o2).heap[w.heap.size + 1]? = some o2 := by
  have := heap_alloc_new (w.alloc o1) o2
  simpa using this
theorem prog_start {w : World} {P : Nat} {lv0 : Value} (hP : w.heap[P]? = some (.cells #[lv0] 76 (0, 0))) :
    ProgS ((w.setCell ⟨P, 0, none⟩ (.slice (some ⟨w.heap.size, 0, none⟩) 1 1)).alloc (.cells zLine 145)) P [Rt.zPL] (.slice (some ⟨w.heap.size, 0, none⟩) 1 1) [zLine.toList] := by
  have hlt := block_lt hP
  refine ⟨?_, ?_, ⟨noOps, zForm, 0, 0, rfl, World.ownsRow_nil _ _ _ _, FormV_plain _ _ _ _ _⟩, trivial⟩
  · have := set_block hP 0 (.slice (some ⟨w.heap.size, 0, none⟩) 1 1)
    exact block_alloc (by simpa using this) _
  · have h := heap_alloc_new (w.setCell ⟨P, 0, none⟩ (.slice (some ⟨w.heap.size, 0, none⟩) 1 1)) (.cells zLine 145)
    have hsz : (w.setCell ⟨P, 0, none⟩ (.slice (some ⟨w.heap.size, 0, none⟩) 1 1)).heap.size = w.heap.size := by simp [World.setCell]
    rw [hsz] at h
    exact ⟨rfl, Or.inr ⟨w.heap.size, 1, zLine, rfl, by omega, h, Nat.le_refl _, by unfold maxLen; omega, rfl, rfl⟩⟩
theorem own_after {w w1 w2 : World} {P : Nat} {pls : List Rt.PL} {lv : Value} {cs : List (List Value)} (h : ProgS w P pls lv cs) (hb : Below w.heap.size w w1) (hgrow : w1.grownBy w2 lv.ownBlock)
    {t : TypeId} {size n : Nat} {v : Value} {xs : List Value} (hv : w.ownsRow (P + 1) t size v n xs) (ht : t ≠ 145) (lv' : Value) : (w2.setCell ⟨P, 0, none⟩ lv').ownsRow (P + 1) t size v n xs := by
  have hne := own_ne hv h.own ht
  obtain ⟨h1, h2⟩ := hv
  refine ⟨h1, ?_⟩
  rcases h2 with h2 | ⟨g, cap, cur, hv', hg, hh, r⟩
  · exact Or.inl h2
  · refine Or.inr ⟨g, cap, cur, hv', hg, ?_, r⟩
    rw [Below.heap_setCell w2 ⟨P, 0, none⟩ _ g (by show g ≠ P; omega), hgrow.block g (Nat.lt_of_lt_of_le (block_lt hh) hb.size) (fun e => hne g (by rw [hv']; rfl) e.symm), hb.block g (block_lt hh)]
    exact hh
def Lk0 (cs : List (List Value)) : Prop := ∀ c ∈ cs, c[9]? = some (.int .i64 0) ∧ c[10]? = some (.int .i64 0)
set_option maxHeartbeats 4000000 in
set_option maxRecDepth 100000 in
theorem readForms_any (w : World) (P : Nat) (lv0 : Value) (s : ByteArray) (hP : w.heap[P]? = some (.cells #[lv0] 76 (0, 0))) (hs : s.size ≤ 40000) (hls : (Rt.lines s).length ≤ 100) :
    Calls Tryz.prog 75 #[.pointer (some ⟨P, 0, none⟩), .string s] w fun e w' => Below P w w' ∧
      (((Rt.rForms 0 (Rt.lines s) [Rt.zPL]).1 = 0 ∧ e = .returned (.tuple #[.int .i64 0, .int .i64 0]) ∧ ∃ lv cs, ProgS w' P (Rt.rForms 0 (Rt.lines s) [Rt.zPL]).2 lv cs ∧ Lk0 cs) ∨
       (¬ (Rt.rForms 0 (Rt.lines s) [Rt.zPL]).1 = 0 ∧ e = .returned (.tuple #[.int .i64 2, .int .i64 (Rt.rForms 0 (Rt.lines s) [Rt.zPL]).1]) ∧ w'.heap.size ≥ w.heap.size)) := by
  obtain ⟨i0, hi0, hz0, hz1, hz2⟩ := info_parts Tryz.infoLine
  have hPlt := block_lt hP
  have c0 := cell_of_block hP 0 (by simp)
  have f0 := free_of_block hP 0
  simp at c0
  go_enter Tryz.func75, Tryz.ntmps75
  go_wp2_with fail
  have hA : ProgS ((w.setCell ⟨P, 0, none⟩ (.slice (some ⟨w.heap.size, 0, none⟩) 1 1)).alloc (.cells zLine 145)) P [Rt.zPL] (.slice (some ⟨w.heap.size, 0, none⟩) 1 1) [zLine.toList] := prog_start hP
  have hbA : Below P w ((w.setCell ⟨P, 0, none⟩ (.slice (some ⟨w.heap.size, 0, none⟩) 1 1)).alloc (.cells zLine 145)) := ((Below.refl P w).setCell (p := ⟨P, 0, none⟩) (Nat.le_refl _) _).alloc (by simp [World.setCell]; omega) _
  clear c0 f0 hP
  refine (lines_any s _ hs).mono ?_
  rintro e w1 ⟨hb1, tx, rfl, htx⟩
  have hpr1 := hA.later hb1
  have hbe1 := hbA.trans (hb1.mono (B' := P) (by simp [World.setCell]; omega))
  have htx1 := ownsRow_mono (b' := P + 1) htx (by simp [World.setCell]; omega)
  clear hA hbA hb1 htx
  obtain ⟨adx, capx, rfl⟩ := ownsRow_form htx1
  have hsm := Rt.lines_facts hs
  generalize hL : Rt.lines s = L at *
  have HL := hide hL
  clear hL
  have HSM := hide hsm
  clear hsm
  go_wp2_with fail
  go_loopw [7, 8, 9, 10] (fun i _ _ _ wr => ∃ (k : Nat) (acc : List Rt.PL) (lv : Value) (cs : List (List Value)), k ≤ L.length ∧ i = .int .i64 k ∧ acc.length = k + 1 ∧ Rt.rForms k (L.drop k) acc = Rt.rForms 0 L [Rt.zPL] ∧
      ProgS wr P acc lv cs ∧ Lk0 cs ∧ wr.ownsRow (P + 1) 9 1 (.slice adx L.length capx) L.length (L.map Value.string) ∧ Below P w wr)
    (fun i _ _ _ _ => L.length - (intOf i).toNat)
  case atStart => exact ⟨0, [Rt.zPL], _, _, Nat.zero_le _, rfl, rfl, rfl, hpr1, (fun c hc => by rw [List.mem_singleton.mp hc]; exact ⟨rfl, rfl⟩), htx1, hbe1⟩
  case round =>
    clear hpr1 htx1 hbe1
    obtain ⟨k, acc, lv, cs, hk, rfl, hacc, hT, hpr, hlk, htx, hbe⟩ := hrel
    have HLK := hide hlk
    clear hlk
    have HT := hide hT
    have HA := hide hacc
    clear hT hacc
    have hszr := hbe.size
    by_cases hlt : k < L.length
    · have hlt' : (k : Int) < (L.length : Int) := by omega
      obtain ⟨gx, capx', hvx, _, _, cx⟩ := own_cell htx (j := k) (u := .string L[k]) (by simp [hlt])
      have hsk := (unhide HSM) L[k] (List.getElem_mem hlt)
      simp at hvx
      obtain ⟨rfl, rfl⟩ := hvx
      have hdrop : L.drop k = L[k] :: L.drop (k + 1) := List.drop_eq_getElem_cons hlt
      go_wp2_with fail
      refine (tokens_any L[k] _ hsk).mono ?_
      rintro e w2 ⟨hb2, (⟨ht, rfl⟩ | ⟨ts, tv, ht, rfl, htv⟩)⟩
      · have HE : Hid (Rt.rForms 0 L [Rt.zPL] = (k + 1, acc)) := by
          refine hide ?_
          rw [← unhide HT, hdrop, Rt.rForms, Rt.rdLine, ht]
        have HB := hide (hbe.trans (hb2.mono (B' := P) (by omega)))
        clear hpr htx hbe hb2 ht hdrop cx
        go_wp2_with fail
        go_ret2
        have hE := unhide HE
        rw [← unhide HL] at hE
        refine ⟨unhide HB, Or.inr ⟨by rw [hE]; simp, by rw [hE]; simp, by have := (unhide HB).size; omega⟩⟩
      · obtain ⟨hf1, hf2⟩ := Rt.toks_facts hsk ht
        have hpr2 := hpr.later hb2
        have htx2 := own_later htx hb2
        have hbe2 := hbe.trans (hb2.mono (B' := P) (by omega))
        have htv2 := ownsRow_mono (b' := P + 1) htv (by omega)
        clear hpr htx hbe htv cx
        obtain ⟨adt, capt, rfl⟩ := ownsRow_form htv2
        go_wp2_with fail
        refine (parseLine_any _ _ ts _ htv2 hf1 hf2).mono ?_
        rintro e w3 ⟨hb3, (⟨fm, fv, hp, rfl, hfv⟩ | ⟨hp, rfl⟩)⟩
        · have hsz2 := hb2.size
          have hpr3 := hpr2.later hb3
          have htx3 := own_later htx2 hb3
          have hbe3 := hbe2.trans (hb3.mono (B' := P) (by omega))
          have htv3 := own_later htv2 hb3
          have hfv3 : FormV w3 (P + 1) fv fm := FormV_later hfv (fun t size n v xs h => ownsRow_mono h (by omega))
          have HE : Hid (Rt.rForms (k + 1) (L.drop (k + 1)) (acc ++ [⟨ts, fm, 0, 0, 0⟩]) = Rt.rForms 0 L [Rt.zPL]) := by
            refine hide ?_
            rw [← unhide HT, hdrop, Rt.rForms, Rt.rdLine, ht]
            simp only
            rw [hp]
          have hfv4 := hfv3
          obtain ⟨pv, iv, vv, vs, rfl, b1, b2, b3, _⟩ := hfv3
          obtain ⟨ad1, cap1, rfl⟩ := ownsRow_form b1
          obtain ⟨ad2, cap2, rfl⟩ := ownsRow_form b2
          obtain ⟨ad3, cap3, rfl⟩ := ownsRow_form b3
          have hbF := (Below.refl w3.heap.size w3).alloc (Nat.le_refl _) (.cells #[.int .i64 fm.kind, .string fm.name, .int .i64 fm.cells, .slice ad1 fm.params.length cap1, .slice ad2 fm.index.length cap2, .slice ad3 fm.values.length cap3] 143)
          have hPlt3 := block_lt hpr3.block
          have cP := cell_of_block hpr3.block 0 (by simp)
          simp at cP
          have hown3 := hpr3.own
          have hneP : lv.ownBlock ≠ some P := fun h => by have := (hown3.lt P h).1; omega
          clear hpr2 htx2 hbe2 htv2 hfv b1 b2 b3 hp ht hb2 hb3 hdrop
          have hlen := unhide HA
          have HA2 := hide hlen
          have hb100 : acc.length ≤ 101 := by omega
          clear hlen
          obtain ⟨adl, capl, rfl⟩ := ownsRow_form hown3
          go_wp2_with fail
          go_region_law
            ((refine step_append_lies _ (by rfl) _ _ _ (by rfl) (P + 1) 145 i0 _ 12 168 Tryz.underlying74 hi0 hz0 hz1 hz2 rfl (by omega) _ acc.length cs.flatten (by rfl) (((hown3.alloc _).alloc _).drew)
                ⟨w3.heap.size + 1, 0, none⟩ 1 1 [.slice adt ts.length capt, .int .i64 fm.kind, .string fm.name, .int .i64 fm.cells, .slice ad1 fm.params.length cap1, .slice ad2 fm.index.length cap2, .slice ad3 fm.values.length cap3, .int .i64 0, .int .i64 0, .int .i64 0, .int .i64 0, .int .i64 0] (by rfl) (by rfl)
                (World.news_of_block (cs := #[.slice adt ts.length capt, .int .i64 fm.kind, .string fm.name, .int .i64 fm.cells, .slice ad1 fm.params.length cap1, .slice ad2 fm.index.length cap2, .slice ad3 fm.values.length cap3, .int .i64 0, .int .i64 0, .int .i64 0, .int .i64 0, .int .i64 0]) (t := 145) (fr := (0, 0)) (alloc2_new w3 _ _)) (by simp [Value.oneCell'])
                (by omega) (by unfold maxLen; omega) (by omega) (by simp; omega) (w3.heap.size + 2) (by simp) ?_; intro gg capg w4 hown4 hgrow hat hlt4; obtain ⟨hfar, hfz⟩ := far_cell hpr3.block ((hbF.alloc (by simp) _).drew) hgrow hneP))
          all_goals
            have hfin := hpr3.push (p := ⟨ts, fm, 0, 0, 0⟩) ⟨.slice adt ts.length capt, _, 0, 0, rfl, htv3, hfv4⟩ ((hbF.alloc (by simp) _).drew) hown4 hgrow
            have hfinx := own_after hpr3 ((hbF.alloc (by simp) _).drew) hgrow htx3 (by decide) (.slice (some ⟨gg, 0, none⟩) (acc.length + 1) capg)
            have HF := hide (And.intro hfin (And.intro hfinx hbe3))
            clear hfin hfinx hgrow hown4 hpr3 htx3 hbe3 htv3 hfv4 hbF hown3 hfar hfz hat hlt4 hneP cP
            go_wp2_with fail
            go_roundw
            case rel =>
              obtain ⟨⟨q1, q2⟩, q3, q4⟩ := unhide HF
              exact ⟨k + 1, _, _, _, by omega, by go_num, by simp; exact unhide HA2, unhide HE, q1, (fun c hc => by rcases List.mem_append.mp hc with hc | hc; exact unhide HLK c hc; rw [List.mem_singleton.mp hc]; exact ⟨rfl, rfl⟩), q3, q4.trans q2⟩
            case measure => simp [intOf]; omega
        · have HE : Hid (Rt.rForms 0 L [Rt.zPL] = (k + 1, acc)) := by
            refine hide ?_
            rw [← unhide HT, hdrop, Rt.rForms, Rt.rdLine, ht]
            simp only
            rw [hp]
          have HB := hide ((hbe2.trans (hb3.mono (B' := P) (by have := hb2.size; omega))).alloc (by have := hb2.size; have := hb3.size; omega) (.cells zForm 143))
          clear hpr2 htx2 hbe2 htv2 hb3 hb2 ht hp hdrop
          go_wp2_with fail
          go_ret2
          have hE := unhide HE
          rw [← unhide HL] at hE
          refine ⟨unhide HB, Or.inr ⟨by rw [hE]; simp, by rw [hE]; simp, by have := (unhide HB).size; omega⟩⟩
    · have HE : Hid (Rt.rForms 0 L [Rt.zPL] = (0, acc)) := by
        refine hide ?_
        rw [← unhide HT, List.drop_eq_nil_of_le (by omega), Rt.rForms]
      have hlt' : ¬ (k : Int) < (L.length : Int) := by omega
      have HF := hide (And.intro hpr hbe)
      clear hpr htx hbe
      go_wp2_with fail
      go_ret2
      have hE := unhide HE
      rw [← unhide HL] at hE
      obtain ⟨q1, q2⟩ := unhide HF
      exact ⟨q2, Or.inl ⟨by rw [hE], rfl, lv, cs, by rw [hE]; exact q1, unhide HLK⟩⟩
theorem Blk_dec (bs : List Rt.Blk) : bs = [] ∨ ∃ pre b, bs = pre ++ [b] := by
  rcases List.eq_nil_or_concat bs with h | ⟨pre, b, h⟩
  · exact Or.inl h
  · exact Or.inr ⟨pre, b, by simpa using h⟩
structure NestS (w : World) (S : Nat) (bs : List Rt.Blk) (bv : Value) : Prop where
  block : w.heap[S]? = some (.cells #[bv] 181 (0, 0))
  own : w.ownsRow (S + 1) 212 3 bv bs.length (Rt.blksCells bs)
theorem NestS.later {w w' : World} {S : Nat} {bs : List Rt.Blk} {bv : Value} (h : NestS w S bs bv) (hb : Below w.heap.size w w') : NestS w' S bs bv := ⟨block_later h.block hb, own_later h.own hb⟩
theorem NestS.last {w : World} {S : Nat} {pre : List Rt.Blk} {b : Rt.Blk} {bv : Value} (h : NestS w S (pre ++ [b]) bv) :
    ∃ g cap, bv = .slice (some ⟨g, 0, none⟩) (pre.length + 1) cap ∧ S < g ∧ w.cell? ⟨g, pre.length * 3, none⟩ = some (.int .i64 b.line) ∧ w.cell? ⟨g, pre.length * 3 + 1, none⟩ = some (.int .i64 b.kind) ∧ w.cell? ⟨g, pre.length * 3 + 2, none⟩ = some (.bool b.els) := by
  have hl := Rt.blksCells_length pre
  have e0 : (Rt.blksCells (pre ++ [b]))[pre.length * 3]? = some (.int .i64 b.line) := by rw [Rt.blksCells_snoc, ← hl]; simp
  have e1 : (Rt.blksCells (pre ++ [b]))[pre.length * 3 + 1]? = some (.int .i64 b.kind) := by rw [Rt.blksCells_snoc, ← hl]; simp
  have e2 : (Rt.blksCells (pre ++ [b]))[pre.length * 3 + 2]? = some (.bool b.els) := by rw [Rt.blksCells_snoc, ← hl]; simp
  obtain ⟨g, cap, rfl, hg, _, c0⟩ := own_cell h.own e0
  obtain ⟨_, _, h1, _, _, c1⟩ := own_cell h.own e1
  obtain ⟨_, _, h2, _, _, c2⟩ := own_cell h.own e2
  simp at h1 h2
  obtain ⟨rfl, _⟩ := h1
  obtain ⟨rfl, _⟩ := h2
  exact ⟨_, cap, by simp, by omega, c0, c1, c2⟩
theorem lastOr_snoc (pre : List Rt.Blk) (b : Rt.Blk) : Rt.lastOr (pre ++ [b]) = b := by simp [Rt.lastOr]
theorem wrapm1 (m : Nat) (h : m + 1 ≤ 1000) : IntKind.i64.wrap ((m : Int) + 1 - 1) = (m : Int) := by
  rw [show (m : Int) + 1 - 1 = (m : Int) by omega, IntWalk.i64_left, IntWalk.wrap64_in _ (by omega)]
theorem wrapm0 (m : Nat) (h : m + 1 ≤ 1000) : IntKind.i64.wrap (m : Int) = (m : Int) := by
  rw [IntWalk.i64_left, IntWalk.wrap64_in _ (by omega)]
set_option maxHeartbeats 1000000 in
theorem admits_any (w : World) (S : Nat) (bs : List Rt.Blk) (bv : Value) (kind : Int) (h : NestS w S bs bv) (hlen : bs.length ≤ 1000) :
    Calls Tryz.prog 123 #[.pointer (some ⟨S, 0, none⟩), .int .i64 kind] w fun e w' => e = .returned (.bool (Rt.adm bs kind)) ∧ Below w.heap.size w w' := by
  have c0 := cell_of_block h.block 0 (by simp)
  simp at c0
  by_cases k0 : kind = 0
  · have k0' : (kind == 0) = true := by simpa using k0
    have HE := hide (show Rt.adm bs kind = true by simp [Rt.adm, k0])
    clear k0 h
    go_enter Tryz.func123, Tryz.ntmps123
    go_wp2_with fail
    go_ret
    exact ⟨by rw [unhide HE]; simp, Below.refl _ _⟩
  have k0' : (kind == 0) = false := by simpa using k0
  rcases Blk_dec bs with rfl | ⟨pre, b, rfl⟩
  · obtain ⟨ad, cap, rfl⟩ := ownsRow_form h.own
    simp only [List.length_nil] at c0
    by_cases k1 : kind = 1
    · have k1' : (kind == 1) = true := by simpa using k1
      have HE := hide (show Rt.adm [] kind = true by simp [Rt.adm, k1])
      clear k0 k1 h
      go_enter Tryz.func123, Tryz.ntmps123
      go_wp2_with fail
      go_ret
      exact ⟨by rw [unhide HE]; simp, Below.refl _ _⟩
    have k1' : (kind == 1) = false := by simpa using k1
    by_cases k2 : kind = 2
    · have k2' : (kind == 2) = true := by simpa using k2
      have HE := hide (show Rt.adm [] kind = true by simp [Rt.adm, k2])
      clear k0 k1 k2 h
      go_enter Tryz.func123, Tryz.ntmps123
      go_wp2_with fail
      go_ret
      exact ⟨by rw [unhide HE]; simp, Below.refl _ _⟩
    have k2' : (kind == 2) = false := by simpa using k2
    by_cases k3 : kind = 3
    · have k3' : (kind == 3) = true := by simpa using k3
      have HE := hide (show Rt.adm [] kind = true by simp [Rt.adm, k3])
      clear k0 k1 k2 k3 h
      go_enter Tryz.func123, Tryz.ntmps123
      go_wp2_with fail
      go_ret
      exact ⟨by rw [unhide HE]; simp, Below.refl _ _⟩
    have k3' : (kind == 3) = false := by simpa using k3
    have HE := hide (show Rt.adm [] kind = false by simp [Rt.adm, k0, k1, k2, k3])
    clear k0 k1 k2 k3 h
    go_enter Tryz.func123, Tryz.ntmps123
    go_wp2_with fail
    go_ret
    exact ⟨by rw [unhide HE]; simp, Below.refl _ _⟩
  · obtain ⟨g, cap, rfl, hg, d0, d1, d2⟩ := h.last
    have hlen' : pre.length + 1 ≤ 1000 := by simpa using hlen
    have hz : (((pre.length : Int) + 1) == 0) = false := by rw [beq_eq_false_iff_ne]; omega
    by_cases k1 : kind = 1
    · have k1' : (kind == 1) = true := by simpa using k1
      have HE := hide (show Rt.adm (pre ++ [b]) kind = false by simp [Rt.adm, k1])
      clear k0 k1 h
      go_enter Tryz.func123, Tryz.ntmps123
      go_wp2_with fail
      go_ret
      exact ⟨by rw [unhide HE]; simp, Below.refl _ _⟩
    have k1' : (kind == 1) = false := by simpa using k1
    by_cases k2 : kind = 2
    · have k2' : (kind == 2) = true := by simpa using k2
      have HE := hide (show Rt.adm (pre ++ [b]) kind = false by simp [Rt.adm, k2])
      clear k0 k1 k2 h
      go_enter Tryz.func123, Tryz.ntmps123
      go_wp2_with fail
      go_ret
      exact ⟨by rw [unhide HE]; simp, Below.refl _ _⟩
    have k2' : (kind == 2) = false := by simpa using k2
    by_cases k3 : kind = 3
    · have k3' : (kind == 3) = true := by simpa using k3
      have HE := hide (show Rt.adm (pre ++ [b]) kind = false by simp [Rt.adm, k3])
      clear k0 k1 k2 k3 h
      go_enter Tryz.func123, Tryz.ntmps123
      go_wp2_with fail
      go_ret
      exact ⟨by rw [unhide HE]; simp, Below.refl _ _⟩
    have k3' : (kind == 3) = false := by simpa using k3
    by_cases k6 : kind = 6
    · have k6' : (kind == 6) = true := by simpa using k6
      have HE := hide (show Rt.adm (pre ++ [b]) kind = (decide (b.kind = 5) && !b.els) by simp [Rt.adm, k6, lastOr_snoc])
      clear k0 k1 k2 k3 k6 h
      generalize pre.length = m at *
      have hm0 : (0 : Int) ≤ (m : Int) := by omega
      have hm1 : (m : Int) < (m : Int) + 1 := by omega
      have hm2 : (m : Int) ≤ 1000 := by omega
      have hm3 := wrapm1 m hlen'
      have hm4 := wrapm0 m hlen'
      go_enter Tryz.func123, Tryz.ntmps123
      go_wp2_with fail
      go_region_held3 (fun w' => w'.cell? ⟨S, 0, none⟩ = some (.slice (some ⟨g, 0, none⟩) (m + 1) cap) ∧ w'.cell? ⟨g, m * 3, none⟩ = some (.int .i64 b.line) ∧ w'.cell? ⟨g, m * 3 + 1, none⟩ = some (.int .i64 b.kind) ∧ w'.cell? ⟨g, m * 3 + 2, none⟩ = some (.bool b.els)) (go_keep) (fail)
      go_wp2_with fail
      all_goals
        go_ret
        exact ⟨by rw [unhide HE]; simp_all, ((Below.refl _ _).alloc (Nat.le_refl _) _).drew⟩
    · have k6' : (kind == 6) = false := by simpa using k6
      have HE := hide (show Rt.adm (pre ++ [b]) kind = true by simp [Rt.adm, k0, k1, k2, k3, k6])
      clear k0 k1 k2 k3 k6 h
      go_enter Tryz.func123, Tryz.ntmps123
      go_wp2_with fail
      go_ret
      exact ⟨by rw [unhide HE]; simp, Below.refl _ _⟩
end Go.Proofs.YthleadfkfnnadaaGreat
