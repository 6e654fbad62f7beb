/- The law's world, whatever sessions it holds: lists of the caller's. -/
import Derived.Deep.AppendSrc
import Derived.Test.YthleadfkfnnadaaGreatRfDefs
import Derived.Laws.CopyOwn
import Derived.OwnWalk
import Derived.Test.YthleadfkfnnadaaGreatLawC
namespace Go.Proofs.YthleadfkfnnadaaGreat
open Go.RowKit
def Ints (w : World) (v : Value) (xs : List Int) : Prop :=
  ∃ ad cap, v = .slice ad xs.length cap ∧ (xs = [] ∨ ∃ b o, ad = some ⟨b, o, none⟩ ∧ ∀ j (h : j < xs.length), w.cell? ⟨b, o + j, none⟩ = some (.int .i64 xs[j]))
theorem Ints.later {w w' : World} {v : Value} {xs : List Int} (h : Ints w v xs) (hb : Below w.heap.size w w') : Ints w' v xs := by
  obtain ⟨ad, cap, rfl, h⟩ := h
  refine ⟨ad, cap, rfl, ?_⟩
  rcases h with h | ⟨b, o, rfl, h⟩
  · exact Or.inl h
  · exact Or.inr ⟨b, o, rfl, fun j hj => cell_later hb (h j hj)⟩
theorem Ints.get {w : World} {v : Value} {xs : List Int} (h : Ints w v xs) {j : Nat} (hj : j < xs.length) : ∃ b o cap, v = .slice (some ⟨b, o, none⟩) xs.length cap ∧ w.cell? ⟨b, o + j, none⟩ = some (.int .i64 xs[j]) := by
  obtain ⟨ad, cap, rfl, h⟩ := h
  rcases h with h | ⟨b, o, rfl, h⟩
  · rw [h] at hj; simp at hj
  · exact ⟨b, o, cap, rfl, h j hj⟩
section
variable {P : Program} (w : World)
theorem run_append_any (base : Nat) (t tx ty e : TypeId) (i : TypeInfo) (z : Value) (ht : P.underlying t = some (.slice e)) (hi : P.info? e = some i) (hz : i.zero = some z)
    (hsize : i.size = 1) (hby : i.bytes ≤ 8) (hzs : z.cells.size = 1)
    (v : Value) (n : Nat) (xs : List Value) (hown : w.ownsRow base e 1 v n xs) (sv : Value) (m : Nat) (news : List Value) (hs : Src P 1 tx sv m news w)
    (h63 : (n + m) * 8 ≤ 140737488355328) (hbase : base ≤ w.heap.size) :
    ∃ v' w', (Builtin.append_ #[t, tx] ty #[v, sv]).run P w = .ok v' w' ∧ w'.ownsRow base e 1 v' (n + m) (xs ++ news) ∧ w.grownBy w' v.ownBlock := by
  have hs1 := hs
  rw [← hsize] at hs
  have hl : news.length = m := by simpa using hs1.newsLen
  have hlx : xs.length = n := by simpa using hown.1
  have hlen : (xs ++ news).length = n + m := by rw [List.length_append, hlx, hl]
  have hmx : n + m ≤ maxLen := by unfold maxLen; omega
  have grown : ∀ (old : Nat), old < n + m → ∀ (row : Option Nat),
      (w.drew.alloc (.cells ((xs ++ news).toArray ++ Builtin.zeroCells z.cells (grownCap w (n + m) old e - (n + m))) e)).ownsRow base e 1
        (.slice (some ⟨w.heap.size, 0, none⟩) (n + m) (grownCap w (n + m) old e)) (n + m) (xs ++ news) ∧
      w.grownBy (w.drew.alloc (.cells ((xs ++ news).toArray ++ Builtin.zeroCells z.cells (grownCap w (n + m) old e - (n + m))) e)) row := by
    intro old ho row
    have hge := grownCap_ge w (n + m) old e
    have hcm : grownCap w (n + m) old e ≤ maxLen := grownCap_le_maxLen w (n + m) old e hmx
    refine ⟨⟨by rw [hlen]; simp, .inr ⟨w.heap.size, _, _, rfl, hbase, heap_alloc_new w.drew _, hge, hcm, ?_, ?_⟩⟩, ⟨rfl, rfl, rfl, by simp, fun k hk _ => heap_alloc_old w.drew _ hk⟩⟩
    · simp only [Array.size_append, List.size_toArray, size_zeroCells, hzs, hlen]
      omega
    · simp only [Array.toList_append, Nat.mul_one]
      rw [← hlen]
      exact List.take_left
  rcases hown.2 with ⟨rfl, rfl⟩ | ⟨g, cap, cur, rfl, hbg, hg, hnc, hcm, hcs, htake⟩
  · have hx0 : xs = [] := List.eq_nil_of_length_eq_zero hlx
    subst hx0
    by_cases hm : m = 0
    · have hn : news = [] := List.eq_nil_of_length_eq_zero (by rw [hl]; exact hm)
      refine ⟨.slice none 0 0, w, ?_, ?_, ⟨rfl, rfl, rfl, Nat.le_refl _, fun _ _ _ => rfl⟩⟩
      · have h0 := hs.len
        have h1 := hs.cells
        rw [hm, hn] at h1
        rcases hs.kind with ⟨e', hk⟩ | hk <;> simp [Builtin.append_, run_underlying ht, run_underlying hk, sizeOf, typeInfo, hi, hs.len, hm, h1]
      · rw [hm, hn]
        exact World.ownsRow_nil w base e 1
    · have hr := run_append_grow_src (P := P) w t tx ty e i z ht hi hz none 0 0 [] (run_firstCells_none w.drew i.size 0 0 0) (sv) m news hs (by omega) (by omega) (growslice_fits (by omega) (Nat.le_trans (Nat.mul_le_mul_left _ hby) h63))
      have hgr := grown 0 (by omega) (Value.ownBlock (.slice none 0 0))
      simp only [Nat.zero_add, List.nil_append] at hgr hr ⊢
      exact ⟨_, _, hr, hgr.1, hgr.2⟩
  · by_cases hroom : n + m ≤ cap
    · have hst := run_storeCells_at P g n e news 0 cur w hg (by rw [hl, hcs]; omega) hs.one
      simp only [Nat.add_zero] at hst
      have hcl := hs.cells
      rw [hsize] at hcl
      refine ⟨.slice (some ⟨g, 0, none⟩) (n + m) cap, w.setRow g (cur.toList.take n ++ news ++ cur.toList.drop (n + news.length)).toArray, ?_, ⟨by rw [hlen]; simp, .inr ⟨g, cap, _, rfl, hbg, setRow_heap w g cur _ e _ hg, hroom, hcm, ?_, ?_⟩⟩, ⟨rfl, rfl, rfl, by simp, fun k _ hk => setRow_other w g k _ (fun e => hk (by simp [Value.ownBlock, e]))⟩⟩
      · rcases hs.kind with ⟨e', hk⟩ | hk <;> simp [Builtin.append_, run_underlying ht, run_underlying hk, sizeOf, typeInfo, hi, hs.len, hroom, hcl, Addr.add_lit, hsize, hst]
      · simp only [List.size_toArray, List.length_append, List.length_take, List.length_drop, Array.length_toList]
        omega
      · rw [Nat.mul_one] at htake ⊢
        rw [htake, ← hlen]
        exact List.take_left
    · have holds : ∀ j u, xs[j]? = some u → w.cell? ((⟨g, 0, none⟩ : Addr).add j) = some u := hown.cells (g := g) rfl
      have hr := run_append_grow_src (P := P) w t tx ty e i z ht hi hz (some ⟨g, 0, none⟩) n cap xs (run_firstCells_some (P := P) w.drew i.size n ⟨g, 0, none⟩ n cap xs (by rw [hlx, hsize]; simp) (by simpa using holds)) (sv) m news hs (by omega) (by omega) (growslice_fits (by omega) (Nat.le_trans (Nat.mul_le_mul_left _ hby) h63))
      have hgr := grown cap (by omega) (Value.ownBlock (.slice (some ⟨g, 0, none⟩) n cap))
      exact ⟨_, _, hr, hgr.1, hgr.2⟩
theorem wpList_append_any {ops : Array Oper} {rest : List Oper} {o : Oper} {a : Act} {Q : Exit → Act → World → Prop} (hgd : o.guard = none) (r x : Operand) (t tx : TypeId)
    (ho : o.op = .call { callee := .builtin .append, args := #[r, x], argTypes := #[t, tx] })
    (base : Nat) (e : TypeId) (i : TypeInfo) (z : Value) (ht : P.underlying t = some (.slice e)) (hi : P.info? e = some i) (hz : i.zero = some z)
    (hsize : i.size = 1) (hby : i.bytes ≤ 8) (hzs : z.cells.size = 1)
    (v : Value) (n : Nat) (xs : List Value) (hs : a.eval r = v) (hown : w.ownsRow base e 1 v n xs) (sv : Value) (m : Nat) (news : List Value) (hxs : a.eval x = sv) (hsrc : Src P 1 tx sv m news w)
    (h63 : (n + m) * 8 ≤ 140737488355328) (hbase : base ≤ w.heap.size)
    (h : ∀ v' w', w'.ownsRow base e 1 v' (n + m) (xs ++ news) → w.grownBy w' v.ownBlock → wpList P ops Q rest (a.put o.dst v') w') : wpList P ops Q (o :: rest) a w := by
  refine wpList_plain hgd fun _ hK => ?_
  obtain ⟨v', w', hr, h2, h3⟩ := run_append_any (P := P) w base t tx o.type e i z ht hi hz hsize hby hzs v n xs hown sv m news hsrc h63 hbase
  unfold Oper.wp execOp
  simp only [ho, resolve, invoke, builtin, Sem.run_bind, Sem.run_pure, Result.andThen_ok, List.map_toArray, List.map_cons, List.map_nil, hs, hxs, hr]
  exact hK _ _ (h v' w' h2 h3)
end
theorem Ints.src {w : World} {v : Value} {xs : List Int} (h : Ints w v xs) : Src Tryz.prog 1 24 v xs.length (xs.map (Value.int .i64)) w := by
  obtain ⟨ad, cap, rfl, h⟩ := h
  have one : ∀ u ∈ xs.map (Value.int .i64), u.oneCell' = true := fun u hu => by
    obtain ⟨_, _, rfl⟩ := List.mem_map.1 hu
    rfl
  rcases h with rfl | ⟨b, o, rfl, h⟩
  · cases ad with
    | none => exact Src.ofNil w Tryz.underlying24 cap
    | some a => exact Src.ofSlice w Tryz.underlying24 a 0 cap [] rfl (fun j u hj => by simp at hj) (fun _ h => by cases h)
  · refine Src.ofSlice w Tryz.underlying24 ⟨b, o, none⟩ xs.length cap _ (by simp) (fun j u hj => ?_) one
    obtain ⟨hj', rfl⟩ := List.getElem?_eq_some_iff.mp hj
    have hjl : j < xs.length := by simpa using hj'
    have := h j hjl
    rw [Addr.add_lit]
    simpa using this
theorem Ints.form {w : World} {v : Value} {xs : List Int} (h : Ints w v xs) : ∃ ad cap, v = .slice ad xs.length cap := by
  obtain ⟨ad, cap, rfl, _⟩ := h
  exact ⟨ad, cap, rfl⟩
set_option maxHeartbeats 2000000 in
set_option maxRecDepth 100000 in
theorem sameInts_eq (w : World) (va vb : Value) (a : List Int) (ha : Ints w va a) (hb : Ints w vb a) (hl : a.length ≤ 35184372088832) :
    Calls Tryz.prog 28 #[va, vb] w fun e w' => e = .returned (.bool true) ∧ Below w.heap.size w w' := by
  have HA := hide ha
  have HB := hide hb
  obtain ⟨ad, ca, rfl⟩ := ha.form
  obtain ⟨bd, cb, rfl⟩ := hb.form
  clear ha hb
  go_enter Tryz.func28, Tryz.ntmps28
  go_wp2_with fail
  go_loopw [5] (fun i wr => ∃ k : Nat, k ≤ a.length ∧ i = .int .i64 k ∧ Below w.heap.size w wr) (fun i _ => a.length - (intOf i).toNat)
  case atStart => exact ⟨0, Nat.zero_le _, rfl, Below.refl _ _⟩
  case round =>
    obtain ⟨k, hk, rfl, hbe⟩ := hrel
    by_cases hlt : k < a.length
    · have hlt' : (k : Int) < (a.length : Int) := by omega
      have hk0 : (0 : Int) ≤ (k : Int) := by omega
      obtain ⟨b1, o1, c1, e1, cx⟩ := ((unhide HA).later hbe).get hlt
      obtain ⟨b2, o2, c2, e2, cy⟩ := ((unhide HB).later hbe).get hlt
      simp only [Value.slice.injEq, true_and] at e1 e2
      obtain ⟨rfl, rfl⟩ := e1
      obtain ⟨rfl, rfl⟩ := e2
      have HBE := hide hbe
      clear hbe
      generalize a[k] = x at *
      go_wp2_with fail
      go_region_held3 (fun w' => w'.cell? ⟨b1, o1 + k, none⟩ = some (.int .i64 x) ∧ w'.cell? ⟨b2, o2 + k, none⟩ = some (.int .i64 x)) (go_keep) (fail)
      go_wp2_with fail
      go_roundw
      case rel => exact ⟨k + 1, by omega, by go_num, (unhide HBE).trans ((below_to_drew _).mono (unhide HBE).size)⟩
      case measure => simp [intOf]; omega
    · have hlt' : ¬ (k : Int) < (a.length : Int) := by omega
      go_wp2_with fail
      go_ret
      exact ⟨rfl, hbe⟩
theorem below_put {B N : Nat} {w w1 : World} (h : Below B w w1) (hN : B ≤ N) (i : Nat) (v : Value) : Below B w (w1.setCell ⟨N, i, none⟩ v) :=
  h.trans ⟨rfl, rfl, rfl, by simp [World.setCell], fun k hk => Below.heap_setCell w1 ⟨N, i, none⟩ _ k (by show k ≠ N; omega)⟩
def handA (l : List Int) : Array Value := ((l ++ [-7777, -7777]).map (Value.int .i64)).toArray
set_option maxHeartbeats 2000000 in
set_option maxRecDepth 100000 in
theorem handed_ref (w : World) (v : Value) (l : List Int) (h : Ints w v l) (hl : l.length ≤ 17592186044416) :
    Calls Tryz.prog 24 #[v] w fun e w' => Below w.heap.size w w' ∧ ∃ g, w.heap.size ≤ g ∧ e = .returned (.slice (some ⟨g, 0, none⟩) l.length (l.length + 2)) ∧ w'.heap[g]? = some (.cells (handA l) 3 (0, 0)) := by
  obtain ⟨i0, hi0, hz0, hz1, hz2⟩ := info_parts Tryz.infoInt
  have HH := hide h
  obtain ⟨ad, ca, rfl⟩ := h.form
  clear h
  obtain ⟨w1, hrun, hown, hgrow⟩ := run_make_full (P := Tryz.prog) w w.heap.size 24 3 i0 _ 1 Tryz.underlying24 hi0 hz0 hz1 .i64 .i64 (l.length + 2) (by rw [hz2]; omega) (by unfold maxLen; omega) (Nat.le_refl _)
  have hrun' : (Instr.makeSlice 24 (.int .i64 ((l.length : Int) + 2)) (.int .i64 ((l.length : Int) + 2))).run Tryz.prog w = .ok (.slice (some ⟨w.heap.size, 0, none⟩) (l.length + 2) (l.length + 2)) w1 := hrun
  clear hrun
  generalize (madeCells (Value.int IntKind.i64 0).cells ((l.length + 2) * 1)).toList = xs at *
  have hb1 : Below w.heap.size w w1 := ⟨hgrow.os, hgrow.tape, hgrow.output, hgrow.size, fun k hk => hgrow.block k hk (by simp)⟩
  have hxl : xs.length = l.length + 2 := by have := hown.1; omega
  have hblk : w1.heap[w.heap.size]? = some (.cells xs.toArray 3 (0, 0)) := by
    rcases hown.2 with ⟨h', _⟩ | ⟨g, cap, cur, hv, _, hg, _, _, hcs, htake⟩
    · cases h'
    · injection hv with e1 _ e2
      injection e1 with e1
      injection e1 with e1
      subst e1 e2
      rw [hg]
      congr 1
      congr 1
      apply Array.ext'
      simp only [Nat.mul_one] at htake hcs
      rw [← htake, List.take_of_length_le (by simp [hcs])]
  have HX := hide hxl
  clear hown hgrow hxl
  obtain ⟨cs, hcs⟩ : ∃ cs, cs = l.map (Value.int .i64) := ⟨_, rfl⟩
  have hcl : cs.length = l.length := by rw [hcs]; simp
  have HCS := hide hcs
  clear hcs
  have hcopy : ∃ w2 L, (Builtin.copy_ #[24, 24] 3 #[.slice (some ⟨w.heap.size, 0, none⟩) (l.length + 2) (l.length + 2), .slice ad l.length ca]).run Tryz.prog w1 = .ok (goInt l.length) w2 ∧ Below w.heap.size w w2 ∧ w2.heap[w.heap.size]? = some (.cells (List.toArray L) 3 (0, 0)) ∧ L = cs ++ xs.drop l.length := by
    have hsz : (Tryz.prog.info? 3).map (·.size) = some 1 := by rw [hi0]; simp [hz1]
    by_cases h0 : l.length = 0
    · refine ⟨w1, xs, ?_, hb1, hblk, ?_⟩
      · rw [h0]
        exact run_copy_none w1 _ _ _ 3 _ _ _ _ _ _ Tryz.underlying24 hsz (by simp)
      · have : cs = [] := List.eq_nil_of_length_eq_zero (by omega)
        rw [this, h0]; simp
    · obtain ⟨ad', cap', he, hcase⟩ := (unhide HH).later hb1
      simp only [Value.slice.injEq, true_and] at he
      obtain ⟨rfl, rfl⟩ := he
      rcases hcase with e | ⟨b, o, rfl, hc⟩
      · rw [e] at h0; simp at h0
      · have hr := run_copy_row (P := Tryz.prog) w1 24 24 3 3 w.heap.size 0 (l.length + 2) (l.length + 2) ⟨b, o, none⟩ l.length ca xs.toArray 3 cs Tryz.underlying24 hsz hblk (by rw [hcl]; exact (Nat.min_eq_left (by omega)).symm) (fun j u hj => by
          rw [unhide HCS] at hj
          obtain ⟨hj', rfl⟩ := List.getElem?_eq_some_iff.mp hj
          have hjl : j < l.length := by simpa using hj'
          rw [Addr.add_lit]
          simpa using hc j hjl) (by simp [hcl, unhide HX]) (fun u hu => by
          rw [unhide HCS] at hu
          obtain ⟨_, _, rfl⟩ := List.mem_map.1 hu
          rfl)
        rw [hcl] at hr
        refine ⟨_, _, hr, below_setRow hb1 (Nat.le_refl _) _, setRow_heap w1 _ _ _ _ _ hblk, ?_⟩
        simp
  obtain ⟨w2, L, hrun2, hb2, hsp, hLe⟩ := hcopy
  have hL : ∃ a b, L = cs ++ [a, b] := by
    have hd : (xs.drop l.length).length = 2 := by rw [List.length_drop, unhide HX]; omega
    rw [hLe]
    match hm : xs.drop l.length, hd with
    | [a, b], _ => exact ⟨a, b, rfl⟩
  clear hLe
  obtain ⟨a, b, hab⟩ := hL
  rw [hab] at hsp
  have cn : w2.cell? ⟨w.heap.size, l.length, none⟩ = some a := by
    have := cell_of_block hsp l.length (by simp [hcl])
    rw [this]
    simp [← hcl]
  have cn1 : w2.cell? ⟨w.heap.size, l.length + 1, none⟩ = some b := by
    have := cell_of_block hsp (l.length + 1) (by simp [hcl])
    rw [this]
    simp [← hcl]
  have z := free_of_block hsp
  have HF := hide (And.intro (below_put (below_put hb2 (Nat.le_refl _) l.length (.int .i64 (-7777))) (Nat.le_refl _) (l.length + 1) (.int .i64 (-7777))) (show ((w2.setCell ⟨w.heap.size, l.length, none⟩ (.int .i64 (-7777))).setCell ⟨w.heap.size, l.length + 1, none⟩ (.int .i64 (-7777))).heap[w.heap.size]? = some (.cells (handA l) 3 (0, 0)) by
    rw [set_block (set_block hsp _ _)]
    congr 1
    congr 1
    unfold handA
    rw [List.map_append, ← unhide HCS]
    apply Array.ext'
    simp only [Array.toList_setIfInBounds]
    rw [← hcl, List.set_append_right _ _ (Nat.le_refl _), Nat.sub_self, List.set_append_right _ _ (by omega), show cs.length + 1 - cs.length = 1 by omega]
    rfl))
  clear hsp hab hb2 hblk hb1
  have h1 : (l.length : Int) < (l.length : Int) + 2 := by omega
  have h2 : (l.length : Int) + 1 < (l.length : Int) + 2 := by omega
  have h0 : (0 : Int) ≤ (l.length : Int) := by omega
  go_enter Tryz.func24, Tryz.ntmps24
  go_wp2_with fail
  go_ret
  exact ⟨(unhide HF).1, _, Nat.le_refl _, rfl, (unhide HF).2⟩
theorem handA_ints {w : World} {g : Nat} {l : List Int} (h : w.heap[g]? = some (.cells (handA l) 3 (0, 0))) (c : Nat) : Ints w (.slice (some ⟨g, 0, none⟩) l.length c) l := by
  refine ⟨_, _, rfl, Or.inr ⟨g, 0, rfl, fun j hj => ?_⟩⟩
  rw [Nat.zero_add, cell_of_block h j (by simp [handA]; omega)]
  unfold handA
  simp only [List.getElem_toArray, List.getElem_map]
  rw [List.getElem_append_left hj]
theorem handA_row {w : World} {g B : Nat} {l : List Int} (h : w.heap[g]? = some (.cells (handA l) 3 (0, 0))) (hB : B ≤ g) (hl : l.length + 2 ≤ maxLen) : w.ownsRow B 3 1 (.slice (some ⟨g, 0, none⟩) l.length (l.length + 2)) l.length (ints l) := by
  refine ⟨by simp [ints], Or.inr ⟨g, l.length + 2, handA l, rfl, hB, h, by omega, hl, by simp [handA], ?_⟩⟩
  simp [handA, ints]
set_option maxHeartbeats 2000000 in
set_option maxRecDepth 100000 in
theorem still_ref (w : World) (v : Value) (g : Nat) (l : List Int) (hg : w.heap[g]? = some (.cells (handA l) 3 (0, 0))) (h : Ints w v l) (hl : l.length ≤ 17592186044416) :
    Calls Tryz.prog 26 #[.slice (some ⟨g, 0, none⟩) l.length (l.length + 2), v] w fun e w' => e = .returned (.bool true) ∧ Below w.heap.size w w' := by
  have HG := hide hg
  have HH := hide h
  obtain ⟨ad, ca, rfl⟩ := h.form
  clear hg h
  have h1 : (l.length : Int) < (l.length : Int) + 2 := by omega
  have h2 : (l.length : Int) + 1 < (l.length : Int) + 2 := by omega
  have h0 : (0 : Int) ≤ (l.length : Int) := by omega
  have HC : Hid (∀ w', Below w.heap.size w w' → w'.cell? ⟨g, l.length, none⟩ = some (.int .i64 (-7777)) ∧ w'.cell? ⟨g, l.length + 1, none⟩ = some (.int .i64 (-7777))) := hide (fun w' hb => by
    have hh := block_later (unhide HG) hb
    have c1 := cell_of_block hh l.length (by simp [handA])
    have c2 := cell_of_block hh (l.length + 1) (by simp [handA])
    simp [handA] at c1 c2
    exact ⟨c1, c2⟩)
  go_enter Tryz.func26, Tryz.ntmps26
  go_wp2_with fail
  refine (sameInts_eq _ _ _ l (handA_ints (unhide HG) _) (unhide HH) (by omega)).mono ?_
  rintro e w1 ⟨rfl, hb1⟩
  obtain ⟨c1, c2⟩ := unhide HC _ hb1
  have HB := hide hb1
  clear hb1
  go_wp2_with fail
  go_ret
  exact ⟨rfl, unhide HB⟩
structure LG (w : World) (S : Nat) (pv lv : Value) (vs : List Value) : Prop where
  block : w.heap[S]? = some (.cells #[pv, lv] 30 (0, 0))
  own : w.ownsRow (S + 1) 24 1 lv vs.length vs
  each : ∀ k (h : k < vs.length), Over w (S + 1) (-7777 - (k : Int)) vs[k]
theorem LG.later {w w' : World} {S : Nat} {pv lv : Value} {vs : List Value} (h : LG w S pv lv vs) (hb : Below w.heap.size w w') : LG w' S pv lv vs :=
  ⟨block_later h.block hb, own_later h.own hb, fun k hk => (h.each k hk).map (fun _ _ h => own_later h hb)⟩
theorem LG.lt {w : World} {S : Nat} {pv lv : Value} {vs : List Value} (h : LG w S pv lv vs) : ∀ k (hk : k < vs.length) g, vs[k].ownBlock = some g → S + 1 ≤ g ∧ g < w.heap.size := by
  intro k hk g hg
  rcases h.each k hk with e | ⟨g', c, h1, h2, h3⟩
  · rw [e] at hg; cases hg
  · exact h3.lt g hg
theorem LG.grown {w w' : World} {S : Nat} {pv lv : Value} {vs : List Value} {row : Option Nat} (h : LG w S pv lv vs) (hg : w.grownBy w' row) (hS : row ≠ some S) (hl : ∀ g, lv.ownBlock = some g → row ≠ some g) (hv : ∀ k (hk : k < vs.length) g, vs[k].ownBlock = some g → row ≠ some g) : LG w' S pv lv vs := by
  have keep : ∀ {e : TypeId} {size n : Nat} {v : Value} {xs : List Value}, w.ownsRow (S + 1) e size v n xs → (∀ g, v.ownBlock = some g → row ≠ some g) → w'.ownsRow (S + 1) e size v n xs := by
    intro e size n v xs h hne
    obtain ⟨h1, h2⟩ := h
    refine ⟨h1, ?_⟩
    rcases h2 with h2 | ⟨g, cap, cur, hv', hgB, hh, r⟩
    · exact Or.inl h2
    · exact Or.inr ⟨g, cap, cur, hv', hgB, by rw [hg.block g (block_lt hh) (fun e => hne g (by rw [hv']; rfl) e.symm)]; exact hh, r⟩
  exact ⟨by rw [hg.block S (block_lt h.block) (Ne.symm hS)]; exact h.block, keep h.own hl, fun k hk => (h.each k hk).map (fun _ _ h => keep h (hv k hk))⟩
theorem LG.push {w w1 w2 : World} {S : Nat} {pv lv lv' : Value} {vs : List Value} {v : Value} (h : LG w S pv lv vs) (hv : Over w (S + 1) (-7777 - (vs.length : Int)) v) (hb : Below w.heap.size w w1)
    (hown : w2.ownsRow (S + 1) 24 1 lv' (vs.length + 1) (vs ++ [v])) (hgrow : w1.grownBy w2 lv.ownBlock) :
    LG (w2.setCell ⟨S, 1, none⟩ lv') S pv lv' (vs ++ [v]) ∧ Below S w (w2.setCell ⟨S, 1, none⟩ lv') := by
  have hSlt := block_lt h.block
  have hrow : ∀ k, lv.ownBlock = some k → S < k := fun k hk => by have := (h.own.lt k hk).1; omega
  have hkeep : ∀ k, k < w.heap.size → some k ≠ lv.ownBlock → w2.heap[k]? = w.heap[k]? := fun k hk hv => by
    rw [hgrow.block k (Nat.lt_of_lt_of_le hk hb.size) hv]
    exact hb.block k hk
  have hset : ∀ k, k ≠ S → (w2.setCell ⟨S, 1, none⟩ lv').heap[k]? = w2.heap[k]? := fun k hk => Below.heap_setCell w2 ⟨S, 1, none⟩ _ k hk
  have hK : ∀ (n : Nat) (u : Value) (xs : List Value), w.ownsRow (S + 1) 3 1 u n xs → (w2.setCell ⟨S, 1, none⟩ lv').ownsRow (S + 1) 3 1 u n xs := by
    intro n u xs hu
    have hne := own_ne hu h.own (by decide)
    obtain ⟨h1, h2⟩ := hu
    refine ⟨h1, ?_⟩
    rcases h2 with h2 | ⟨g, cap, cur, hv', hg, hh, r⟩
    · exact Or.inl h2
    · exact Or.inr ⟨g, cap, cur, hv', hg, by rw [hset g (by omega), hkeep g (block_lt hh) (fun e => hne g (by rw [hv']; rfl) e.symm)]; exact hh, r⟩
  refine ⟨⟨?_, ?_, fun k hk => ?_⟩, ?_⟩
  · have hbk : w2.heap[S]? = some (.cells #[pv, lv] 30 (0, 0)) := (hkeep S hSlt (fun e => by have := hrow S e.symm; omega)).trans h.block
    have := set_block hbk 1 lv'
    simpa using this
  · rw [List.length_append]
    exact ownsRow_setCell_below hown (by show S < S + 1; omega) _
  · by_cases hk' : k < vs.length
    · rw [List.getElem_append_left hk']
      exact (h.each k hk').map (fun n xs => hK n _ xs)
    · have : k = vs.length := by simp at hk; omega
      subst this
      rw [List.getElem_append_right (Nat.le_refl _)]
      simp only [Nat.sub_self, List.getElem_cons_zero]
      exact hv.map (fun n xs => hK n _ xs)
  · refine ⟨hgrow.os.trans hb.os, hgrow.tape.trans hb.tape, hgrow.output.trans hb.output, ?_, fun k hk => (hset k (by omega)).trans (hkeep k (by omega) (fun e => by have := hrow k e.symm; omega))⟩
    have h1 := hgrow.size
    have h2 := hb.size
    simp [World.setCell]
    omega
theorem law_far2 {w w1 w2 : World} {S : Nat} {pv lv : Value} {row : Option Nat} (hblk : w.heap[S]? = some (.cells #[pv, lv] 30 (0, 0))) (hb : Below w.heap.size w w1) (hgrow : w1.grownBy w2 row) (hr : row ≠ some S) :
    w2.cell? ⟨S, 1, none⟩ = some lv ∧ w2.frozen? ⟨S, 1, none⟩ = false := by
  have hk : w2.heap[S]? = some (.cells #[pv, lv] 30 (0, 0)) := by
    rw [hgrow.block S (Nat.lt_of_lt_of_le (block_lt hblk) hb.size) (Ne.symm hr), hb.block S (block_lt hblk)]
    exact hblk
  exact ⟨cell_of_block hk 1 (by simp), free_of_block hk 1⟩
def OwnG (S : Nat) (pv lv : Value) (vs : List Value) (v : Value) (w : World) (e : Ending) (w' : World) : Prop := e = .returned (.tuple #[]) ∧ Below S w w' ∧ (∀ k, k < w.heap.size → k ≠ S → lv.ownBlock ≠ some k → v.ownBlock ≠ some k → w'.heap[k]? = w.heap[k]?) ∧ ∃ lv' v', LG w' S pv lv' (vs ++ [v']) ∧ v'.ownBlock = v.ownBlock ∧ ∀ g, lv'.ownBlock = some g → lv.ownBlock = some g ∨ w.heap.size ≤ g
set_option maxHeartbeats 2000000 in
set_option maxRecDepth 100000 in
theorem own_ref2 (w : World) (S : Nat) (pv lv : Value) (vs : List Value) (n : Nat) (v : Value) (xs : List Value) (h : LG w S pv lv vs) (hv : w.ownsRow (S + 1) 3 1 v n xs) (hne : ∀ k (hk : k < vs.length) g, vs[k].ownBlock = some g → ¬ v.ownBlock = some g) (hlen : (vs.length + 1) * 24 ≤ 140737488355328) :
    Calls Tryz.prog 29 #[.pointer (some ⟨S, 0, none⟩), v] w (OwnG S pv lv vs v w) := by
  obtain ⟨i0, hi0, hz0, hz1, hz2⟩ := info_parts Tryz.infoInts
  obtain ⟨ad, cap, rfl⟩ := ownsRow_form hv
  obtain ⟨lad, lcap, rfl⟩ := ownsRow_form h.own
  have c1 := cell_of_block h.block 1 (by simp)
  simp at c1
  have hlv := own_ne hv h.own (by decide)
  have hvS : ¬ (Value.slice ad n cap).ownBlock = some S := fun e => by have := (hv.lt S e).1; omega
  have HH := hide h
  have HV := hide hv
  have HNe := hide (And.intro hne (And.intro hlv hvS))
  have hwr : IntKind.i64.wrap (-7777 - (vs.length : Int)) = -7777 - (vs.length : Int) := IntWalk.i64_in _ ⟨by omega, by omega⟩
  clear h hv hne hlv hvS
  go_enter Tryz.func29, Tryz.ntmps29
  go_wp2_with fail
  refine (over_ref _ (S + 1) n _ xs _ (unhide HV)).mono ?_
  rintro e w1 ⟨v1, rfl, ho1, hg1, hb1⟩
  obtain ⟨a1, b1, d1, hv1⟩ : ∃ a b d, v1 = .slice a b d := by
    rcases ho1 with e | ⟨g, c, e, _⟩
    · exact ⟨_, _, _, e⟩
    · exact ⟨_, _, _, e⟩
  subst hv1
  obtain ⟨q1, q2, q3⟩ := unhide HNe
  have hL1 := (unhide HH).grown hg1 q3 (fun g hg e => q2 g e hg) (fun k hk g hg e => q1 k hk g hg e)
  have hbe1 : Below S w w1 := ⟨hg1.os, hg1.tape, hg1.output, hg1.size, fun k hk => hg1.block k (by have := block_lt (unhide HH).block; omega) (fun e => by have := ((unhide HV).lt k e.symm).1; omega)⟩
  have HL1 := hide (And.intro hL1 hbe1)
  have HO1 := hide ho1
  have c1 := cell_of_block hL1.block 1 (by simp)
  simp at c1
  have hown1 := hL1.own
  have hSlt := block_lt hL1.block
  have HG1 := hide (And.intro hg1 hb1)
  clear hg1 hb1 q1 q2 q3 hL1 hbe1 ho1 HNe HV HH
  go_wp2_with (at_builtin; refine wpList_append_lies _ rfl _ _ 28 rfl (S + 1) 24 i0 _ 1 24 Tryz.underlying28 hi0 hz0 hz1 hz2 rfl (by decide) _ _ _ rfl (hown1.alloc _) ⟨_, 0, none⟩ 1 1 [.slice a1 b1 d1] rfl rfl (cell_one_new _ _ _) (by simp [Value.oneCell']) (by omega) (by unfold maxLen; omega) (by omega) (by simp; omega) _ rfl ?_)
  intro g4 cap4 w4 hown4 hgrow hat hlt4
  have hneS : (Value.slice lad vs.length lcap).ownBlock ≠ some S := fun h => by have := (hown1.lt _ h).1; omega
  obtain ⟨hfar, hfz⟩ := law_far2 (unhide HL1).1.block ((Below.refl _ _).alloc (Nat.le_refl _) _) hgrow hneS
  have HF := hide ((unhide HL1).1.push (unhide HO1) ((Below.refl _ _).alloc (Nat.le_refl _) _) hown4 hgrow)
  have HGR := hide (And.intro hgrow hat)
  clear hown4 hgrow hat hlt4 hneS hown1
  go_wp2_with fail
  go_end0
  obtain ⟨f1, f2⟩ := unhide HF
  refine ⟨rfl, (unhide HL1).2.trans f2, fun k hk hkS hkl hkv => ?_, _, _, f1, (unhide HG1).2, fun g hg => ?_⟩
  · have hsz := (unhide HG1).1.size
    rw [Below.heap_setCell w4 ⟨S, 1, none⟩ _ k hkS, (unhide HGR).1.block k (by simp; omega) (Ne.symm hkl), heap_alloc_old w1 _ (by omega), (unhide HG1).1.block k hk (Ne.symm hkv)]
  · simp [Value.ownBlock] at hg
    subst hg
    rcases (unhide HGR).2 with h | h
    · exact Or.inl h
    · have hsz := (unhide HG1).1.size
      exact Or.inr (by omega)
set_option maxHeartbeats 2000000 in
set_option maxRecDepth 100000 in
theorem looks_ref2 (w : World) (S : Nat) (pv lv : Value) (vs : List Value) (h : LG w S pv lv vs) (hlen : (vs.length + 1) * 24 ≤ 140737488355328) :
    Calls Tryz.prog 11 #[.pointer (some ⟨S, 0, none⟩)] w fun e w' => e = .returned (.bool true) ∧ Below w.heap.size w w' := by
  obtain ⟨lad, lcap, rfl⟩ := ownsRow_form h.own
  have HN := hide h
  clear h
  go_enter Tryz.func11, Tryz.ntmps11
  go_wp2
  go_loopw [3] (fun i wr => ∃ k : Nat, k ≤ vs.length ∧ i = .int .i64 k ∧ LG wr S pv (.slice lad vs.length lcap) vs ∧ Below w.heap.size w wr) (fun i _ => vs.length - (intOf i).toNat)
  case atStart => exact ⟨0, Nat.zero_le _, rfl, unhide HN, Below.refl _ _⟩
  case round =>
    obtain ⟨k, hk, rfl, hL, hbe⟩ := hrel
    have c1 := cell_of_block hL.block 1 (by simp)
    simp at c1
    have HL := hide (And.intro hL hbe)
    by_cases hlt : k < vs.length
    · have hlt' : (k : Int) < (vs.length : Int) := by omega
      have hk0 : (0 : Int) ≤ (k : Int) := by omega
      have hov := hL.each k hlt
      obtain ⟨a, n, c, hvf, hn⟩ := hov.form
      obtain ⟨g, cap, he, _, _, cx⟩ := own_cell hL.own (j := k) (u := vs[k]) (by simp)
      simp at he
      obtain ⟨rfl, rfl⟩ := he
      rw [hvf] at cx
      have HOv := hide (show ∀ w', LG w' S pv (.slice (some ⟨g, 0, none⟩) vs.length lcap) vs → Over w' (S + 1) (-7777 - (k : Int)) (.slice a n c) ∧ w'.cell? ⟨g, k, none⟩ = some (.slice a n c) from fun w' h => by
        refine ⟨by rw [← hvf]; exact h.each k hlt, ?_⟩
        obtain ⟨g', cap', he', _, _, cx'⟩ := own_cell h.own (j := k) (u := vs[k]) (by simp)
        simp at he'
        rw [he'.1, ← hvf]; exact cx')
      clear hL hbe hov hvf
      unfold maxLen at hn
      have hwm : IntKind.i64.wrap (-7777 - (k : Int)) = -7777 - (k : Int) := IntWalk.i64_in _ ⟨by omega, by omega⟩
      go_wp2_with fail
      go_loopw [4] (fun j wr2 => ∃ q : Nat, q ≤ n ∧ j = .int .i64 q ∧ LG wr2 S pv (.slice (some ⟨g, 0, none⟩) vs.length lcap) vs ∧ Below w.heap.size w wr2) (fun j _ => n - (intOf j).toNat)
      case atStart => exact ⟨0, Nat.zero_le _, rfl, (unhide HL).1, (unhide HL).2⟩
      case round =>
        obtain ⟨q, hq, rfl, hL2, hbe2⟩ := hrel
        clear c1 cx
        have c1 := cell_of_block hL2.block 1 (by simp)
        simp at c1
        obtain ⟨hov2, cx⟩ := unhide HOv _ hL2
        have HL2 := hide (And.intro hL2 hbe2)
        by_cases hqn : q < n
        · have hq' : (q : Int) < (n : Int) := by omega
          have hq0 : (0 : Int) ≤ (q : Int) := by omega
          obtain ⟨g2, ha2, cy⟩ := hov2.cell hqn
          subst ha2
          clear hL2 hbe2 hov2
          go_wp2_with fail
          go_roundw
          case rel => exact ⟨q + 1, by omega, by go_num, (unhide HL2).1, (unhide HL2).2⟩
          case measure => simp [intOf]; omega
        · have hq' : ¬ (q : Int) < (n : Int) := by omega
          clear hL2 hbe2 hov2
          go_wp2_with fail
          go_roundw
          case rel => exact ⟨k + 1, by omega, by go_num, (unhide HL2).1, (unhide HL2).2⟩
          case measure => simp [intOf]; omega
    · have hlt' : ¬ (k : Int) < (vs.length : Int) := by omega
      clear hL hbe
      go_wp2_with fail
      go_ret
      exact ⟨rfl, (unhide HL).2⟩
end Go.Proofs.YthleadfkfnnadaaGreat
