/- The law's small functions: lists of the caller's. -/
import Derived.Test.YtopeochnoefgcaaGreatRefM
namespace Go.Proofs.YtopeochnoefgcaaGreat
open Go.RowKit

def ints (l : List Int) : List Value := l.map (Value.int .i64)

set_option maxHeartbeats 1000000 in
theorem num_ref (e : Int) (w : World) : Calls Tryz.prog 22 #[.int .i64 e] w fun r w' => r = .returned (.int .i64 e) ∧ w' = w := by
  go_enter Tryz.func22, Tryz.ntmps22
  go_wp2
  go_ret
  exact ⟨rfl, rfl⟩

/-- The numbers of a row can be read. -/
theorem int_cell {w : World} {B n : Nat} {v : Value} {l : List Int} (h : w.ownsRow B 3 1 v n (ints l)) {j : Nat} (hj : j < l.length) : ∃ g cap, v = .slice (some ⟨g, 0, none⟩) n cap ∧ w.cell? ⟨g, j, none⟩ = some (.int .i64 l[j]) := by
  obtain ⟨g, cap, he, _, _, hc⟩ := own_cell h (j := j) (u := .int .i64 l[j]) (by simp [ints, hj])
  exact ⟨g, cap, he, hc⟩

theorem ints_eq_from {a b : List Int} (hn : a.length = b.length) (h : ∀ j (h : j < a.length) (h' : j < b.length), a[j] = b[j]) : a = b := List.ext_getElem hn h

set_option maxHeartbeats 2000000 in
set_option maxRecDepth 100000 in
theorem sameInts_ref (w : World) (B B' : Nat) (va vb : Value) (a b : List Int) (ha : w.ownsRow B 3 1 va a.length (ints a)) (hb : w.ownsRow B' 3 1 vb b.length (ints b)) (hl : a.length ≤ 1000) (hl2 : b.length ≤ 1000) :
    Calls Tryz.prog 30 #[va, vb] w fun e w' => e = .returned (.bool (decide (a = b))) ∧ Below w.heap.size w w' := by
  obtain ⟨ad, ca, rfl⟩ := ownsRow_form ha
  obtain ⟨bd, cb, rfl⟩ := ownsRow_form hb
  by_cases hn : a.length = b.length
  · have hn' : ((a.length : Int) == (b.length : Int)) = true := by rw [beq_iff_eq]; omega
    have HN := hide hn
    clear hn
    go_enter Tryz.func30, Tryz.ntmps30
    go_wp2
    go_loopw [5] (fun i wr => ∃ k : Nat, k ≤ a.length ∧ i = .int .i64 k ∧ (∀ j (h : j < a.length) (h' : j < b.length), j < k → a[j] = b[j]) ∧ wr.ownsRow B 3 1 (.slice ad a.length ca) a.length (ints a) ∧ wr.ownsRow B' 3 1 (.slice bd b.length cb) b.length (ints b) ∧ Below w.heap.size w wr) (fun i _ => a.length - (intOf i).toNat)
    case atStart => exact ⟨0, Nat.zero_le _, rfl, fun j _ _ h => by omega, ha, hb, Below.refl _ _⟩
    case round =>
      obtain ⟨k, hk, rfl, hall, ha2, hb2, hbe⟩ := hrel
      have HX := hide (And.intro hall (And.intro ha2 (And.intro hb2 hbe)))
      by_cases hlt : k < a.length
      · have hlt' : (k : Int) < (a.length : Int) := by omega
        have hlb : k < b.length := by have := unhide HN; omega
        have hlb' : (k : Int) < (b.length : Int) := by omega
        have hk0 : (0 : Int) ≤ (k : Int) := by omega
        obtain ⟨g, cap, he, cx⟩ := int_cell ha2 hlt
        obtain ⟨g', cap', he', cy⟩ := int_cell hb2 hlb
        simp at he he'
        obtain ⟨rfl, rfl⟩ := he
        obtain ⟨rfl, rfl⟩ := he'
        have HE := hide (show a[k] = b[k] → ∀ j (h : j < a.length) (h' : j < b.length), j < k + 1 → a[j] = b[j] from fun e j h h' hj => by
          by_cases hjk : j = k
          · subst hjk; exact e
          · exact hall j h h' (by omega))
        have HF := hide (show ¬ a[k] = b[k] → decide (a = b) = false from fun e => by
          rw [decide_eq_false_iff_not]
          intro hab
          subst hab
          exact e rfl)
        clear hall ha2 hb2 hbe
        generalize a[k] = x at *
        generalize b[k] = y at *
        cases hxy : (x == y) with
        | true =>
          have hx := unhide HE (by simpa using hxy)
          have HE2 := hide hx
          clear hx
          go_wp2_with fail
          go_region_held3 (fun w' => w'.cell? ⟨g, k, none⟩ = some (.int .i64 x) ∧ w'.cell? ⟨g', k, none⟩ = some (.int .i64 y)) (go_keep) (fail)
          go_wp2_with fail
          go_roundw
          case rel =>
            obtain ⟨_, q2, q3, q4⟩ := unhide HX
            exact ⟨k + 1, by omega, by go_num, unhide HE2, own_later q2 (below_to_drew _), own_later q3 (below_to_drew _), q4.trans ((below_to_drew _).mono q4.size)⟩
          case measure => simp [intOf]; omega
        | false =>
          have hx := unhide HF (by simpa using hxy)
          have HF2 := hide hx
          clear hx
          go_wp2_with fail
          go_region_held3 (fun w' => w'.cell? ⟨g, k, none⟩ = some (.int .i64 x) ∧ w'.cell? ⟨g', k, none⟩ = some (.int .i64 y)) (go_keep) (fail)
          go_wp2_with fail
          go_ret
          obtain ⟨_, q2, q3, q4⟩ := unhide HX
          exact ⟨by rw [unhide HF2]; rfl, q4.trans ((below_to_drew _).mono q4.size)⟩
      · have hlt' : ¬ (k : Int) < (a.length : Int) := by omega
        have HE := hide (show decide (a = b) = true from by
          rw [decide_eq_true_eq]
          exact ints_eq_from (unhide HN) (fun j h h' => hall j h h' (by omega)))
        clear hall ha2 hb2 hbe
        go_wp2_with fail
        go_ret
        exact ⟨by rw [unhide HE]; rfl, (unhide HX).2.2.2⟩
  · have hn' : ((a.length : Int) == (b.length : Int)) = false := by rw [beq_eq_false_iff_ne]; omega
    go_enter Tryz.func30, Tryz.ntmps30
    go_wp2
    go_ret
    exact ⟨ret_bool (by rw [eq_comm, decide_eq_false_iff_not]; intro e; exact hn (by rw [e])), Below.refl _ _⟩

/-- A row of the caller's over which its owner has written. -/
theorem own_all {w : World} {B n : Nat} {v : Value} {xs : List Value} (h : w.ownsRow B 3 1 v n xs) : (v = .slice none 0 0 ∧ n = 0) ∨ ∃ g cap ys, v = .slice (some ⟨g, 0, none⟩) n cap ∧ n ≤ cap ∧ cap ≤ maxLen ∧ ys.length = cap ∧ w.ownsRow B 3 1 (.slice (some ⟨g, 0, none⟩) cap cap) cap ys := by
  obtain ⟨h1, h2⟩ := h
  rcases h2 with ⟨rfl, rfl⟩ | ⟨g, cap, cur, rfl, hg, hh, hn, hc, hs, ht⟩
  · exact Or.inl ⟨rfl, rfl⟩
  · refine Or.inr ⟨g, cap, cur.toList, rfl, hn, hc, by simpa using hs, ?_⟩
    exact ⟨by simpa using hs, Or.inr ⟨g, cap, cur, rfl, hg, hh, Nat.le_refl _, hc, hs, by rw [List.take_of_length_le]; simp [hs]⟩⟩

theorem grown_refl (w : World) (row : Option Nat) : w.grownBy w row := ⟨rfl, rfl, rfl, Nat.le_refl _, fun _ _ _ => rfl⟩
theorem grown_then {w w1 w2 : World} {row : Option Nat} (h : w.grownBy w1 row) (k : w1.grownBy w2 row) : w.grownBy w2 row :=
  ⟨k.os.trans h.os, k.tape.trans h.tape, k.output.trans h.output, Nat.le_trans h.size k.size, fun i hi hr => (k.block i (Nat.lt_of_lt_of_le hi h.size) hr).trans (h.block i hi hr)⟩
theorem grown_below {w w1 w2 : World} {row : Option Nat} (h : w.grownBy w1 row) (k : Below w1.heap.size w1 w2) : w.grownBy w2 row :=
  ⟨k.os.trans h.os, k.tape.trans h.tape, k.output.trans h.output, Nat.le_trans h.size k.size, fun i hi hr => (k.block i (Nat.lt_of_lt_of_le hi h.size)).trans (h.block i hi hr)⟩

/-- A list over which its owner has written: of c places, each of them m. -/
def Over (w : World) (B : Nat) (m : Int) (v : Value) : Prop := v = .slice none 0 0 ∨ ∃ g c, v = .slice (some ⟨g, 0, none⟩) c c ∧ c ≤ maxLen ∧ w.ownsRow B 3 1 v c (List.replicate c (.int .i64 m))

set_option maxHeartbeats 2000000 in
set_option maxRecDepth 100000 in
theorem over_ref (w : World) (B n : Nat) (v : Value) (xs : List Value) (m : Int) (h : w.ownsRow B 3 1 v n xs) :
    Calls Tryz.prog 58 #[v, .int .i64 m] w fun e w' => ∃ v', e = .returned v' ∧ Over w' B m v' ∧ w.grownBy w' v.ownBlock ∧ v'.ownBlock = v.ownBlock := by
  rcases own_all h with ⟨rfl, rfl⟩ | ⟨g, cap, ys, rfl, hn, hc, hys, hall⟩
  · clear h
    go_enter Tryz.func58, Tryz.ntmps58
    go_wp2
    go_loop [6] (fun i => i = .int .i64 (0 : Nat)) (fun _ => 0)
    case atStart => rfl
    case round =>
      subst hrel
      go_wp2
      go_ret
      exact ⟨_, rfl, Or.inl rfl, grown_refl _ _, rfl⟩
  · clear h
    have hc0 : (0 : Int) ≤ (cap : Int) := by omega
    unfold maxLen at hc
    go_enter Tryz.func58, Tryz.ntmps58
    go_wp2
    go_loopw [6] (fun i wr => ∃ (k : Nat) (zs : List Value), k ≤ cap ∧ i = .int .i64 k ∧ zs.length = cap ∧ (∀ j, j < k → zs[j]? = some (.int .i64 m)) ∧ wr.ownsRow B 3 1 (.slice (some ⟨g, 0, none⟩) cap cap) cap zs ∧ w.grownBy wr (some g)) (fun i _ => cap - (intOf i).toNat)
    case atStart => exact ⟨0, ys, Nat.zero_le _, rfl, hys, fun j h => by omega, hall, grown_refl _ _⟩
    case round =>
      obtain ⟨k, zs, hk, rfl, hzl, hz, hown, hgr⟩ := hrel
      have HX := hide (And.intro hzl (And.intro hz (And.intro hown hgr)))
      by_cases hlt : k < cap
      · have hlt' : (k : Int) < (cap : Int) := by omega
        have hk0 : (0 : Int) ≤ (k : Int) := by omega
        obtain ⟨g', cap', he, _, _, cx⟩ := own_cell hown (j := k) (u := zs[k]'(by omega)) (by simp)
        simp at he
        obtain ⟨rfl, rfl⟩ := he
        have fz := hown.frozenAt k
        generalize zs[k]'(by omega) = zk at cx
        clear hzl hz hown hgr
        go_wp2_with fail
        go_roundw
        case rel =>
          obtain ⟨q1, q2, q3, q4⟩ := unhide HX
          obtain ⟨s1, s2⟩ := q3.stored k (.int .i64 m)
          refine ⟨k + 1, zs.set k (.int .i64 m), by omega, by go_num, by simp [q1], fun j hj => ?_, s1, grown_then q4 s2⟩
          by_cases e : j = k
          · subst e; rw [List.getElem?_set_self (by omega)]
          · rw [List.getElem?_set_ne (by omega)]; exact q2 j (by omega)
        case measure => simp [intOf]; omega
      · have hlt' : ¬ (k : Int) < (cap : Int) := by omega
        clear hzl hz hown hgr
        go_wp2_with fail
        go_ret
        obtain ⟨q1, q2, q3, q4⟩ := unhide HX
        refine ⟨_, rfl, Or.inr ⟨g, cap, rfl, by unfold maxLen; omega, ?_⟩, q4, rfl⟩
        have hrep : zs = List.replicate cap (.int .i64 m) := by
          apply List.ext_getElem?
          intro j
          by_cases hj : j < cap
          · rw [q2 j (by omega), List.getElem?_replicate, if_pos hj]
          · rw [List.getElem?_eq_none (by omega), List.getElem?_eq_none (by simp; omega)]
        rw [← hrep]
        exact q3

end Go.Proofs.YtopeochnoefgcaaGreat

namespace Go.Proofs.YtopeochnoefgcaaGreat
open Go.RowKit

theorem Tryz.infoInts : (Tryz.prog.info? 24).map (fun i => (i.zero, i.size, i.bytes)) = some (some (.slice none 0 0), 1, 24) := by kernel_rfl

/-- The law's world at block S: no sessions, and the lists, each with its own mark. -/
structure LW (w : World) (S : Nat) (lv : Value) (vs : List Value) : Prop where
  block : w.heap[S]? = some (.cells #[.slice none 0 0, lv] 30 (0, 0))
  own : w.ownsRow (S + 1) 24 1 lv vs.length vs
  each : ∀ k (h : k < vs.length), Over w (S + 1) (-7777 - (k : Int)) vs[k]
theorem Over.map {w w' : World} {B : Nat} {m : Int} {v : Value} (h : Over w B m v) (hx : ∀ (n : Nat) (xs : List Value), w.ownsRow B 3 1 v n xs → w'.ownsRow B 3 1 v n xs) : Over w' B m v := by
  rcases h with h | ⟨g, c, h1, h2, h3⟩
  · exact Or.inl h
  · exact Or.inr ⟨g, c, h1, h2, hx _ _ h3⟩
theorem LW.later {w w' : World} {S : Nat} {lv : Value} {vs : List Value} (h : LW w S lv vs) (hb : Below w.heap.size w w') : LW w' S lv vs :=
  ⟨block_later h.block hb, own_later h.own hb, fun k hk => (h.each k hk).map (fun _ _ h => own_later h hb)⟩
/-- Blocks that hold the lists lie below the heap's end. -/
theorem LW.lt {w : World} {S : Nat} {lv : Value} {vs : List Value} (h : LW w S lv vs) : ∀ k (hk : k < vs.length) g, vs[k].ownBlock = some g → S + 1 ≤ g ∧ g < w.heap.size := by
  intro k hk g hg
  rcases h.each k hk with e | ⟨g', c, h1, h2, h3⟩
  · rw [e] at hg; cases hg
  · exact h3.lt g hg
/-- What is written over one list leaves the others. -/
theorem LW.grown {w w' : World} {S : Nat} {lv : Value} {vs : List Value} {row : Option Nat} (h : LW w S lv vs) (hg : w.grownBy w' row) (hS : row ≠ some S) (hl : ∀ g, lv.ownBlock = some g → row ≠ some g) (hv : ∀ k (hk : k < vs.length) g, vs[k].ownBlock = some g → row ≠ some g) : LW w' S lv vs := by
  have keep : ∀ {e : TypeId} {size n : Nat} {v : Value} {xs : List Value}, w.ownsRow (S + 1) e size v n xs → (∀ g, v.ownBlock = some g → row ≠ some g) → w'.ownsRow (S + 1) e size v n xs := by
    intro e size n v xs h hne
    obtain ⟨h1, h2⟩ := h
    refine ⟨h1, ?_⟩
    rcases h2 with h2 | ⟨g, cap, cur, hv', hgB, hh, r⟩
    · exact Or.inl h2
    · exact Or.inr ⟨g, cap, cur, hv', hgB, by rw [hg.block g (block_lt hh) (fun e => hne g (by rw [hv']; rfl) e.symm)]; exact hh, r⟩
  exact ⟨by rw [hg.block S (block_lt h.block) (Ne.symm hS)]; exact h.block, keep h.own hl, fun k hk => (h.each k hk).map (fun _ _ h => keep h (hv k hk))⟩
/-- Behind the append of a list, and the store of the lists. -/
theorem LW.push {w w1 w2 : World} {S : Nat} {lv lv' : Value} {vs : List Value} {v : Value} (h : LW w S lv vs) (hv : Over w (S + 1) (-7777 - (vs.length : Int)) v) (hb : Below w.heap.size w w1)
    (hown : w2.ownsRow (S + 1) 24 1 lv' (vs.length + 1) (vs ++ [v])) (hgrow : w1.grownBy w2 lv.ownBlock) :
    LW (w2.setCell ⟨S, 1, none⟩ lv') S lv' (vs ++ [v]) ∧ Below S w (w2.setCell ⟨S, 1, none⟩ lv') := by
  have hSlt := block_lt h.block
  have hrow : ∀ k, lv.ownBlock = some k → S < k := fun k hk => by have := (h.own.lt k hk).1; omega
  have hkeep : ∀ k, k < w.heap.size → some k ≠ lv.ownBlock → w2.heap[k]? = w.heap[k]? := fun k hk hv => by
    rw [hgrow.block k (Nat.lt_of_lt_of_le hk hb.size) hv]
    exact hb.block k hk
  have hset : ∀ k, k ≠ S → (w2.setCell ⟨S, 1, none⟩ lv').heap[k]? = w2.heap[k]? := fun k hk => Below.heap_setCell w2 ⟨S, 1, none⟩ _ k hk
  have hK : ∀ (n : Nat) (u : Value) (xs : List Value), w.ownsRow (S + 1) 3 1 u n xs → (w2.setCell ⟨S, 1, none⟩ lv').ownsRow (S + 1) 3 1 u n xs := by
    intro n u xs hu
    have hne := own_ne hu h.own (by decide)
    obtain ⟨h1, h2⟩ := hu
    refine ⟨h1, ?_⟩
    rcases h2 with h2 | ⟨g, cap, cur, hv', hg, hh, r⟩
    · exact Or.inl h2
    · exact Or.inr ⟨g, cap, cur, hv', hg, by rw [hset g (by omega), hkeep g (block_lt hh) (fun e => hne g (by rw [hv']; rfl) e.symm)]; exact hh, r⟩
  refine ⟨⟨?_, ?_, fun k hk => ?_⟩, ?_⟩
  · have hbk : w2.heap[S]? = some (.cells #[.slice none 0 0, lv] 30 (0, 0)) := (hkeep S hSlt (fun e => by have := hrow S e.symm; omega)).trans h.block
    have := set_block hbk 1 lv'
    simpa using this
  · rw [List.length_append]
    exact ownsRow_setCell_below hown (by show S < S + 1; omega) _
  · by_cases hk' : k < vs.length
    · rw [List.getElem_append_left hk']
      exact (h.each k hk').map (fun n xs => hK n _ xs)
    · have : k = vs.length := by simp at hk; omega
      subst this
      rw [List.getElem_append_right (Nat.le_refl _)]
      simp only [Nat.sub_self, List.getElem_cons_zero]
      exact hv.map (fun n xs => hK n _ xs)
  · refine ⟨hgrow.os.trans hb.os, hgrow.tape.trans hb.tape, hgrow.output.trans hb.output, ?_, fun k hk => (hset k (by omega)).trans (hkeep k (by omega) (fun e => by have := hrow k e.symm; omega))⟩
    have h1 := hgrow.size
    have h2 := hb.size
    simp [World.setCell]
    omega
theorem law_far {w w1 w2 : World} {S : Nat} {lv : Value} {row : Option Nat} (hblk : w.heap[S]? = some (.cells #[.slice none 0 0, lv] 30 (0, 0))) (hb : Below w.heap.size w w1) (hgrow : w1.grownBy w2 row) (hr : row ≠ some S) :
    w2.cell? ⟨S, 1, none⟩ = some lv ∧ w2.frozen? ⟨S, 1, none⟩ = false := by
  have hk : w2.heap[S]? = some (.cells #[.slice none 0 0, lv] 30 (0, 0)) := by
    rw [hgrow.block S (Nat.lt_of_lt_of_le (block_lt hblk) hb.size) (Ne.symm hr), hb.block S (block_lt hblk)]
    exact hblk
  exact ⟨cell_of_block hk 1 (by simp), free_of_block hk 1⟩

/-- What own leaves. -/
def OwnP (S : Nat) (vs : List Value) (w : World) (e : Ending) (w' : World) : Prop := e = .returned (.tuple #[]) ∧ Below S w w' ∧ ∃ lv' v', LW w' S lv' (vs ++ [v'])

set_option maxHeartbeats 2000000 in
set_option maxRecDepth 100000 in
theorem own_ref (w : World) (S : Nat) (lv : Value) (vs : List Value) (n : Nat) (v : Value) (xs : List Value) (h : LW w S lv vs) (hv : w.ownsRow (S + 1) 3 1 v n xs) (hne : ∀ k (hk : k < vs.length) g, vs[k].ownBlock = some g → ¬ v.ownBlock = some g) (hlen : (vs.length + 1) * 24 ≤ 140737488355328) :
    Calls Tryz.prog 31 #[.pointer (some ⟨S, 0, none⟩), v] w (OwnP S vs w) := by
  obtain ⟨i0, hi0, hz0, hz1, hz2⟩ := info_parts Tryz.infoInts
  obtain ⟨ad, cap, rfl⟩ := ownsRow_form hv
  obtain ⟨lad, lcap, rfl⟩ := ownsRow_form h.own
  have c1 := cell_of_block h.block 1 (by simp)
  simp at c1
  have hlv := own_ne hv h.own (by decide)
  have hvS : ¬ (Value.slice ad n cap).ownBlock = some S := fun e => by have := (hv.lt S e).1; omega
  have HH := hide h
  have HV := hide hv
  have HNe := hide (And.intro hne (And.intro hlv hvS))
  have hwr : IntKind.i64.wrap (-7777 - (vs.length : Int)) = -7777 - (vs.length : Int) := IntWalk.i64_in _ ⟨by omega, by omega⟩
  clear h hv hne hlv hvS
  go_enter Tryz.func31, Tryz.ntmps31
  go_wp2_with fail
  refine (over_ref _ (S + 1) n _ xs _ (unhide HV)).mono ?_
  rintro e w1 ⟨v1, rfl, ho1, hg1, hb1⟩
  obtain ⟨a1, b1, d1, hv1⟩ : ∃ a b d, v1 = .slice a b d := by
    rcases ho1 with e | ⟨g, c, e, _⟩
    · exact ⟨_, _, _, e⟩
    · exact ⟨_, _, _, e⟩
  subst hv1
  obtain ⟨q1, q2, q3⟩ := unhide HNe
  have hL1 := (unhide HH).grown hg1 q3 (fun g hg e => q2 g e hg) (fun k hk g hg e => q1 k hk g hg e)
  have hbe1 : Below S w w1 := ⟨hg1.os, hg1.tape, hg1.output, hg1.size, fun k hk => hg1.block k (by have := block_lt (unhide HH).block; omega) (fun e => by have := ((unhide HV).lt k e.symm).1; omega)⟩
  have HL1 := hide (And.intro hL1 hbe1)
  have HO1 := hide ho1
  have c1 := cell_of_block hL1.block 1 (by simp)
  simp at c1
  have hown1 := hL1.own
  have hSlt := block_lt hL1.block
  clear hg1 hb1 q1 q2 q3 hL1 hbe1 ho1 HNe HV HH
  go_wp2_with (at_builtin; refine wpList_append_lies _ rfl _ _ 28 rfl (S + 1) 24 i0 _ 1 24 Tryz.underlying28 hi0 hz0 hz1 hz2 rfl (by decide) _ _ _ rfl (hown1.alloc _) ⟨_, 0, none⟩ 1 1 [.slice a1 b1 d1] rfl rfl (cell_one_new _ _ _) (by simp [Value.oneCell']) (by omega) (by unfold maxLen; omega) (by omega) (by simp; omega) _ rfl ?_)
  intro g4 cap4 w4 hown4 hgrow hat hlt4
  have hneS : (Value.slice lad vs.length lcap).ownBlock ≠ some S := fun h => by have := (hown1.lt _ h).1; omega
  obtain ⟨hfar, hfz⟩ := law_far (unhide HL1).1.block ((Below.refl _ _).alloc (Nat.le_refl _) _) hgrow hneS
  have HF := hide ((unhide HL1).1.push (unhide HO1) ((Below.refl _ _).alloc (Nat.le_refl _) _) hown4 hgrow)
  clear hown4 hgrow hat hlt4 hneS hown1
  go_wp2_with fail
  go_end0
  obtain ⟨f1, f2⟩ := unhide HF
  exact ⟨rfl, (unhide HL1).2.trans f2, _, _, f1⟩

end Go.Proofs.YtopeochnoefgcaaGreat

namespace Go.Proofs.YtopeochnoefgcaaGreat
open Go.RowKit

theorem Over.form {w : World} {B : Nat} {m : Int} {v : Value} (h : Over w B m v) : ∃ a n c, v = .slice a n c ∧ n ≤ maxLen := by
  rcases h with e | ⟨g, c, e, h, _⟩
  · exact ⟨_, _, _, e, Nat.zero_le _⟩
  · exact ⟨_, _, _, e, h⟩
theorem Over.cell {w : World} {B : Nat} {m : Int} {a : Option Addr} {n c j : Nat} (h : Over w B m (.slice a n c)) (hj : j < n) : ∃ g, a = some ⟨g, 0, none⟩ ∧ w.cell? ⟨g, j, none⟩ = some (.int .i64 m) := by
  rcases h with e | ⟨g, c', e, h, ho⟩
  · simp at e; omega
  · simp at e
    obtain ⟨rfl, rfl, rfl⟩ := e
    obtain ⟨g', cap, he, _, _, hc⟩ := own_cell ho (j := j) (u := .int .i64 m) (by simp [hj])
    simp at he
    exact ⟨g, rfl, by rw [he.1]; exact hc⟩

set_option maxHeartbeats 2000000 in
set_option maxRecDepth 100000 in
theorem looks_ref (w : World) (S : Nat) (lv : Value) (vs : List Value) (h : LW w S lv vs) (hlen : (vs.length + 1) * 24 ≤ 140737488355328) :
    Calls Tryz.prog 13 #[.pointer (some ⟨S, 0, none⟩)] w fun e w' => e = .returned (.bool true) ∧ Below w.heap.size w w' := by
  obtain ⟨lad, lcap, rfl⟩ := ownsRow_form h.own
  have HN := hide h
  clear h
  go_enter Tryz.func13, Tryz.ntmps13
  go_wp2
  go_loopw [3] (fun i wr => ∃ k : Nat, k ≤ vs.length ∧ i = .int .i64 k ∧ LW wr S (.slice lad vs.length lcap) vs ∧ Below w.heap.size w wr) (fun i _ => vs.length - (intOf i).toNat)
  case atStart => exact ⟨0, Nat.zero_le _, rfl, unhide HN, Below.refl _ _⟩
  case round =>
    obtain ⟨k, hk, rfl, hL, hbe⟩ := hrel
    have c1 := cell_of_block hL.block 1 (by simp)
    simp at c1
    have HL := hide (And.intro hL hbe)
    by_cases hlt : k < vs.length
    · have hlt' : (k : Int) < (vs.length : Int) := by omega
      have hk0 : (0 : Int) ≤ (k : Int) := by omega
      have hov := hL.each k hlt
      obtain ⟨a, n, c, hvf, hn⟩ := hov.form
      obtain ⟨g, cap, he, _, _, cx⟩ := own_cell hL.own (j := k) (u := vs[k]) (by simp)
      simp at he
      obtain ⟨rfl, rfl⟩ := he
      rw [hvf] at cx
      have HOv := hide (show ∀ w', LW w' S (.slice (some ⟨g, 0, none⟩) vs.length lcap) vs → Over w' (S + 1) (-7777 - (k : Int)) (.slice a n c) ∧ w'.cell? ⟨g, k, none⟩ = some (.slice a n c) from fun w' h => by
        refine ⟨by rw [← hvf]; exact h.each k hlt, ?_⟩
        obtain ⟨g', cap', he', _, _, cx'⟩ := own_cell h.own (j := k) (u := vs[k]) (by simp)
        simp at he'
        rw [he'.1, ← hvf]; exact cx')
      clear hL hbe hov hvf
      unfold maxLen at hn
      have hwm : IntKind.i64.wrap (-7777 - (k : Int)) = -7777 - (k : Int) := IntWalk.i64_in _ ⟨by omega, by omega⟩
      go_wp2_with fail
      go_loopw [4] (fun j wr2 => ∃ q : Nat, q ≤ n ∧ j = .int .i64 q ∧ LW wr2 S (.slice (some ⟨g, 0, none⟩) vs.length lcap) vs ∧ Below w.heap.size w wr2) (fun j _ => n - (intOf j).toNat)
      case atStart => exact ⟨0, Nat.zero_le _, rfl, (unhide HL).1, (unhide HL).2⟩
      case round =>
        obtain ⟨q, hq, rfl, hL2, hbe2⟩ := hrel
        clear c1 cx
        have c1 := cell_of_block hL2.block 1 (by simp)
        simp at c1
        obtain ⟨hov2, cx⟩ := unhide HOv _ hL2
        have HL2 := hide (And.intro hL2 hbe2)
        by_cases hqn : q < n
        · have hq' : (q : Int) < (n : Int) := by omega
          have hq0 : (0 : Int) ≤ (q : Int) := by omega
          obtain ⟨g2, ha2, cy⟩ := hov2.cell hqn
          subst ha2
          clear hL2 hbe2 hov2
          go_wp2_with fail
          go_roundw
          case rel => exact ⟨q + 1, by omega, by go_num, (unhide HL2).1, (unhide HL2).2⟩
          case measure => simp [intOf]; omega
        · have hq' : ¬ (q : Int) < (n : Int) := by omega
          clear hL2 hbe2 hov2
          go_wp2_with fail
          go_roundw
          case rel => exact ⟨k + 1, by omega, by go_num, (unhide HL2).1, (unhide HL2).2⟩
          case measure => simp [intOf]; omega
    · have hlt' : ¬ (k : Int) < (vs.length : Int) := by omega
      clear hL hbe
      go_wp2_with fail
      go_ret
      exact ⟨rfl, (unhide HL).2⟩

end Go.Proofs.YtopeochnoefgcaaGreat

namespace Go.Proofs.YtopeochnoefgcaaGreat
open Go.RowKit

namespace Rf
theorem formsFrom_len : ∀ (texts : List ByteArray) (i : Nat) (acc : List (List ByteArray)), (formsFrom i texts acc).2.length ≤ acc.length + texts.length
  | [], i, acc => by simp [formsFrom]
  | t :: r, i, acc => by
    rw [formsFrom]
    cases Rt.toks t with
    | none => simp
    | some ts =>
      simp only
      split
      · have := formsFrom_len r (i + 1) (acc ++ [tx ts])
        simp at this ⊢; omega
      · simp
theorem readR_len (s : ByteArray) : (readR s).2.2.length ≤ 100 := by
  unfold readR
  split
  · simp
  · split
    · simp
    · rename_i h2
      split
      · simp
      · unfold readLines
        split
        · simp
        · split
          · simp
          · unfold readNames
            split
            · simp
            · split
              · simp
              · have := formsFrom_len (Rt.lines s) 0 []
                simp at this ⊢; omega
theorem stopsFrom_len (ls : List (List ByteArray)) : ∀ f k (acc : List Nat), (stopsFrom ls f k acc).length ≤ acc.length + f
  | 0, k, acc => by simp [stopsFrom]
  | f + 1, k, acc => by
    rw [stopsFrom]
    have := stopsFrom_len ls f (k + 1) (if stopB ls k (lineAt ls k) = true then acc ++ [k + 1] else acc)
    split at this
    · rename_i h; rw [if_pos h]; simp at this; omega
    · rename_i h; rw [if_neg h]; omega
/-- The stops that the document's answer tells; of a source that is refused, none. -/
def stopList (s : ByteArray) : List Int := if (readR s).1 = 0 then (stops (readR s).2.2).map (fun n : Nat => (n : Int)) else []
theorem stopList_len (s : ByteArray) : (stopList s).length ≤ 100 := by
  unfold stopList
  split
  · have h1 := stopsFrom_len (readR s).2.2 (readR s).2.2.length 0 []
    have h2 := readR_len s
    simp [stops] at h1 ⊢; omega
  · simp
end Rf

/-- What both answers to Stops come to. -/
def StopsBoth (s : ByteArray) (w : World) (e : Ending) (w' : World) : Prop := Below w.heap.size w w' ∧ ∃ v, e = .returned (.tuple #[v, .int .i64 (Rf.readR s).1, .int .i64 (Rf.readR s).2.1]) ∧ w'.ownsRow w.heap.size 3 1 v (Rf.stopList s).length (ints (Rf.stopList s))
theorem Stops_both (s : ByteArray) (w : World) (hs : s.size ≤ maxLen) : Calls Tryz.prog 24 #[.string s] w (StopsBoth s w) := by
  refine (Stops_ref s w hs).mono ?_
  rintro e w' ⟨hb, (⟨h1, rfl⟩ | ⟨h1, v, rfl, hv⟩)⟩
  · refine ⟨hb, _, rfl, ?_⟩
    rw [Rf.stopList, if_neg h1]
    exact World.ownsRow_nil _ _ _ _
  · refine ⟨hb, v, ?_, ?_⟩
    · have h2 : (Rf.readR s).2.1 = 0 := by
        have : ∀ r : Int × Int × List (List ByteArray), r = Rf.readR s → r.1 = 0 → r.2.1 = 0 := by
          intro r hr h
          subst hr
          unfold Rf.readR at h ⊢
          split
          · rfl
          · rename_i q
            rw [if_neg q] at h
            split
            · rfl
            · rename_i q
              rw [if_neg q] at h
              split
              · rename_i q; rw [if_pos q] at h; simp at h
              · rename_i q
                rw [if_neg q] at h
                unfold Rf.readLines at h ⊢
                split
                · rename_i q; rw [if_pos q] at h; simp at h
                · rename_i q
                  rw [if_neg q] at h
                  split
                  · rename_i q; rw [if_pos q] at h; simp at h
                  · rename_i q
                    rw [if_neg q] at h
                    unfold Rf.readNames at h ⊢
                    split
                    · rfl
                    · split
                      · rfl
                      · rfl
        exact this _ rfl h1
      rw [h1, h2]
    · rw [Rf.stopList, if_pos h1]
      have e1 : ((Rf.stops (Rf.readR s).2.2).map (fun n : Nat => (n : Int))).length = (Rf.stops (Rf.readR s).2.2).length := by simp
      have e2 : ints ((Rf.stops (Rf.readR s).2.2).map (fun n : Nat => (n : Int))) = (Rf.stops (Rf.readR s).2.2).map iv := by simp [ints, iv]
      rw [e1, e2]
      exact hv

/-- What a step of the law leaves: true, and one list more. -/
def StepP (S : Nat) (vs : List Value) (w : World) (e : Ending) (w' : World) : Prop := e = .returned (.bool true) ∧ Below S w w' ∧ ∃ lv' vs', LW w' S lv' vs' ∧ vs'.length ≤ vs.length + 1

set_option maxHeartbeats 2000000 in
set_option maxRecDepth 100000 in
theorem list_ref (w : World) (S : Nat) (lv : Value) (vs : List Value) (v v' : Value) (B : Nat) (a : List Int) (h : LW w S lv vs) (hv : w.ownsRow (S + 1) 3 1 v a.length (ints a)) (hv' : w.ownsRow B 3 1 v' a.length (ints a)) (ha : a.length ≤ 1000)
    (hne : ∀ k (hk : k < vs.length) g, vs[k].ownBlock = some g → ¬ v.ownBlock = some g) (hlen : (vs.length + 1) * 24 ≤ 140737488355328) :
    Calls Tryz.prog 25 #[.pointer (some ⟨S, 0, none⟩), v, v'] w (StepP S vs w) := by
  have HH := hide (And.intro h (And.intro hv (And.intro hv' hne)))
  have hSlt := block_lt h.block
  obtain ⟨ad, cap, rfl⟩ := ownsRow_form hv
  obtain ⟨ad', cap', rfl⟩ := ownsRow_form hv'
  clear h hv hv' hne
  go_enter Tryz.func25, Tryz.ntmps25
  go_wp2_with fail
  refine (sameInts_ref _ (S + 1) B _ _ a a (unhide HH).2.1 (unhide HH).2.2.1 ha ha).mono ?_
  rintro e w1 ⟨rfl, hb1⟩
  have HL := hide (And.intro ((unhide HH).1.later hb1) (And.intro (own_later (unhide HH).2.1 hb1) hb1))
  clear hb1
  rw [decide_eq_true (show a = a from rfl)]
  go_wp2_with fail
  refine (own_ref _ S _ vs _ _ _ (unhide HL).1 (unhide HL).2.1 (unhide HH).2.2.2 hlen).mono ?_
  rintro e w2 ⟨rfl, hb2, lv2, v2, hL2⟩
  have HF := hide (And.intro (((unhide HL).2.2.mono (B' := S) (by omega)).trans hb2) hL2)
  clear hb2 hL2
  go_wp2_with fail
  go_ret
  exact ⟨rfl, (unhide HF).1, _, _, (unhide HF).2, by simp⟩

set_option maxHeartbeats 2000000 in
set_option maxRecDepth 100000 in
theorem stopped_ref (HP : ∀ (s : ByteArray) (w : World), s.size ≤ maxLen → Calls Tryz.prog 23 #[.string s] w (StopsBoth s w)) (w : World) (S : Nat) (lv : Value) (vs : List Value) (s : ByteArray) (h : LW w S lv vs) (hs : s.size ≤ maxLen) (hlen : (vs.length + 1) * 24 ≤ 140737488355328) :
    Calls Tryz.prog 15 #[.pointer (some ⟨S, 0, none⟩), .string s] w (StepP S vs w) := by
  have HH := hide h
  have hSlt := block_lt h.block
  have HPP := hide HP
  clear h HP
  have hll := Rf.stopList_len s
  go_enter Tryz.func15, Tryz.ntmps15
  go_wp2_with fail
  refine (unhide HPP s _ hs).mono ?_
  rintro e w1 ⟨hb1, v1, rfl, ho1⟩
  have HL1 := hide (And.intro ((unhide HH).later hb1) (And.intro ho1 hb1))
  obtain ⟨ad1, c1, rfl⟩ := ownsRow_form ho1
  clear hb1 ho1
  go_wp2_with fail
  refine (Stops_both s _ hs).mono ?_
  rintro e w2 ⟨hb2, v2, rfl, ho2⟩
  obtain ⟨ad2, c2, rfl⟩ := ownsRow_form ho2
  have HL2 := hide (And.intro ((unhide HL1).1.later hb2) (And.intro (own_later (unhide HL1).2.1 hb2) (And.intro ho2 ((unhide HL1).2.2.trans (hb2.mono (unhide HL1).2.2.size)))))
  clear hb2 ho2
  generalize (Rf.readR s).1 = er at *
  generalize (Rf.readR s).2.1 = at0 at *
  go_wp2_with fail
  refine (list_ref _ S _ vs _ _ _ (Rf.stopList s) (unhide HL2).1 (ownsRow_mono (unhide HL2).2.1 (by omega)) (unhide HL2).2.2.1 (by omega) (fun k hk g hg e => by
    have h1 := ((unhide HH).lt k hk g hg).2
    have h2 := ((unhide HL2).2.1.lt g e).1
    omega) hlen).mono ?_
  rintro e w3 ⟨rfl, hb3, lv3, vs3, hL3, hl3⟩
  have HF := hide (And.intro (((unhide HL2).2.2.2.mono (B' := S) (by omega)).trans hb3) (And.intro hL3 hl3))
  clear hb3 hL3 hl3
  go_wp2_with (go_at_call 22; refine (num_ref er _).mono ?_; rintro e w' ⟨rfl, rfl⟩)
  all_goals
    go_ret
    exact ⟨by first | rfl | simp, (unhide HF).1, _, _, (unhide HF).2.1, (unhide HF).2.2⟩

end Go.Proofs.YtopeochnoefgcaaGreat

namespace Go.Proofs.YtopeochnoefgcaaGreat
open Go.RowKit

set_option maxHeartbeats 2000000 in
set_option maxRecDepth 100000 in
theorem step_stops (HP : ∀ (s : ByteArray) (w : World), s.size ≤ maxLen → Calls Tryz.prog 23 #[.string s] w (StopsBoth s w)) (w : World) (S : Nat) (lv : Value) (vs : List Value) (a b c : Value) (s : ByteArray) (l : Value) (h : LW w S lv vs) (hs : s.size ≤ maxLen) (hlen : (vs.length + 1) * 24 ≤ 140737488355328) :
    Calls Tryz.prog 12 #[.pointer (some ⟨S, 0, none⟩), .agg #[.int .i64 2, a, b, c, .string s, l]] w (StepP S vs w) := by
  have HH := hide h
  have hSlt := block_lt h.block
  have HPP := hide HP
  clear h HP
  go_enter Tryz.func12, Tryz.ntmps12
  go_wp2_with fail
  have hb0 := (Below.refl w.heap.size w).alloc (Nat.le_refl _) (.cells #[.int .i64 2, a, b, c, .string s, l] 32)
  have HB0 := hide hb0
  clear hb0
  refine (stopped_ref (unhide HPP) _ S lv vs s ((unhide HH).later (unhide HB0)) hs hlen).mono ?_
  rintro e w1 ⟨rfl, hb1, hrest⟩
  have HF := hide (And.intro (((unhide HB0).mono (B' := S) (by omega)).trans hb1) hrest)
  clear hb1 hrest
  go_wp2_with fail
  go_ret
  exact ⟨rfl, (unhide HF).1, (unhide HF).2⟩

/-- A step of a script. -/
structure OpD where
  kind : Int
  a : Value
  b : Value
  c : Value
  s : ByteArray
  l : Value
/-- A script that can be read. -/
def ScrR (w : World) (v : Value) (ops : List OpD) : Prop :=
  ∃ ad cap, v = .slice ad ops.length cap ∧ (ops = [] ∨ ∃ g o, ad = some ⟨g, o, none⟩ ∧ ∀ j (h : j < ops.length), w.cell? ⟨g, o + j * 6, none⟩ = some (.int .i64 ops[j].kind) ∧ w.cell? ⟨g, o + j * 6 + 1, none⟩ = some ops[j].a ∧ w.cell? ⟨g, o + j * 6 + 2, none⟩ = some ops[j].b ∧
    w.cell? ⟨g, o + j * 6 + 3, none⟩ = some ops[j].c ∧ w.cell? ⟨g, o + j * 6 + 4, none⟩ = some (.string ops[j].s) ∧ w.cell? ⟨g, o + j * 6 + 5, none⟩ = some ops[j].l) ∧ ∀ op ∈ ops, op.s.size ≤ maxLen
theorem ScrR.later {w w' : World} {v : Value} {ops : List OpD} (h : ScrR w v ops) (hb : Below w.heap.size w w') : ScrR w' v ops := by
  obtain ⟨ad, cap, rfl, h, hm⟩ := h
  refine ⟨ad, cap, rfl, ?_, hm⟩
  rcases h with h | ⟨g, o, rfl, h⟩
  · exact Or.inl h
  · exact Or.inr ⟨g, o, rfl, fun j hj => let ⟨h0, h1, h2, h3, h4, h5⟩ := h j hj; ⟨cell_later hb h0, cell_later hb h1, cell_later hb h2, cell_later hb h3, cell_later hb h4, cell_later hb h5⟩⟩

set_option maxHeartbeats 4000000 in
set_option maxRecDepth 100000 in
theorem plays_stops (HP : ∀ (s : ByteArray) (w : World), s.size ≤ maxLen → Calls Tryz.prog 23 #[.string s] w (StopsBoth s w)) (w : World) (v : Value) (ops : List OpD) (kg : Nat) (h : ScrR w v ops) (hk : w.cell? ⟨kg, 0, none⟩ = some (.int .i64 2)) (hlen : (ops.length + 1) * 24 ≤ 140737488355328) :
    Calls Tryz.prog 11 #[v, .slice (some ⟨kg, 0, none⟩) 1 1] w fun e w' => e = .returned (.bool true) ∧ Below w.heap.size w w' := by
  have HH := hide h
  have HK := hide hk
  have HPP := hide HP
  obtain ⟨ad, cap, rfl, _⟩ := h
  clear HP hk
  have hA := heap_alloc_new w (.cells #[.slice none 0 0, .slice none 0 0] 30)
  have HA := hide hA
  clear hA
  go_enter Tryz.func11, Tryz.ntmps11
  go_wp2
  go_loopw [6] (fun i wr => ∃ (k : Nat) (lv : Value) (vs : List Value), k ≤ ops.length ∧ i = .int .i64 k ∧ vs.length ≤ k ∧ LW wr w.heap.size lv vs ∧ Below w.heap.size w wr) (fun i _ => ops.length - (intOf i).toNat)
  case atStart => exact ⟨0, _, [], Nat.zero_le _, rfl, by simp, ⟨unhide HA, World.ownsRow_nil _ _ _ _, fun k hk => by simp at hk⟩, (Below.refl _ _).alloc (Nat.le_refl _) _⟩
  case round =>
    obtain ⟨k, lv, vs, hkl, rfl, hvl, hL, hbe⟩ := hrel
    have HL := hide (And.intro hL hbe)
    clear hL hbe
    by_cases hlt : k < ops.length
    · have hlt' : (k : Int) < (ops.length : Int) := by omega
      have hk0 : (0 : Int) ≤ (k : Int) := by omega
      obtain ⟨ad', cap', he, hcells, hmax⟩ := unhide HH
      simp at he
      obtain ⟨rfl, rfl⟩ := he
      rcases hcells with hnil | ⟨g, o, hado, hcells⟩
      · rw [hnil] at hlt; simp at hlt
      subst hado
      have hsz := hmax _ (List.getElem_mem hlt)
      have HC : Hid (∀ w', Below w.heap.size w w' → w'.cell? ⟨kg, 0, none⟩ = some (.int .i64 2) ∧ w'.cell? ⟨g, o + k * 6, none⟩ = some (.int .i64 ops[k].kind) ∧ w'.cell? ⟨g, o + k * 6 + 1, none⟩ = some ops[k].a ∧ w'.cell? ⟨g, o + k * 6 + 2, none⟩ = some ops[k].b ∧ w'.cell? ⟨g, o + k * 6 + 3, none⟩ = some ops[k].c ∧ w'.cell? ⟨g, o + k * 6 + 4, none⟩ = some (.string ops[k].s) ∧ w'.cell? ⟨g, o + k * 6 + 5, none⟩ = some ops[k].l) := hide (fun w' hb =>
        let ⟨h0, h1, h2, h3, h4, h5⟩ := hcells k hlt; ⟨cell_later hb (unhide HK), cell_later hb h0, cell_later hb h1, cell_later hb h2, cell_later hb h3, cell_later hb h4, cell_later hb h5⟩)
      clear hcells hmax
      generalize ops[k].kind = kd at *
      generalize ops[k].a = oa at *
      generalize ops[k].b = ob at *
      generalize ops[k].c = oc at *
      generalize ops[k].s = os at *
      generalize ops[k].l = ol at *
      go_wp2_with fail
      go_loopw [7, 8] (fun inb j wr2 => ((inb = .bool false ∧ j = .int .i64 (0 : Nat)) ∨ (inb = .bool (kd == 2) ∧ j = .int .i64 (1 : Nat))) ∧ LW wr2 w.heap.size lv vs ∧ Below w.heap.size w wr2) (fun _ j _ => 1 - (intOf j).toNat)
      case atStart => exact ⟨Or.inl ⟨rfl, rfl⟩, (unhide HL).1, (unhide HL).2⟩
      case round =>
        obtain ⟨hst, hL2, hbe2⟩ := hrel
        obtain ⟨cK, c0, c1, c2, c3, c4, c5⟩ := unhide HC _ hbe2
        have HL2 := hide (And.intro hL2 hbe2)
        clear hL2 hbe2
        rcases hst with ⟨rfl, rfl⟩ | ⟨rfl, rfl⟩
        · clear c1 c2 c3 c4 c5
          go_wp2_with fail
          go_region_held3 (fun w' => w'.cell? ⟨kg, 0, none⟩ = some (.int .i64 2) ∧ w'.cell? ⟨g, o + k * 6, none⟩ = some (.int .i64 kd)) (go_keep) (fail)
          go_wp2_with fail
          go_roundw
          case rel => exact ⟨Or.inr ⟨by first | rfl | simp, by go_num⟩, (unhide HL2).1.later (below_to_drew _), (unhide HL2).2.trans ((below_to_drew _).mono (unhide HL2).2.size)⟩
          case measure => simp [intOf]
        · cases hz : (kd == 2) with
          | false =>
            clear cK c0 c1 c2 c3 c4 c5
            go_wp2_with fail
            go_roundw
            case rel => exact ⟨k + 1, lv, vs, by omega, by go_num, by omega, (unhide HL2).1, (unhide HL2).2⟩
            case measure => simp [intOf]; omega
          | true =>
            have hkd : kd = 2 := by simpa using hz
            subst hkd
            clear hz cK
            go_wp2_with fail
            refine (step_stops (unhide HPP) _ w.heap.size lv vs oa ob oc os ol (unhide HL2).1 hsz (by omega)).mono ?_
            rintro e w3 ⟨rfl, hb3, lv3, vs3, hL3, hl3⟩
            have HL3 := hide (And.intro hL3 ((unhide HL2).2.trans hb3))
            clear hL3 hb3 c0 c1 c2 c3 c4 c5
            go_wp2_with fail
            refine (looks_ref _ w.heap.size lv3 vs3 (unhide HL3).1 (by omega)).mono ?_
            rintro e w4 ⟨rfl, hb4⟩
            have HL4 := hide (And.intro ((unhide HL3).1.later hb4) ((unhide HL3).2.trans (hb4.mono (unhide HL3).2.size)))
            clear hb4
            go_wp2_with fail
            go_roundw
            case rel => exact ⟨k + 1, lv3, vs3, by omega, by go_num, by omega, (unhide HL4).1, (unhide HL4).2⟩
            case measure => simp [intOf]; omega
    · have hlt' : ¬ (k : Int) < (ops.length : Int) := by omega
      go_wp2_with fail
      go_ret
      exact ⟨rfl, (unhide HL).2⟩

set_option maxHeartbeats 2000000 in
set_option maxRecDepth 100000 in
theorem Stopping_ref (HP : ∀ (s : ByteArray) (w : World), s.size ≤ maxLen → Calls Tryz.prog 23 #[.string s] w (StopsBoth s w)) (w : World) (v : Value) (ops : List OpD) (h : ScrR w v ops) (hlen : (ops.length + 1) * 24 ≤ 140737488355328) :
    Calls Tryz.prog 4 #[v] w fun e w' => e = .returned (.bool true) ∧ Below w.heap.size w w' := by
  have HH := hide h
  have HPP := hide HP
  obtain ⟨ad, cap, rfl, _⟩ := h
  clear HP
  have hb0 := (Below.refl w.heap.size w).alloc (Nat.le_refl _) (.cells #[.int .i64 2] 3)
  have hn0 := heap_alloc_new w (.cells #[.int .i64 2] 3)
  have HB0 := hide (And.intro hb0 hn0)
  clear hb0 hn0
  go_enter Tryz.func4, Tryz.ntmps4
  go_wp2_with fail
  refine (plays_stops (unhide HPP) _ _ ops _ ((unhide HH).later (unhide HB0).1) (cell_of_block (unhide HB0).2 0 (by simp)) hlen).mono ?_
  rintro e w1 ⟨rfl, hb1⟩
  have HF := hide ((unhide HB0).1.trans (hb1.mono (unhide HB0).1.size))
  clear hb1
  go_wp2_with fail
  go_ret
  exact ⟨rfl, unhide HF⟩

end Go.Proofs.YtopeochnoefgcaaGreat

