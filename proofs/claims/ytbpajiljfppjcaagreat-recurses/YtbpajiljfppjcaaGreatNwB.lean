/- The machine's beginning: DropTokens. -/
import Derived.Test.YtbpajiljfppjcaaGreatKit0
import Derived.Deep.AppendSrc
import Derived.Test.YtbpajiljfppjcaaGreatCaA
namespace Go.Proofs.YtbpajiljfppjcaaGreat
open Go.RowKit

/-- A row of ints, read. -/
def Ints (w : World) (v : Value) (xs : List Int) : Prop :=
  ∃ ad cap, v = .slice ad xs.length cap ∧ (xs = [] ∨ ∃ b o, ad = some ⟨b, o, none⟩ ∧ ∀ j (h : j < xs.length), w.cell? ⟨b, o + j, none⟩ = some (.int .i64 xs[j]))
theorem Ints.later {w w' : World} {v : Value} {xs : List Int} (h : Ints w v xs) (hb : Below w.heap.size w w') : Ints w' v xs := by
  obtain ⟨ad, cap, rfl, h⟩ := h
  refine ⟨ad, cap, rfl, ?_⟩
  rcases h with h | ⟨b, o, rfl, h⟩
  · exact Or.inl h
  · exact Or.inr ⟨b, o, rfl, fun j hj => cell_later hb (h j hj)⟩
theorem Ints.get {w : World} {v : Value} {xs : List Int} (h : Ints w v xs) {j : Nat} (hj : j < xs.length) : ∃ b o cap, v = .slice (some ⟨b, o, none⟩) xs.length cap ∧ w.cell? ⟨b, o + j, none⟩ = some (.int .i64 xs[j]) := by
  obtain ⟨ad, cap, rfl, h⟩ := h
  rcases h with h | ⟨b, o, rfl, h⟩
  · rw [h] at hj; simp at hj
  · exact ⟨b, o, cap, rfl, h j hj⟩
section
variable {P : Program} (w : World)
theorem run_append_any (base : Nat) (t tx ty e : TypeId) (i : TypeInfo) (z : Value) (ht : P.underlying t = some (.slice e)) (hi : P.info? e = some i) (hz : i.zero = some z)
    (hsize : i.size = 1) (hby : i.bytes ≤ 8) (hzs : z.cells.size = 1)
    (v : Value) (n : Nat) (xs : List Value) (hown : w.ownsRow base e 1 v n xs) (sv : Value) (m : Nat) (news : List Value) (hs : Src P 1 tx sv m news w)
    (h63 : (n + m) * 8 ≤ 140737488355328) (hbase : base ≤ w.heap.size) :
    ∃ v' w', (Builtin.append_ #[t, tx] ty #[v, sv]).run P w = .ok v' w' ∧ w'.ownsRow base e 1 v' (n + m) (xs ++ news) ∧ w.grownBy w' v.ownBlock := by
  have hs1 := hs
  rw [← hsize] at hs
  have hl : news.length = m := by simpa using hs1.newsLen
  have hlx : xs.length = n := by simpa using hown.1
  have hlen : (xs ++ news).length = n + m := by rw [List.length_append, hlx, hl]
  have hmx : n + m ≤ maxLen := by unfold maxLen; omega
  have grown : ∀ (old : Nat), old < n + m → ∀ (row : Option Nat),
      (w.drew.alloc (.cells ((xs ++ news).toArray ++ Builtin.zeroCells z.cells (grownCap w (n + m) old e - (n + m))) e)).ownsRow base e 1
        (.slice (some ⟨w.heap.size, 0, none⟩) (n + m) (grownCap w (n + m) old e)) (n + m) (xs ++ news) ∧
      w.grownBy (w.drew.alloc (.cells ((xs ++ news).toArray ++ Builtin.zeroCells z.cells (grownCap w (n + m) old e - (n + m))) e)) row := by
    intro old ho row
    have hge := grownCap_ge w (n + m) old e
    have hcm : grownCap w (n + m) old e ≤ maxLen := grownCap_le_maxLen w (n + m) old e hmx
    refine ⟨⟨by rw [hlen]; simp, .inr ⟨w.heap.size, _, _, rfl, hbase, heap_alloc_new w.drew _, hge, hcm, ?_, ?_⟩⟩, ⟨rfl, rfl, rfl, by simp, fun k hk _ => heap_alloc_old w.drew _ hk⟩⟩
    · simp only [Array.size_append, List.size_toArray, size_zeroCells, hzs, hlen]
      omega
    · simp only [Array.toList_append, Nat.mul_one]
      rw [← hlen]
      exact List.take_left
  rcases hown.2 with ⟨rfl, rfl⟩ | ⟨g, cap, cur, rfl, hbg, hg, hnc, hcm, hcs, htake⟩
  · have hx0 : xs = [] := List.eq_nil_of_length_eq_zero hlx
    subst hx0
    by_cases hm : m = 0
    · have hn : news = [] := List.eq_nil_of_length_eq_zero (by rw [hl]; exact hm)
      refine ⟨.slice none 0 0, w, ?_, ?_, ⟨rfl, rfl, rfl, Nat.le_refl _, fun _ _ _ => rfl⟩⟩
      · have h0 := hs.len
        have h1 := hs.cells
        rw [hm, hn] at h1
        rcases hs.kind with ⟨e', hk⟩ | hk <;> simp [Builtin.append_, run_underlying ht, run_underlying hk, sizeOf, typeInfo, hi, hs.len, hm, h1]
      · rw [hm, hn]
        exact World.ownsRow_nil w base e 1
    · have hr := run_append_grow_src (P := P) w t tx ty e i z ht hi hz none 0 0 [] (run_firstCells_none w.drew i.size 0 0 0) (sv) m news hs (by omega) (by omega) (growslice_fits (by omega) (Nat.le_trans (Nat.mul_le_mul_left _ hby) h63))
      have hgr := grown 0 (by omega) (Value.ownBlock (.slice none 0 0))
      simp only [Nat.zero_add, List.nil_append] at hgr hr ⊢
      exact ⟨_, _, hr, hgr.1, hgr.2⟩
  · by_cases hroom : n + m ≤ cap
    · have hst := run_storeCells_at P g n e news 0 cur w hg (by rw [hl, hcs]; omega) hs.one
      simp only [Nat.add_zero] at hst
      have hcl := hs.cells
      rw [hsize] at hcl
      refine ⟨.slice (some ⟨g, 0, none⟩) (n + m) cap, w.setRow g (cur.toList.take n ++ news ++ cur.toList.drop (n + news.length)).toArray, ?_, ⟨by rw [hlen]; simp, .inr ⟨g, cap, _, rfl, hbg, setRow_heap w g cur _ e _ hg, hroom, hcm, ?_, ?_⟩⟩, ⟨rfl, rfl, rfl, by simp, fun k _ hk => setRow_other w g k _ (fun e => hk (by simp [Value.ownBlock, e]))⟩⟩
      · rcases hs.kind with ⟨e', hk⟩ | hk <;> simp [Builtin.append_, run_underlying ht, run_underlying hk, sizeOf, typeInfo, hi, hs.len, hroom, hcl, Addr.add_lit, hsize, hst]
      · simp only [List.size_toArray, List.length_append, List.length_take, List.length_drop, Array.length_toList]
        omega
      · rw [Nat.mul_one] at htake ⊢
        rw [htake, ← hlen]
        exact List.take_left
    · have holds : ∀ j u, xs[j]? = some u → w.cell? ((⟨g, 0, none⟩ : Addr).add j) = some u := hown.cells (g := g) rfl
      have hr := run_append_grow_src (P := P) w t tx ty e i z ht hi hz (some ⟨g, 0, none⟩) n cap xs (run_firstCells_some (P := P) w.drew i.size n ⟨g, 0, none⟩ n cap xs (by rw [hlx, hsize]; simp) (by simpa using holds)) (sv) m news hs (by omega) (by omega) (growslice_fits (by omega) (Nat.le_trans (Nat.mul_le_mul_left _ hby) h63))
      have hgr := grown cap (by omega) (Value.ownBlock (.slice (some ⟨g, 0, none⟩) n cap))
      exact ⟨_, _, hr, hgr.1, hgr.2⟩

theorem wpList_append_any {ops : Array Oper} {rest : List Oper} {o : Oper} {a : Act} {Q : Exit → Act → World → Prop} (hgd : o.guard = none) (r x : Operand) (t tx : TypeId)
    (ho : o.op = .call { callee := .builtin .append, args := #[r, x], argTypes := #[t, tx] })
    (base : Nat) (e : TypeId) (i : TypeInfo) (z : Value) (ht : P.underlying t = some (.slice e)) (hi : P.info? e = some i) (hz : i.zero = some z)
    (hsize : i.size = 1) (hby : i.bytes ≤ 8) (hzs : z.cells.size = 1)
    (v : Value) (n : Nat) (xs : List Value) (hs : a.eval r = v) (hown : w.ownsRow base e 1 v n xs) (sv : Value) (m : Nat) (news : List Value) (hxs : a.eval x = sv) (hsrc : Src P 1 tx sv m news w)
    (h63 : (n + m) * 8 ≤ 140737488355328) (hbase : base ≤ w.heap.size)
    (h : ∀ v' w', w'.ownsRow base e 1 v' (n + m) (xs ++ news) → w.grownBy w' v.ownBlock → wpList P ops Q rest (a.put o.dst v') w') : wpList P ops Q (o :: rest) a w := by
  refine wpList_plain hgd fun _ hK => ?_
  obtain ⟨v', w', hr, h2, h3⟩ := run_append_any (P := P) w base t tx o.type e i z ht hi hz hsize hby hzs v n xs hown sv m news hsrc h63 hbase
  unfold Oper.wp execOp
  simp only [ho, resolve, invoke, builtin, Sem.run_bind, Sem.run_pure, Result.andThen_ok, List.map_toArray, List.map_cons, List.map_nil, hs, hxs, hr]
  exact hK _ _ (h v' w' h2 h3)

end

theorem Ints.src {w : World} {v : Value} {xs : List Int} (h : Ints w v xs) : Src Tryz.prog 1 24 v xs.length (xs.map (Value.int .i64)) w := by
  obtain ⟨ad, cap, rfl, h⟩ := h
  have one : ∀ u ∈ xs.map (Value.int .i64), u.oneCell' = true := fun u hu => by
    obtain ⟨_, _, rfl⟩ := List.mem_map.1 hu
    rfl
  rcases h with rfl | ⟨b, o, rfl, h⟩
  · cases ad with
    | none => exact Src.ofNil w Tryz.underlying24 cap
    | some a => exact Src.ofSlice w Tryz.underlying24 a 0 cap [] rfl (fun j u hj => by simp at hj) (fun _ h => by cases h)
  · refine Src.ofSlice w Tryz.underlying24 ⟨b, o, none⟩ xs.length cap _ (by simp) (fun j u hj => ?_) one
    obtain ⟨hj', rfl⟩ := List.getElem?_eq_some_iff.mp hj
    have hjl : j < xs.length := by simpa using hj'
    have := h j hjl
    rw [Addr.add_lit]
    simpa using this

end Go.Proofs.YtbpajiljfppjcaaGreat

namespace Go.Proofs.YtbpajiljfppjcaaGreat
open Go.RowKit
attribute [local go_sem ↓] Go.wp_at_zero Go.wp_at_succ

theorem first_m (w : World) (P B : Nat) (pls : List Rt.PL) (lk : Rt.Lks) (lv : Value) (cs : List (List Value)) (h : ProgM w P B pls lk lv cs) (hlen : pls.length ≤ 101) (hfw : LkFwd pls lk) :
    Calls Tryz.prog 33 #[.pointer (some ⟨P, 0, none⟩)] w fun e w' => e = .returned (.int .i64 (Rt.goOn pls lk 102 (wrap64 (Rt.declP pls Rt.mainName + 1)))) ∧ Below w.heap.size w w' := by
  go_enter Tryz.func33, Tryz.ntmps33
  go_wp2_with fail
  refine (declaration_m _ P B pls lk lv cs Rt.mainName h hlen).mono ?_
  rintro e w1 ⟨rfl, rfl⟩
  go_wp2_with fail
  refine (goOn_any _ P B pls lk lv cs _ h hlen hfw (wrap_range _)).mono ?_
  rintro e w2 ⟨rfl, hb⟩
  have HB := hide hb
  clear hb h
  go_wp2_with fail
  go_ret
  exact ⟨rfl, unhide HB⟩

set_option maxHeartbeats 1000000 in
set_option maxRecDepth 100000 in
theorem zeros_any (w : World) (fm : Rt.PForm) (a1 a2 a3 : Option Addr) (c1 c2 c3 : Nat) (hc : fm.cells ≤ 1000) :
    Calls Tryz.prog 53 #[.agg (fmA fm a1 a2 a3 c1 c2 c3)] w fun e w' => Below w.heap.size w w' ∧ ∃ rv, e = .returned rv ∧ w'.ownsRow w.heap.size 3 1 rv (Rt.zerosI fm).length (intsV (Rt.zerosI fm)) := by
  obtain ⟨i0, hi0, hz0, hz1, hz2⟩ := info_parts Tryz.infoIntK
  obtain ⟨n, hn⟩ : ∃ n : Int, n = if fm.kind = 1 then 1 else fm.cells := ⟨_, rfl⟩
  have HZ := hide (show Rt.zerosI fm = List.replicate n.toNat 0 by rw [hn]; unfold Rt.zerosI; split <;> rfl)
  have hn1 : n ≤ 1000 := by rw [hn]; split <;> omega
  have hb0 := (Below.refl w.heap.size w).alloc (Nat.le_refl _) (.cells (fmA fm a1 a2 a3 c1 c2 c3) 77)
  generalize Rt.zerosI fm = zs at *
  by_cases hk : fm.kind = 1
  · have hk' : (fm.kind == 1) = true := by simpa using hk
    rw [if_pos hk] at hn
    subst hn
    clear hk
    go_enter Tryz.func53, Tryz.ntmps53
    go_wp2_with fail
    go_loopw [4, 5] (fun v i wr => ∃ k : Nat, (k : Int) ≤ max (1 : Int) 0 ∧ i = .int .i64 k ∧ wr.ownsRow w.heap.size 3 1 v k (intsV (List.replicate k 0)) ∧ Below w.heap.size w wr)
      (fun _ i _ => (1 : Int).toNat + 1 - (intOf i).toNat)
    case atStart => exact ⟨0, by omega, rfl, World.ownsRow_nil _ _ _ _, hb0⟩
    case round =>
      obtain ⟨k, hk, rfl, hown, hbe⟩ := hrel
      have hsz := hbe.size
      obtain ⟨adv, capv, rfl⟩ := ownsRow_form hown
      clear hb0
      by_cases hlt : (k : Int) < (1 : Int)
      · go_wp2_with (at_builtin; refine wpList_append_own _ rfl _ _ 24 rfl w.heap.size 3 i0 _ 1 8 Tryz.underlying24 hi0 hz0 hz1 hz2 rfl (by decide) _ _ _ rfl (hown.alloc _) ⟨_, 0, none⟩ 1 1 [.int .i64 0] rfl rfl (cell_one_new _ _ _) ?c2 ?c3 ?c4 ?c5 ?_)
        case c2 => intro u hu; simp at hu; rcases hu with rfl; rfl
        case c3 => unfold maxLen; omega
        case c4 => omega
        case c5 => simp; omega
        intro v' w3 hown3 hgrow _
        have hbe3 := below_append hbe hsz hown hgrow
        have HF := hide (And.intro hown3 hbe3)
        clear hown3 hbe3 hgrow hown hbe
        go_wp2_with fail
        go_roundw
        case rel =>
          obtain ⟨q2, q3⟩ := unhide HF
          exact ⟨k + 1, by omega, by go_num, by rw [List.replicate_succ', intsV, List.map_append]; exact q2, q3⟩
        case measure => simp [intOf]; omega
      · have HE : Hid (zs = List.replicate k 0) := hide (by rw [unhide HZ]; congr 1; omega)
        have HF := hide (And.intro hown hbe)
        clear hown hbe
        go_wp2_with fail
        go_ret
        exact ⟨(unhide HF).2, _, rfl, by rw [unhide HE, List.length_replicate]; exact (unhide HF).1⟩
  · have hk' : (fm.kind == 1) = false := by simpa using hk
    rw [if_neg hk] at hn
    subst hn
    clear hk
    go_enter Tryz.func53, Tryz.ntmps53
    go_wp2_with fail
    go_loopw [4, 5] (fun v i wr => ∃ k : Nat, (k : Int) ≤ max fm.cells 0 ∧ i = .int .i64 k ∧ wr.ownsRow w.heap.size 3 1 v k (intsV (List.replicate k 0)) ∧ Below w.heap.size w wr)
      (fun _ i _ => fm.cells.toNat + 1 - (intOf i).toNat)
    case atStart => exact ⟨0, by omega, rfl, World.ownsRow_nil _ _ _ _, hb0⟩
    case round =>
      obtain ⟨k, hk, rfl, hown, hbe⟩ := hrel
      have hsz := hbe.size
      obtain ⟨adv, capv, rfl⟩ := ownsRow_form hown
      clear hb0
      by_cases hlt : (k : Int) < fm.cells
      · go_wp2_with (at_builtin; refine wpList_append_own _ rfl _ _ 24 rfl w.heap.size 3 i0 _ 1 8 Tryz.underlying24 hi0 hz0 hz1 hz2 rfl (by decide) _ _ _ rfl (hown.alloc _) ⟨_, 0, none⟩ 1 1 [.int .i64 0] rfl rfl (cell_one_new _ _ _) ?c2 ?c3 ?c4 ?c5 ?_)
        case c2 => intro u hu; simp at hu; rcases hu with rfl; rfl
        case c3 => unfold maxLen; omega
        case c4 => omega
        case c5 => simp; omega
        intro v' w3 hown3 hgrow _
        have hbe3 := below_append hbe hsz hown hgrow
        have HF := hide (And.intro hown3 hbe3)
        clear hown3 hbe3 hgrow hown hbe
        go_wp2_with fail
        go_roundw
        case rel =>
          obtain ⟨q2, q3⟩ := unhide HF
          exact ⟨k + 1, by omega, by go_num, by rw [List.replicate_succ', intsV, List.map_append]; exact q2, q3⟩
        case measure => simp [intOf]; omega
      · have HE : Hid (zs = List.replicate k 0) := hide (by rw [unhide HZ]; congr 1; omega)
        have HF := hide (And.intro hown hbe)
        clear hown hbe
        go_wp2_with fail
        go_ret
        exact ⟨(unhide HF).2, _, rfl, by rw [unhide HE, List.length_replicate]; exact (unhide HF).1⟩
end Go.Proofs.YtbpajiljfppjcaaGreat

namespace Go.Proofs.YtbpajiljfppjcaaGreat
open Go.RowKit
attribute [local go_sem ↓] Go.wp_at_zero Go.wp_at_succ

namespace Rt
def noTok (p : PL) : PL := { p with toks := [] }
end Rt
/-- A line's tokens go. -/
theorem ProgM.setT {w : World} {P B : Nat} {acc : List Rt.PL} {p : Rt.PL} {r : List Rt.PL} {lk : Rt.Lks} {g n cap : Nat} {cs : List (List Value)} (h : ProgM w P B (acc ++ p :: r) lk (.slice (some ⟨g, 0, none⟩) n cap) cs) (hP : P ≠ g) (hn : n = (acc ++ p :: r).length) :
    ∃ cs', ProgM (w.setCell ⟨g, acc.length * 12, none⟩ (.slice none 0 0)) P B (acc ++ Rt.noTok p :: r) lk (.slice (some ⟨g, 0, none⟩) n cap) cs' := by
  obtain ⟨d1, c, d2, hcs, hl, hA, hc, hC⟩ := h.lines.part
  have hother : ∀ k, k ≠ g → (w.setCell ⟨g, acc.length * 12, none⟩ (.slice none 0 0)).heap[k]? = w.heap[k]? := fun k hk => Below.heap_setCell w ⟨g, acc.length * 12, none⟩ _ k hk
  have hK : Keeps w (w.setCell ⟨g, acc.length * 12, none⟩ (.slice none 0 0)) B B := by
    intro ty size n' v xs ht' hv
    have hne := own_ne hv h.own ht'
    exact own_same hv (fun g' hg' => hother g' (fun e => hne g' hg' (by rw [e]; rfl)))
  have hlen := hc.len
  obtain ⟨tv, fv, xe, xf, hcc, h1, h2⟩ := hc
  have hc' : LineV w B (Rt.noTok p) (c.set 0 (.slice none 0 0)) := by
    obtain ⟨pv, iv, vv, vs, hfv, hr⟩ := h2
    subst hfv
    subst hcc
    exact ⟨.slice none 0 0, _, xe, xf, rfl, World.ownsRow_nil _ _ _ _, ⟨pv, iv, vv, vs, rfl, hr⟩⟩
  refine ⟨d1 ++ c.set 0 (.slice none 0 0) :: d2, ⟨?_, ?_, ?_, LinesV.join _ _ _ _ _ _ (hK.lines _ _ hA) (hK.line hc') (hK.lines _ _ hC), ?_, ?_⟩⟩
  · have := h.lt
    simpa [World.setCell] using this
  · rw [World.cell?_of_block (a := ⟨P, 0, none⟩) (hother P hP)]
    exact h.cell
  · have hown := h.own
    rw [← hn] at hown
    have e1 : cs.flatten = d1.flatten ++ c ++ d2.flatten := by rw [hcs]; simp
    rw [e1] at hown
    have := own_store1 hown 0 (.slice none 0 0) (by omega)
    rw [hl] at this
    rw [show (acc ++ Rt.noTok p :: r).length = n by rw [hn]; simp]
    simpa using this
  · intro g' n' cap' e i x hx
    injection e with e1 e2 e3
    injection e1 with e1
    injection e1 with e1
    subst e1
    obtain ⟨q1, q2⟩ := h.links g n cap rfl i x hx
    rw [cell_off (by omega), cell_off (by omega)]
    exact ⟨q1, q2⟩
  · rw [h.len]; simp
set_option maxHeartbeats 1000000 in
set_option maxRecDepth 100000 in
theorem drop_any (w : World) (P B : Nat) (pls : List Rt.PL) (lk : Rt.Lks) (lv : Value) (cs : List (List Value)) (h : ProgM w P B pls lk lv cs) (hne : lv.ownBlock ≠ some P) (hlen : pls.length ≤ 101) :
    Calls Tryz.prog 32 #[.pointer (some ⟨P, 0, none⟩)] w fun e w' => e = .returned (.tuple #[]) ∧ (∃ cs', ProgM w' P B (pls.map Rt.noTok) lk lv cs') ∧ w.grownBy w' lv.ownBlock := by
  go_enter Tryz.func32, Tryz.ntmps32
  go_wp2_with fail
  go_loopw [2] (fun i wr => ∃ (k : Nat) (cs' : List (List Value)), k ≤ pls.length ∧ i = .int .i64 k ∧ ProgM wr P B ((pls.take k).map Rt.noTok ++ pls.drop k) lk lv cs' ∧ w.grownBy wr lv.ownBlock)
    (fun i _ => pls.length + 1 - (intOf i).toNat)
  case atStart => exact ⟨0, cs, Nat.zero_le _, rfl, by simpa using h, ⟨rfl, rfl, rfl, Nat.le_refl _, fun _ _ _ => rfl⟩⟩
  case round =>
    clear h
    obtain ⟨k, cs', hk, rfl, hpr, hgr⟩ := hrel
    have hl : ((pls.take k).map Rt.noTok ++ pls.drop k).length = pls.length := by simp; omega
    obtain ⟨adl, capl, hlv, cP⟩ := hpr.lvForm
    rw [hl] at hlv cP
    by_cases hlt : k < pls.length
    · have hlt' : (k : Int) < (pls.length : Int) := by omega
      have hk0 : (0 : Int) ≤ (k : Int) := by omega
      have hs : (pls.take k).map Rt.noTok ++ pls.drop k = (pls.take k).map Rt.noTok ++ pls[k] :: pls.drop (k + 1) := by rw [List.drop_eq_getElem_cons hlt]
      have hs2 : (pls.take (k + 1)).map Rt.noTok ++ pls.drop (k + 1) = (pls.take k).map Rt.noTok ++ Rt.noTok pls[k] :: pls.drop (k + 1) := by
        rw [List.take_add_one, List.getElem?_eq_getElem hlt, List.map_append, List.append_assoc]; rfl
      rw [hs] at hpr
      have hl1 : ((pls.take k).map Rt.noTok).length = k := by simp; omega
      obtain ⟨g, cap, a0, a1, a2, a3, k0, k1, k2, k3, xe, xf, hlv2, hglt, ⟨t0, -⟩, ⟨f0, -⟩, -⟩ := hpr.get
      rw [hlv] at hlv2
      injection hlv2 with e1 e2 e3
      clear e2
      subst e1 e3
      rw [hl1] at t0 f0
      have hgP : P ≠ g := by rw [hlv] at hne; intro e; exact hne (by rw [e]; rfl)
      have hlen2 : pls.length = ((pls.take k).map Rt.noTok ++ pls[k] :: pls.drop (k + 1)).length := by rw [← hs, hl]
      have hset := (hlv ▸ hpr).setT hgP hlen2
      rw [hl1, ← hs2, ← hlv] at hset
      have HF := hide (And.intro hset (grown_more hgr (by rw [hlv]; exact set_grown wr ⟨g, k * 12, none⟩ (.slice none 0 0))))
      clear hpr hgr hset hs hs2 hl hl1 hlen2 hlv hgP
      generalize pls[k].toks.length = tl at *
      go_wp2_with fail
      go_roundw
      case rel =>
        obtain ⟨⟨cs2, q1⟩, q2⟩ := unhide HF
        exact ⟨k + 1, cs2, by omega, by go_num, q1, q2⟩
      case measure => simp [intOf]; omega
    · have hlt' : ¬ (k : Int) < (pls.length : Int) := by omega
      have he : (pls.take k).map Rt.noTok ++ pls.drop k = pls.map Rt.noTok := by rw [List.take_of_length_le (by omega), List.drop_eq_nil_of_le (by omega), List.append_nil]
      rw [he] at hpr
      have HF := hide (And.intro hpr hgr)
      clear hpr hgr he hlv hl
      go_wp2_with fail
      go_end0
      exact ⟨rfl, ⟨_, (unhide HF).1⟩, (unhide HF).2⟩
end Go.Proofs.YtbpajiljfppjcaaGreat

