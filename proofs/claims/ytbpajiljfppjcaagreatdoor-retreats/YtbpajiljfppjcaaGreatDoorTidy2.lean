/- The walk of retrace.Tidy. -/
import Derived.Test.YtbpajiljfppjcaaGreatDoorPlainb
import Derived.Deep.AppendSrc
import Derived.Laws.IdiomStrings
import Derived.Test.YtbpajiljfppjcaaGreatDoorRtMach
import Derived.Test.YtbpajiljfppjcaaGreatDoorShowA
import Derived.Test.YtbpajiljfppjcaaGreatDoorTdDefs
namespace Go.Proofs.YtbpajiljfppjcaaGreatDoor
open Go.RowKit

section
variable {P : Program} (w : World)
theorem run_append_text (base : Nat) (t tx ty e : TypeId) (i : TypeInfo) (z : Value) (ht : P.underlying t = some (.slice e)) (hx : P.underlying tx = some .string) (hi : P.info? e = some i) (hz : i.zero = some z)
    (hsize : i.size = 1) (hby : i.bytes = 1) (hzs : z.cells.size = 1)
    (v : Value) (n : Nat) (xs : List Value) (hown : w.ownsRow base e 1 v n xs) (s : ByteArray)
    (h63 : n + s.size ≤ 140737488355328) (hbase : base ≤ w.heap.size) :
    ∃ v' w', (Builtin.append_ #[t, tx] ty #[v, .string s]).run P w = .ok v' w' ∧ w'.ownsRow base e 1 v' (n + s.size) (xs ++ byteCells s) ∧ w.grownBy w' v.ownBlock := by
  have hs : Src P i.size tx (.string s) s.size (byteCells s) w := by rw [hsize]; exact Src.ofString w hx s
  have hl : (byteCells s).length = s.size := byteCells_length s
  have hlx : xs.length = n := by simpa using hown.1
  have hlen : (xs ++ byteCells s).length = n + s.size := by rw [List.length_append, hlx, hl]
  have hmx : n + s.size ≤ maxLen := by unfold maxLen; omega
  have grown : ∀ (old : Nat), old < n + s.size → ∀ (row : Option Nat),
      (w.drew.alloc (.cells ((xs ++ byteCells s).toArray ++ Builtin.zeroCells z.cells (grownCap w (n + s.size) old e - (n + s.size))) e)).ownsRow base e 1
        (.slice (some ⟨w.heap.size, 0, none⟩) (n + s.size) (grownCap w (n + s.size) old e)) (n + s.size) (xs ++ byteCells s) ∧
      w.grownBy (w.drew.alloc (.cells ((xs ++ byteCells s).toArray ++ Builtin.zeroCells z.cells (grownCap w (n + s.size) old e - (n + s.size))) e)) row := by
    intro old ho row
    have hge := grownCap_ge w (n + s.size) old e
    have hcm : grownCap w (n + s.size) old e ≤ maxLen := grownCap_le_maxLen w (n + s.size) old e hmx
    refine ⟨⟨by rw [hlen]; simp, .inr ⟨w.heap.size, _, _, rfl, hbase, heap_alloc_new w.drew _, hge, hcm, ?_, ?_⟩⟩, ⟨rfl, rfl, rfl, by simp, fun k hk _ => heap_alloc_old w.drew _ hk⟩⟩
    · simp only [Array.size_append, List.size_toArray, size_zeroCells, hzs, hlen]
      omega
    · simp only [Array.toList_append, Nat.mul_one]
      rw [← hlen]
      exact List.take_left
  rcases hown.2 with ⟨rfl, rfl⟩ | ⟨g, cap, cur, rfl, hbg, hg, hnc, hcm, hcs, htake⟩
  · have hx0 : xs = [] := List.eq_nil_of_length_eq_zero hlx
    subst hx0
    by_cases hm : s.size = 0
    · have hn : byteCells s = [] := List.eq_nil_of_length_eq_zero (by rw [hl]; exact hm)
      refine ⟨.slice none 0 0, w, ?_, ?_, ⟨rfl, rfl, rfl, Nat.le_refl _, fun _ _ _ => rfl⟩⟩
      · have h0 := hs.len
        have h1 := hs.cells
        rw [hm, hn] at h1
        simp [Builtin.append_, run_underlying ht, run_underlying hx, sizeOf, typeInfo, hi, Builtin.lenOf, hm, h1]
      · rw [hm, hn]
        exact World.ownsRow_nil w base e 1
    · have hr := run_append_grow_src (P := P) w t tx ty e i z ht hi hz none 0 0 [] (run_firstCells_none w.drew i.size 0 0 0) (.string s) s.size (byteCells s) hs (by omega) (by omega) (by rw [hby]; exact growslice_fits (by omega) (by omega))
      have hgr := grown 0 (by omega) (Value.ownBlock (.slice none 0 0))
      simp only [Nat.zero_add, List.nil_append] at hgr hr ⊢
      exact ⟨_, _, hr, hgr.1, hgr.2⟩
  · by_cases hroom : n + s.size ≤ cap
    · have hst := run_storeCells_at P g n e (byteCells s) 0 cur w hg (by rw [hl, hcs]; omega) hs.one
      simp only [Nat.add_zero] at hst
      have hcl := hs.cells
      rw [hsize] at hcl
      refine ⟨.slice (some ⟨g, 0, none⟩) (n + s.size) cap, w.setRow g (cur.toList.take n ++ byteCells s ++ cur.toList.drop (n + (byteCells s).length)).toArray, ?_, ⟨by rw [hlen]; simp, .inr ⟨g, cap, _, rfl, hbg, setRow_heap w g cur _ e _ hg, hroom, hcm, ?_, ?_⟩⟩, ⟨rfl, rfl, rfl, by simp, fun k _ hk => setRow_other w g k _ (fun e => hk (by simp [Value.ownBlock, e]))⟩⟩
      · simp [Builtin.append_, run_underlying ht, run_underlying hx, sizeOf, typeInfo, hi, Builtin.lenOf, hroom, hcl, Addr.add_lit, hsize, hst]
      · simp only [List.size_toArray, List.length_append, List.length_take, List.length_drop, Array.length_toList]
        omega
      · rw [Nat.mul_one] at htake ⊢
        rw [htake, ← hlen]
        exact List.take_left
    · have holds : ∀ j u, xs[j]? = some u → w.cell? ((⟨g, 0, none⟩ : Addr).add j) = some u := hown.cells (g := g) rfl
      have hr := run_append_grow_src (P := P) w t tx ty e i z ht hi hz (some ⟨g, 0, none⟩) n cap xs (run_firstCells_some (P := P) w.drew i.size n ⟨g, 0, none⟩ n cap xs (by rw [hlx, hsize]; simp) (by simpa using holds)) (.string s) s.size (byteCells s) hs (by omega) (by omega) (by rw [hby]; exact growslice_fits (by omega) (by omega))
      have hgr := grown cap (by omega) (Value.ownBlock (.slice (some ⟨g, 0, none⟩) n cap))
      exact ⟨_, _, hr, hgr.1, hgr.2⟩

theorem wpList_append_text {ops : Array Oper} {rest : List Oper} {o : Oper} {a : Act} {Q : Exit → Act → World → Prop} (hgd : o.guard = none) (r x : Operand) (t tx : TypeId)
    (ho : o.op = .call { callee := .builtin .append, args := #[r, x], argTypes := #[t, tx] })
    (base : Nat) (e : TypeId) (i : TypeInfo) (z : Value) (ht : P.underlying t = some (.slice e)) (hx : P.underlying tx = some .string) (hi : P.info? e = some i) (hz : i.zero = some z)
    (hsize : i.size = 1) (hby : i.bytes = 1) (hzs : z.cells.size = 1)
    (v : Value) (n : Nat) (xs : List Value) (hs : a.eval r = v) (hown : w.ownsRow base e 1 v n xs) (s : ByteArray) (hxs : a.eval x = .string s)
    (h63 : n + s.size ≤ 140737488355328) (hbase : base ≤ w.heap.size)
    (h : ∀ v' w', w'.ownsRow base e 1 v' (n + s.size) (xs ++ byteCells s) → w.grownBy w' v.ownBlock → wpList P ops Q rest (a.put o.dst v') w') : wpList P ops Q (o :: rest) a w := by
  refine wpList_plain hgd fun _ hK => ?_
  obtain ⟨v', w', hr, h2, h3⟩ := run_append_text (P := P) w base t tx o.type e i z ht hx hi hz hsize hby hzs v n xs hown s h63 hbase
  unfold Oper.wp execOp
  simp only [ho, resolve, invoke, builtin, Sem.run_bind, Sem.run_pure, Result.andThen_ok, List.map_toArray, List.map_cons, List.map_nil, hs, hxs, hr]
  exact hK _ _ (h v' w' h2 h3)

/-- string(bytes), of a row of the call's own. -/
theorem run_text_of_own (src dst e : TypeId) (base : Nat) (v : Value) (n : Nat) (l : List UInt8) (hs : P.underlying src = some (.slice e)) (he : P.underlying e = some (.int .u8)) (hd : P.underlying dst = some .string)
    (hown : w.ownsRow base e 1 v n (l.map fun b => Value.int .u8 b.toNat)) : (convert src dst v).run P w = .ok (.string ⟨l.toArray⟩) w := by
  have hn : l.length = n := by simpa using hown.1
  rcases hown.2 with ⟨rfl, rfl⟩ | ⟨g, cap, cur, rfl, _⟩
  · have : l = [] := List.eq_nil_of_length_eq_zero hn
    subst this
    rw [run_convert_bytes_string w src dst e none 0 0 hs he hd]
    rfl
  · subst hn
    exact run_convert_bytes_back w src dst e ⟨g, 0, none⟩ cap l hs he hd (fun j hj => hown.cells (g := g) rfl j _ (by simp [hj]))
end

end Go.Proofs.YtbpajiljfppjcaaGreatDoor

namespace Go.Proofs.YtbpajiljfppjcaaGreatDoor
open Go.RowKit

namespace Rt
theorem byteCells_add (a b : ByteArray) : byteCells (a ++ b) = byteCells a ++ byteCells b := by
  unfold byteCells
  rw [ByteArray.data_append, Array.toList_append, List.map_append]
end Rt

theorem Tryz.infoByte : (Tryz.prog.info? 5).map (fun i => (i.zero, i.size, i.bytes)) = some (some (.int .u8 0), 1, 1) := by kernel_rfl

/-- What a line's value is. -/
def lineAgg (pl : Rt.PL) (a0 a1 a2 a3 : Option Addr) (c0 c1 c2 c3 : Nat) (xe xf : Int) : Array Value := #[.slice a0 pl.toks.length c0, .int .i64 pl.form.kind, .string pl.form.name, .int .i64 pl.form.cells, .slice a1 pl.form.params.length c1, .slice a2 pl.form.index.length c2, .slice a3 pl.form.values.length c3, .int .i64 pl.depth, .int .i64 pl.opener, .int .i64 xe, .int .i64 xf, .int .i64 pl.proc]

set_option maxHeartbeats 2000000 in
set_option maxRecDepth 100000 in
theorem tidyLine_any (w : World) (B : Nat) (pl : Rt.PL) (a0 a1 a2 a3 : Option Addr) (c0 c1 c2 c3 : Nat) (xe xf : Int)
    (htk : w.ownsRow B 154 2 (.slice a0 pl.toks.length c0) pl.toks.length (Rt.toksCells pl.toks)) (hfew : pl.toks.length ≤ 1000) (hsm : ∀ t ∈ pl.toks, t.text.size ≤ 40000) (hdp : pl.depth ≤ 1000) :
    Calls Tryz.prog 64 #[.agg #[.slice a0 pl.toks.length c0, .int .i64 pl.form.kind, .string pl.form.name, .int .i64 pl.form.cells, .slice a1 pl.form.params.length c1, .slice a2 pl.form.index.length c2, .slice a3 pl.form.values.length c3, .int .i64 pl.depth, .int .i64 pl.opener, .int .i64 xe, .int .i64 xf, .int .i64 pl.proc]] w fun e w' => e = .returned (.string (Rt.tidyLn pl)) ∧ Below w.heap.size w w' := by
  obtain ⟨i0, hi0, hz0, hz1, hz2⟩ := info_parts Tryz.infoByte
  by_cases h0 : pl.toks.length = 0
  · have HE := hide (show Rt.tidyLn pl = ⟨#[]⟩ by unfold Rt.tidyLn; rw [if_pos h0])
    have HB := hide ((Below.refl w.heap.size w).alloc (Nat.le_refl _) (.cells #[.slice a0 pl.toks.length c0, .int .i64 pl.form.kind, .string pl.form.name, .int .i64 pl.form.cells, .slice a1 pl.form.params.length c1, .slice a2 pl.form.index.length c2, .slice a3 pl.form.values.length c3, .int .i64 pl.depth, .int .i64 pl.opener, .int .i64 xe, .int .i64 xf, .int .i64 pl.proc] 122))
    clear htk hsm
    have h0' : ((pl.toks.length : Int) == 0) = true := by simpa using h0
    clear h0
    go_enter Tryz.func64, Tryz.ntmps64
    go_wp2_with fail
    go_ret
    exact ⟨by rw [unhide HE]; rfl, unhide HB⟩
  · have HE := hide (show Rt.tidyLn pl = Rt.tokP (Rt.spP ⟨#[]⟩ pl.depth.toNat) pl.toks pl.toks.length by unfold Rt.tidyLn; rw [if_neg h0])
    have h0' : ((pl.toks.length : Int) == 0) = false := by simpa using h0
    have hb0 := (Below.refl w.heap.size w).alloc (Nat.le_refl _) (.cells #[.slice a0 pl.toks.length c0, .int .i64 pl.form.kind, .string pl.form.name, .int .i64 pl.form.cells, .slice a1 pl.form.params.length c1, .slice a2 pl.form.index.length c2, .slice a3 pl.form.values.length c3, .int .i64 pl.depth, .int .i64 pl.opener, .int .i64 xe, .int .i64 xf, .int .i64 pl.proc] 122)
    have htk0 := own_later htk hb0
    have hblk := heap_alloc_new w (.cells #[.slice a0 pl.toks.length c0, .int .i64 pl.form.kind, .string pl.form.name, .int .i64 pl.form.cells, .slice a1 pl.form.params.length c1, .slice a2 pl.form.index.length c2, .slice a3 pl.form.values.length c3, .int .i64 pl.depth, .int .i64 pl.opener, .int .i64 xe, .int .i64 xf, .int .i64 pl.proc] 122)
    have HSM := hide hsm
    clear htk hsm
    have htl : 0 < pl.toks.length := by omega
    obtain ⟨g, capg, hga, _, hglt, _⟩ := own_cell htk0 (Rt.toksCells_get pl.toks 0 htl).1
    simp only [Value.slice.injEq, true_and] at hga
    obtain ⟨rfl, rfl⟩ := hga
    have hfz := htk0.frozenAt
    generalize hW0 : (w.alloc (.cells #[.slice (some ⟨g, 0, none⟩) pl.toks.length c0, .int .i64 pl.form.kind, .string pl.form.name, .int .i64 pl.form.cells, .slice a1 pl.form.params.length c1, .slice a2 pl.form.index.length c2, .slice a3 pl.form.values.length c3, .int .i64 pl.depth, .int .i64 pl.opener, .int .i64 xe, .int .i64 xf, .int .i64 pl.proc] 122)) = W0 at hb0 htk0 hblk hglt
    have HW0 := hide hW0
    have hM : w.heap.size < W0.heap.size := block_lt hblk
    have HK := hide (And.intro htk0 (And.intro hblk hb0))
    clear hblk htk0 hW0 hb0
    go_enter Tryz.func64, Tryz.ntmps64
    go_wp2_with fail
    rw [unhide HW0]
    go_loopw [3, 4] (fun v i wr => ∃ k : Nat, k ≤ pl.depth.toNat ∧ i = .int .i64 k ∧ wr.ownsRow W0.heap.size 5 1 v (Rt.spP ⟨#[]⟩ k).size (byteCells (Rt.spP ⟨#[]⟩ k)) ∧ Below W0.heap.size W0 wr)
      (fun _ i _ => pl.depth.toNat + 1 - (intOf i).toNat)
    case atStart => exact ⟨0, by omega, rfl, World.ownsRow_nil _ _ _ _, Below.refl _ _⟩
    case round =>
      obtain ⟨k, hk, rfl, hown, hbe⟩ := hrel
      have hsz := hbe.size
      have hblk := block_later (unhide HK).2.1 hbe
      have c7 := cell_of_block hblk 7 (by simp)
      simp only [List.getElem_toArray, List.getElem_cons_succ, List.getElem_cons_zero] at c7
      have HS := hide (Rt.spP_size ⟨#[]⟩ k)
      obtain ⟨adv, capv, rfl⟩ := ownsRow_form hown
      by_cases hkd : k < pl.depth.toNat
      · have hkd' : (k : Int) < pl.depth := by omega
        clear hblk
        go_wp2_with (at_builtin; refine wpList_append_text _ rfl _ _ 112 9 rfl W0.heap.size 5 i0 _ Tryz.underlying112 Tryz.underlying9 hi0 hz0 hz1 hz2 rfl _ _ _ rfl hown ⟨#[32, 32]⟩ rfl ?c1 ?c2 ?_)
        case c1 => have := unhide HS; rw [this]; show 0 + 2 * k + 2 ≤ _; omega
        case c2 => exact hsz
        intro v' w3 hown3 hgrow
        have hbe3 := hbe.grown hgrow hsz (fun j hj => (hown.lt j hj).1)
        have HF := hide (And.intro hown3 hbe3)
        clear hown3 hbe3 hgrow hown hbe
        go_wp2_with fail
        go_roundw
        case rel =>
          obtain ⟨q2, q3⟩ := unhide HF
          exact ⟨k + 1, by omega, by go_num, by rw [Rt.spP, Rt.byteCells_add, ByteArray.size_append]; exact q2, q3⟩
        case measure => simp [intOf]; omega
      · have hkd' : ¬ (k : Int) < pl.depth := by omega
        have hke : k = pl.depth.toNat := by omega
        have HF := hide (And.intro hown hbe)
        have HKE := hide hke
        clear hblk hown hbe hkd hk hke
        go_wp2_with fail
        clear hkd' c7
        have hown := (unhide HF).1
        have hbe := (unhide HF).2
        have HS2 : Hid ((Rt.spP ⟨#[]⟩ k).size ≤ 2000) := hide (by have := unhide HS; rw [this, unhide HKE]; show 0 + _ ≤ _; omega)
        clear HS HF
        have HE2 : Hid (Rt.tidyLn pl = Rt.tokP (Rt.spP ⟨#[]⟩ k) pl.toks pl.toks.length) := hide (by rw [unhide HE, unhide HKE])
        clear HE HKE
        generalize Rt.spP ⟨#[]⟩ k = out at *
        go_loopw [3, 5] (fun v i wr => ∃ k : Nat, k ≤ pl.toks.length ∧ i = .int .i64 k ∧ wr.ownsRow W0.heap.size 5 1 v (Rt.tokP out pl.toks k).size (byteCells (Rt.tokP out pl.toks k)) ∧ Below W0.heap.size W0 wr)
          (fun _ i _ => pl.toks.length + 1 - (intOf i).toNat)
        case atStart => exact ⟨0, by omega, rfl, hown, hbe⟩
        case round =>
          clear hown hbe hsz
          obtain ⟨k, hk, rfl, hown, hbe⟩ := hrel
          have hsz := hbe.size
          have hblk := block_later (unhide HK).2.1 hbe
          have c0 := cell_of_block hblk 0 (by simp)
          simp only [List.getElem_toArray, List.getElem_cons_zero] at c0
          have htk := own_later (unhide HK).1 hbe
          have HS := hide (Rt.tokP_size (unhide HSM) out k hk)
          obtain ⟨adv, capv, rfl⟩ := ownsRow_form hown
          clear hblk
          by_cases hkd : k < pl.toks.length
          · have hkd' : (k : Int) < (pl.toks.length : Int) := by omega
            have hk0 : (0 : Int) ≤ (k : Int) := by omega
            have hx := (unhide HSM) _ (List.getElem_mem hkd)
            have hT : Rt.tokP out pl.toks (k + 1) = (if 0 < k then Rt.tokP out pl.toks k ++ ⟨#[32]⟩ else Rt.tokP out pl.toks k) ++ pl.toks[k].text := by
              rw [Rt.tokP, List.getElem?_eq_getElem hkd]; rfl
            have HT := hide hT
            have HX := hide hx
            clear hT hx
            obtain ⟨g1, q1, he1, _, _, d0⟩ := own_cell htk (Rt.toksCells_get pl.toks k hkd).1
            obtain ⟨g2, q2, he2, _, _, d1⟩ := own_cell htk (Rt.toksCells_get pl.toks k hkd).2
            simp only [Value.slice.injEq, Option.some.injEq, Addr.mk.injEq, true_and, and_true] at he1 he2
            obtain ⟨rfl, he1⟩ := he1
            obtain ⟨rfl, he2⟩ := he2
            clear he1 he2
            generalize htke : pl.toks[k] = tk at *
            have HTK := hide htke.symm
            clear htke
            by_cases hkp : 0 < k
            · have hkp' : (0 : Int) < (k : Int) := by omega
              rw [if_pos hkp] at HT
              go_wp2_with (at_builtin; refine wpList_append_own _ rfl _ _ 112 rfl W0.heap.size 5 i0 _ 1 1 Tryz.underlying112 hi0 hz0 hz1 hz2 rfl (by decide) _ _ _ rfl (hown.alloc _) ⟨_, 0, none⟩ 1 1 [.int .u8 32] rfl rfl (cell_one_new _ _ _) ?c2 ?c3 ?c4 ?c5 ?_)
              case c2 => first | rfl | (intro u hu; simp at hu; rcases hu with rfl; rfl)
              case c3 => have := unhide HS; have := unhide HS2; have := unhide HX; unfold maxLen; omega
              case c4 => have := unhide HS; have := unhide HS2; have := unhide HX; omega
              case c5 => first | omega | (simp; omega)
              intro v1 w2 hown2 hgrow2 _
              have hbe2 := below_append hbe hsz hown hgrow2
              have hsz2 := hbe2.size
              have htk2 := own_later (unhide HK).1 hbe2
              have c02 := cell_of_block (block_later (unhide HK).2.1 hbe2) 0 (by simp)
              simp only [List.getElem_toArray, List.getElem_cons_zero] at c02
              have hown2' : w2.ownsRow W0.heap.size 5 1 v1 (Rt.tokP out pl.toks k ++ ⟨#[32]⟩).size (byteCells (Rt.tokP out pl.toks k ++ ⟨#[32]⟩)) := by
                rw [Rt.byteCells_add, ByteArray.size_append]; exact hown2
              have HS3 : Hid ((Rt.tokP out pl.toks k ++ ⟨#[32]⟩).size = (Rt.tokP out pl.toks k).size + 1) := hide (ByteArray.size_append ..)
              clear hown2 hgrow2 hbe hown htk c0 d0 d1
              obtain ⟨g1, q1, he1, _, _, d0⟩ := own_cell htk2 (Rt.toksCells_get pl.toks k hkd).1
              obtain ⟨g2, q2, he2, _, _, d1⟩ := own_cell htk2 (Rt.toksCells_get pl.toks k hkd).2
              simp only [Value.slice.injEq, Option.some.injEq, Addr.mk.injEq, true_and, and_true] at he1 he2
              obtain ⟨rfl, he1⟩ := he1
              obtain ⟨rfl, he2⟩ := he2
              clear he1 he2 htk2
              rw [← unhide HTK] at d0 d1
              generalize (Rt.tokP out pl.toks k ++ ⟨#[32]⟩) = o2 at *
              obtain ⟨ad1, cap1, rfl⟩ := ownsRow_form hown2'
              go_wp2_with (at_builtin; refine wpList_append_text _ rfl _ _ 112 9 rfl W0.heap.size 5 i0 _ Tryz.underlying112 Tryz.underlying9 hi0 hz0 hz1 hz2 rfl _ _ _ rfl hown2' tk.text rfl ?c1 hsz2 ?_)
              case c1 => have := unhide HS; have := unhide HS2; have := unhide HX; have := unhide HS3; omega
              intro v' w3 hown3 hgrow
              have hbe3 := hbe2.grown hgrow hsz2 (fun j hj => (hown2'.lt j hj).1)
              have HF := hide (And.intro hown3 hbe3)
              clear hown3 hbe3 hgrow hown2' hbe2
              go_wp2_with fail
              go_roundw
              case rel =>
                obtain ⟨q2, q3⟩ := unhide HF
                exact ⟨k + 1, by omega, by go_num, by rw [unhide HT, Rt.byteCells_add, ByteArray.size_append]; exact q2, q3⟩
              case measure => simp [intOf]; omega
            · have hkp' : ¬ (0 : Int) < (k : Int) := by omega
              rw [if_neg hkp] at HT
              go_wp2_with (at_builtin; refine wpList_append_text _ rfl _ _ 112 9 rfl W0.heap.size 5 i0 _ Tryz.underlying112 Tryz.underlying9 hi0 hz0 hz1 hz2 rfl _ _ _ rfl hown tk.text rfl ?c1 hsz ?_)
              case c1 => have := unhide HS; have := unhide HS2; have := unhide HX; omega
              intro v' w3 hown3 hgrow
              have hbe3 := hbe.grown hgrow hsz (fun j hj => (hown.lt j hj).1)
              have HF := hide (And.intro hown3 hbe3)
              clear hown3 hbe3 hgrow hown hbe htk
              go_wp2_with fail
              go_roundw
              case rel =>
                obtain ⟨q2, q3⟩ := unhide HF
                exact ⟨k + 1, by omega, by go_num, by rw [unhide HT, Rt.byteCells_add, ByteArray.size_append]; exact q2, q3⟩
              case measure => simp [intOf]; omega
          · have hkd' : ¬ (k : Int) < (pl.toks.length : Int) := by omega
            have hke : k = pl.toks.length := by omega
            have HR : Hid (Rt.tokP out pl.toks k = Rt.tidyLn pl) := hide (by rw [unhide HE2, hke])
            have HF := hide (And.intro hown hbe)
            have hcv := run_text_of_own (P := Tryz.prog) wr 112 9 5 W0.heap.size _ _ (Rt.tokP out pl.toks k).data.toList Tryz.underlying112 Tryz.underlying5 Tryz.underlying9 hown
            have hcv2 : (convert 112 9 (.slice adv (Rt.tokP out pl.toks k).size capv)).run Tryz.prog wr = .ok (.string (Rt.tokP out pl.toks k)) wr := hcv
            clear htk hkd hke hown hbe hcv
            go_wp2_with fail
            go_ret
            exact ⟨by rw [unhide HR]; rfl, (unhide HK).2.2.trans ((unhide HF).2.mono (by omega))⟩

end Go.Proofs.YtbpajiljfppjcaaGreatDoor

namespace Go.Proofs.YtbpajiljfppjcaaGreatDoor
open Go.RowKit


/-- The program stays while a row of another kind grows. -/
theorem prog_grown0 {w w1 : World} {P B : Nat} {pls : List Rt.PL} {lv : Value} {cs : List (List Value)} {row : Option Nat} {t : TypeId} (h : ProgR w P B pls lv cs) (hg : w.grownBy w1 row) (hrow : ∀ x, row = some x → ∃ c, w.heap[x]? = some (.cells c t (0, 0)))
    (ht : t ≠ 73 ∧ t ≠ 122 ∧ t ≠ 154 ∧ t ≠ 9 ∧ t ≠ 200 ∧ t ≠ 117) : ProgR w1 P B pls lv cs := by
  obtain ⟨t1, t2, t3, t4, t5, t6⟩ := ht
  have hblk : ∀ (k : Nat) (x : Obj), w.heap[k]? = some x → (∀ c, x ≠ .cells c t (0, 0)) → w1.heap[k]? = some x := by
    intro k x hk hx
    refine (hg.block k (block_lt hk) ?_).trans hk
    intro e
    obtain ⟨c, hc⟩ := hrow k e.symm
    rw [hk] at hc
    simp at hc
    exact hx c hc
  have hr : ∀ (B : Nat) (t' : TypeId) (size n : Nat) (v : Value) (xs : List Value), t' ≠ t → w.ownsRow B t' size v n xs → w1.ownsRow B t' size v n xs := by
    intro B t' size n v xs hne hv
    obtain ⟨h1, h2⟩ := hv
    refine ⟨h1, ?_⟩
    rcases h2 with h2 | ⟨g, cap, cur, hv', hg', hh, rr⟩
    · exact Or.inl h2
    · exact Or.inr ⟨g, cap, cur, hv', hg', hblk g _ hh (fun c e => by simp at e; exact hne e.2), rr⟩
  have hform : ∀ {v : Array Value} {fm : Rt.PForm}, FormV w B v fm → FormV w1 B v fm := by
    intro v fm hf
    obtain ⟨pv, iv, vv, vs, rfl, h1, h2, h3, h4⟩ := hf
    exact ⟨pv, iv, vv, vs, rfl, hr _ _ _ _ _ _ (Ne.symm t4) h1, hr _ _ _ _ _ _ (Ne.symm t5) h2, hr _ _ _ _ _ _ (Ne.symm t6) h3, ExprsR.map (fun x o hh => hr _ _ _ _ _ _ (Ne.symm t5) hh) _ _ h4⟩
  have hlines : ∀ ps cs, LinesV w B ps cs → LinesV w1 B ps cs := by
    intro ps
    induction ps with
    | nil => intro cs h; cases cs with
      | nil => trivial
      | cons _ _ => exact h.elim
    | cons p ps ih => intro cs h; cases cs with
      | nil => exact h.elim
      | cons c cs =>
        obtain ⟨⟨tv, fv, xe, xf, e, g1, g2⟩, h2⟩ := h
        exact ⟨⟨tv, fv, xe, xf, e, hr _ _ _ _ _ _ (Ne.symm t3) g1, hform g2⟩, ih cs h2⟩
  exact ⟨hblk P _ h.block (fun c e => by simp at e; exact t1 e.2.symm), hr _ _ _ _ _ _ (Ne.symm t2) h.own, hlines _ _ h.lines⟩

set_option maxHeartbeats 2000000 in
set_option maxRecDepth 100000 in
theorem progTidy_r (w : World) (P B : Nat) (pls : List Rt.PL) (lv : Value) (cs : List (List Value)) (h : ProgR w P B pls lv cs) (hlen : pls.length ≤ 101) (hfit : ∀ p ∈ pls, Rt.Fit p) :
    Calls Tryz.prog 35 #[.pointer (some ⟨P, 0, none⟩)] w fun e w' => Below w.heap.size w w' ∧ e = .returned (.string (Rt.tidyP pls)) := by
  obtain ⟨i0, hi0, hz0, hz1, hz2⟩ := info_parts Tryz.infoByte
  have hPlt := block_lt h.block
  have HFit := hide hfit
  clear hfit
  go_enter Tryz.func35, Tryz.ntmps35
  go_wp2_with fail
  go_loopw [3, 4] (fun v i wr => ∃ k : Nat, k ≤ pls.length - 1 ∧ i = .int .i64 ((k : Int) + 1) ∧ ProgR wr P B pls lv cs ∧ wr.ownsRow w.heap.size 5 1 v (Rt.tidyTo pls k).size (byteCells (Rt.tidyTo pls k)) ∧ Below w.heap.size w wr)
    (fun _ i _ => pls.length + 1 - (intOf i).toNat)
  case atStart => exact ⟨0, by omega, rfl, h, World.ownsRow_nil _ _ _ _, Below.refl _ _⟩
  case round =>
    clear h
    obtain ⟨k, hk, rfl, hpr, hown, hbe⟩ := hrel
    have hsz := hbe.size
    have HS := hide (Rt.tidyTo_size (unhide HFit) k)
    obtain ⟨adl, capl, hlv, cP⟩ := hpr.lvForm
    obtain ⟨adv, capv, rfl⟩ := ownsRow_form hown
    by_cases hlt : k + 1 < pls.length
    · have hlt' : (k : Int) + 1 < (pls.length : Int) := by omega
      have hk0 : (0 : Int) ≤ (k : Int) + 1 := by omega
      have HT : Hid (Rt.tidyTo pls (k + 1) = (if 0 < k then Rt.tidyTo pls k ++ ⟨#[10]⟩ else Rt.tidyTo pls k) ++ Rt.tidyLn pls[k + 1]) := hide (by rw [Rt.tidyTo, List.getElem?_eq_getElem hlt]; rfl)
      have HP := hide ((unhide HFit) _ (List.getElem_mem hlt))
      have HL := hide (Rt.tidyLn_size (unhide HP))
      by_cases hkp : 0 < k
      · have hkp' : (1 : Int) < (k : Int) + 1 := by omega
        rw [if_pos hkp] at HT
        go_wp2_with (at_builtin; refine wpList_append_own _ rfl _ _ 112 rfl w.heap.size 5 i0 _ 1 1 Tryz.underlying112 hi0 hz0 hz1 hz2 rfl (by decide) _ _ _ rfl (hown.alloc _) ⟨_, 0, none⟩ 1 1 [.int .u8 10] rfl rfl (cell_one_new _ _ _) ?c2 ?c3 ?c4 ?c5 ?_)
        case c2 => first | rfl | (intro u hu; simp at hu; rcases hu with rfl; rfl)
        case c3 => have := unhide HS; unfold maxLen; omega
        case c4 => have := unhide HS; omega
        case c5 => first | omega | (simp; omega)
        intro v1 w2 hown2 hgrow2 _
        have hbe2 := below_append hbe hsz hown hgrow2
        have hsz2 := hbe2.size
        have hpr2 : ProgR w2 P B pls lv cs := prog_grownr (t := 5) hpr hgrow2 (fun x hx => by
          rcases hown.2 with ⟨h', _⟩ | ⟨g', _, cur, h', _, hh, _⟩
          · rw [h'] at hx; cases hx
          · rw [h'] at hx; simp [Value.ownBlock] at hx; subst hx; exact ⟨_, hh⟩) (by decide)
        have hown2' : w2.ownsRow w.heap.size 5 1 v1 (Rt.tidyTo pls k ++ ⟨#[10]⟩).size (byteCells (Rt.tidyTo pls k ++ ⟨#[10]⟩)) := by
          rw [Rt.byteCells_add, ByteArray.size_append]; exact hown2
        have HS3 : Hid ((Rt.tidyTo pls k ++ ⟨#[10]⟩).size = (Rt.tidyTo pls k).size + 1) := hide (ByteArray.size_append ..)
        clear hown2 hgrow2 hbe hown cP hpr hlv
        generalize (Rt.tidyTo pls k ++ ⟨#[10]⟩) = o2 at *
        obtain ⟨adl2, capl2, hlv, cP⟩ := hpr2.lvForm
        obtain ⟨adv2, capv2, rfl⟩ := ownsRow_form hown2'
        obtain ⟨g, cap', a0, a1, a2, a3, e0, e1, e2, e3, xe, xf, hlv', hglt, ⟨d0, d1, d2, d3, d4, d5, d6, d7, d8, d9, d10, d11⟩, htk, hfv⟩ := hpr2.at hlt
        have hlv2 := hlv.symm.trans hlv'
        simp at hlv2
        obtain ⟨rfl, rfl⟩ := hlv2
        clear hlv hlv' hfv
        generalize pls[k + 1] = p at *
        go_wp2_with fail
        refine (tidyLine_any _ _ p a0 a1 a2 a3 e0 e1 e2 e3 xe xf htk (unhide HP).1 (unhide HP).2.1 (unhide HP).2.2).mono ?_
        rintro e w3 ⟨rfl, hb3⟩
        have hpr3 := hpr2.later hb3
        have hown3 := own_later hown2' hb3
        have hbe3 := hbe2.trans (hb3.mono (B' := w.heap.size) hsz2)
        have hsz3 := hbe3.size
        clear hpr2 hown2' hbe2 hb3 htk d0 d1 d2 d3 d4 d5 d6 d7 d8 d9 d10 d11 cP
        go_wp2_with (at_builtin; refine wpList_append_text _ rfl _ _ 112 9 rfl w.heap.size 5 i0 _ Tryz.underlying112 Tryz.underlying9 hi0 hz0 hz1 hz2 rfl _ _ _ rfl hown3 (Rt.tidyLn p) rfl ?c1 hsz3 ?_)
        case c1 => have := unhide HS; have := unhide HL; have := unhide HS3; omega
        intro v' w4 hown4 hgrow
        have hbe4 := hbe3.grown hgrow hsz3 (fun j hj => (hown3.lt j hj).1)
        have hpr4 : ProgR w4 P B pls lv cs := prog_grown0 (t := 5) hpr3 hgrow (fun x hx => by
          rcases hown3.2 with ⟨h', _⟩ | ⟨g', _, cur, h', _, hh, _⟩
          · rw [h'] at hx; cases hx
          · rw [h'] at hx; simp [Value.ownBlock] at hx; subst hx; exact ⟨_, hh⟩) (by decide)
        have HF := hide (And.intro hpr4 (And.intro hown4 hbe4))
        clear hpr4 hown4 hbe4 hgrow hpr3 hown3 hbe3
        go_wp2_with fail
        go_roundw
        case rel =>
          obtain ⟨q1, q2, q3⟩ := unhide HF
          exact ⟨k + 1, by omega, by go_num, q1, by rw [unhide HT, Rt.byteCells_add, ByteArray.size_append]; exact q2, q3⟩
        case measure => simp [intOf]; omega
      · have hkp' : ¬ (1 : Int) < (k : Int) + 1 := by omega
        rw [if_neg hkp] at HT
        obtain ⟨g, cap', a0, a1, a2, a3, e0, e1, e2, e3, xe, xf, hlv', hglt, ⟨d0, d1, d2, d3, d4, d5, d6, d7, d8, d9, d10, d11⟩, htk, hfv⟩ := hpr.at hlt
        have hlv2 := hlv.symm.trans hlv'
        simp at hlv2
        obtain ⟨rfl, rfl⟩ := hlv2
        clear hlv hlv' hfv
        generalize pls[k + 1] = p at *
        go_wp2_with fail
        refine (tidyLine_any _ _ p a0 a1 a2 a3 e0 e1 e2 e3 xe xf htk (unhide HP).1 (unhide HP).2.1 (unhide HP).2.2).mono ?_
        rintro e w3 ⟨rfl, hb3⟩
        have hpr3 := hpr.later hb3
        have hown3 := own_later hown hb3
        have hbe3 := hbe.trans (hb3.mono (B' := w.heap.size) hsz)
        have hsz3 := hbe3.size
        clear hpr hown hbe hb3 htk d0 d1 d2 d3 d4 d5 d6 d7 d8 d9 d10 d11 cP
        go_wp2_with (at_builtin; refine wpList_append_text _ rfl _ _ 112 9 rfl w.heap.size 5 i0 _ Tryz.underlying112 Tryz.underlying9 hi0 hz0 hz1 hz2 rfl _ _ _ rfl hown3 (Rt.tidyLn p) rfl ?c1 hsz3 ?_)
        case c1 => have := unhide HS; have := unhide HL; omega
        intro v' w4 hown4 hgrow
        have hbe4 := hbe3.grown hgrow hsz3 (fun j hj => (hown3.lt j hj).1)
        have hpr4 : ProgR w4 P B pls lv cs := prog_grown0 (t := 5) hpr3 hgrow (fun x hx => by
          rcases hown3.2 with ⟨h', _⟩ | ⟨g', _, cur, h', _, hh, _⟩
          · rw [h'] at hx; cases hx
          · rw [h'] at hx; simp [Value.ownBlock] at hx; subst hx; exact ⟨_, hh⟩) (by decide)
        have HF := hide (And.intro hpr4 (And.intro hown4 hbe4))
        clear hpr4 hown4 hbe4 hgrow hpr3 hown3 hbe3
        go_wp2_with fail
        go_roundw
        case rel =>
          obtain ⟨q1, q2, q3⟩ := unhide HF
          exact ⟨k + 1, by omega, by go_num, q1, by rw [unhide HT, Rt.byteCells_add, ByteArray.size_append]; exact q2, q3⟩
        case measure => simp [intOf]; omega
    · have hlt' : ¬ (k : Int) + 1 < (pls.length : Int) := by omega
      have HE : Hid (Rt.tidyTo pls k = Rt.tidyP pls) := hide (by rw [Rt.tidyP, show pls.length - 1 = k by omega])
      have hcv : (convert 112 9 (.slice adv (Rt.tidyTo pls k).size capv)).run Tryz.prog wr = .ok (.string (Rt.tidyTo pls k)) wr := run_text_of_own (P := Tryz.prog) wr 112 9 5 w.heap.size _ _ (Rt.tidyTo pls k).data.toList Tryz.underlying112 Tryz.underlying5 Tryz.underlying9 hown
      have HF := hide hbe
      clear hpr hown hbe hlv
      go_wp2_with fail
      go_ret
      exact ⟨unhide HF, by rw [← unhide HE]; rfl⟩

end Go.Proofs.YtbpajiljfppjcaaGreatDoor

namespace Go.Proofs.YtbpajiljfppjcaaGreatDoor
open Go.RowKit

def TidyPP (s : ByteArray) (w : World) (e : Ending) (w' : World) : Prop :=
  Below w.heap.size w w' ∧ ∃ er ln pls, Rt.readS s = (er, ln, pls) ∧
    ((¬ er = 0 ∧ e = .returned (.tuple #[.string ⟨#[]⟩, .int .i64 er, .int .i64 ln])) ∨
     (er = 0 ∧ ln = 0 ∧ e = .returned (.tuple #[.string (Rt.tidyP pls), .int .i64 0, .int .i64 0])))

set_option maxHeartbeats 1000000 in
set_option maxRecDepth 100000 in
theorem tidy_any (s : ByteArray) (w : World) (hs : s.size ≤ maxLen) (hfit : (Rt.readS s).1 = 0 → ∀ p ∈ (Rt.readS s).2.2, Rt.Fit p) :
    Calls Tryz.prog 12 #[.string s] w (TidyPP s w) := by
  have HFit := hide hfit
  clear hfit
  go_enter Tryz.func12, Tryz.ntmps12
  go_wp2_with fail
  refine (read_any s _ hs).mono ?_
  rintro e w1 ⟨hb1, er, ln, pls, hR, (⟨her, rfl⟩ | ⟨rfl, rfl, hlen, lv, cs, rfl, hown, hlines⟩)⟩
  · have HR := hide hR
    have HB := hide (hb1.alloc hb1.size (.cells #[noOps] 73))
    have HN := hide her
    have her' : (er != 0) = true := by simpa using her
    clear hR hb1 her
    go_wp2_with fail
    go_ret3
    exact ⟨unhide HB, er, ln, pls, unhide HR, Or.inl ⟨unhide HN, rfl⟩⟩
  · have HR := hide hR
    have hft : ∀ p ∈ pls, Rt.Fit p := by have := unhide HFit; rw [hR] at this; exact this rfl
    obtain ⟨adl, capl, rfl⟩ := ownsRow_form hown
    have hb2 := (Below.refl w1.heap.size w1).alloc (Nat.le_refl _) (.cells #[.slice adl pls.length capl] 73)
    have hpr : ProgR (w1.alloc (.cells #[.slice adl pls.length capl] 73)) w1.heap.size w.heap.size pls (.slice adl pls.length capl) cs := ⟨heap_alloc_new w1 _, own_later hown hb2, (keeps_later hb2).lines _ _ hlines⟩
    have hsz := hb1.size
    have HFT := hide hft
    clear hR hown hlines hft
    go_wp2_with fail
    refine (progTidy_r _ _ _ _ _ _ hpr hlen (unhide HFT)).mono ?_
    rintro e w3 ⟨hb3, rfl⟩
    have HF := hide (hb1.trans ((hb2.mono (B' := w.heap.size) hsz).trans (hb3.mono (B' := w.heap.size) (by simp; omega))))
    clear hb1 hb2 hpr hb3
    go_wp2_with fail
    go_ret3
    exact ⟨unhide HF, 0, 0, pls, unhide HR, Or.inr ⟨rfl, rfl, rfl⟩⟩

end Go.Proofs.YtbpajiljfppjcaaGreatDoor

