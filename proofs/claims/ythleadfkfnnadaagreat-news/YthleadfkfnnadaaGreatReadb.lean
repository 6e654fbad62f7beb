/- The walks of the reader's small methods, continued. -/
import Derived.Test.YthleadfkfnnadaaGreatRfDefs
import Derived.Deep.QuietTactic
import Derived.BigQuiet
import Derived.Test.YthleadfkfnnadaaGreatRowA
import Derived.Deep.RegionHeld3
import Derived.Deep.AppendLies
import Derived.Deep.DrawnRows
namespace Go.Proofs.YthleadfkfnnadaaGreat
open Go.RowKit
theorem ret2_int {k : IntKind} {a b c d : Int} (h : a = b) (h' : c = d) : Ending.returned (.tuple #[.int k a, .int k c]) = .returned (.tuple #[.int k b, .int k d]) := by rw [h, h']
set_option maxHeartbeats 400000 in
theorem countWithin_any (s : ByteArray) (a : Nat) (lo hi : Int) (w : World) (hs : s.size ≤ maxLen) (ha : a ≤ s.size) :
    Calls Tryz.prog 194 #[.string s, .int .i64 a, .int .u8 lo, .int .u8 hi] w fun e w' => e = .returned (.int .i64 (Rt.cw s lo hi a)) ∧ w' = w := by
  unfold maxLen at hs
  go_enter Tryz.func194, Tryz.ntmps194
  go_wp2
  go_loop [9] (fun i => ∃ k : Nat, a ≤ k ∧ k ≤ s.size ∧ i = .int .i64 k ∧ ∀ j (h : j < s.size), a ≤ j → j < k → Rt.within lo hi s[j] = true) (fun i => s.size - (intOf i).toNat)
  case atStart => exact ⟨a, Nat.le_refl _, ha, rfl, fun j h h1 h2 => by omega⟩
  case round =>
    obtain ⟨k, hak, hk, rfl, hall⟩ := hrel
    have HA : Hid (∀ j (h : j < s.size), a ≤ j → j < k → Rt.within lo hi s[j] = true) := hall
    clear hall
    by_cases hlt : k < s.size
    · go_wp2
      · have h1 : lo ≤ (s[k].toNat : Int) := by assumption
        have h2 : (s[k].toNat : Int) ≤ hi := by assumption
        go_round
        case rel =>
          refine ⟨k + 1, by omega, by omega, by go_num, fun j h hj1 hj2 => ?_⟩
          by_cases e : j = k
          · subst e; simp [Rt.within, h1, h2]
          · exact HA.out j h hj1 (by omega)
        case measure => simp [intOf]; omega
      · have h2 : hi < (s[k].toNat : Int) := by assumption
        have := Rt.cw_eq s lo hi a k hak hk HA.out (fun h => by simp [Rt.within]; omega)
        go_ret
        exact ⟨ret_int (by rw [this]; omega), rfl⟩
      · have h2 : (s[k].toNat : Int) < lo := by assumption
        have := Rt.cw_eq s lo hi a k hak hk HA.out (fun h => by simp [Rt.within]; omega)
        go_ret
        exact ⟨ret_int (by rw [this]; omega), rfl⟩
    · go_wp2
      go_ret
      have := Rt.cw_eq s lo hi a k hak hk HA.out (fun h => absurd h hlt)
      exact ⟨ret_int (by rw [this]; omega), rfl⟩
set_option maxHeartbeats 400000 in
theorem isSign_any (b : Int) (w : World) :
    Calls Tryz.prog 195 #[.int .u8 b] w fun e w' => e = .returned (.bool (Rt.sign b)) ∧ w' = w := by
  go_enter Tryz.func195, Tryz.ntmps195
  go_wp2
  all_goals (go_ret; exact ⟨by simp_all [Rt.sign], rfl⟩)
set_option maxHeartbeats 400000 in
theorem measure_any (s : ByteArray) (a : Nat) (w : World) (hs : s.size ≤ maxLen) (ha : a ≤ s.size) :
    Calls Tryz.prog 168 #[.string s, .int .i64 a] w fun e w' => e = .returned (.tuple #[.int .i64 (Rt.measK s a), .int .i64 (Rt.measN s a)]) ∧ w' = w := by
  have hs' := hs
  unfold maxLen at hs'
  go_enter Tryz.func168, Tryz.ntmps168
  go_wp2_with (first | (go_at_call 194; refine (countWithin_any _ _ _ _ _ hs ha).mono ?_; rintro e w' ⟨rfl, rfl⟩) | (go_at_call 195; refine (isSign_any _ _).mono ?_; rintro e w' ⟨rfl, rfl⟩))
  · go_ret2
    exact ⟨ret2_int (by unfold Rt.measK; (repeat' split) <;> omega) (by unfold Rt.measN; (repeat' split) <;> omega), rfl⟩
  · go_ret2
    exact ⟨ret2_int (by unfold Rt.measK; (repeat' split) <;> omega) (by unfold Rt.measN; (repeat' split) <;> omega), rfl⟩
  · go_ret2
    exact ⟨ret2_int (by unfold Rt.measK; (repeat' split) <;> omega) (by unfold Rt.measN; (repeat' split) <;> omega), rfl⟩
  · go_ret2
    exact ⟨ret2_int (by unfold Rt.measK; (repeat' split) <;> omega) (by unfold Rt.measN; (repeat' split) <;> omega), rfl⟩
  · have h1 : a < s.size := by assumption
    have h2 : Rt.sign ↑s[a].toNat = true := by assumption
    have h3 : Hid (a < s.size ∧ Rt.sign (Rt.byteAt s a) = true) := ⟨h1, by rw [Rt.byteAt_lt h1]; exact h2⟩
    go_ret2
    exact ⟨ret2_int (by unfold Rt.measK; rw [if_pos h3.out]; (repeat' split) <;> omega) (by unfold Rt.measN; rw [if_pos h3.out]; (repeat' split) <;> omega), rfl⟩
  · have h1 : a < s.size := by assumption
    have h2 : Rt.sign ↑s[a].toNat = false := by assumption
    have h3 : Hid (¬ (a < s.size ∧ Rt.sign (Rt.byteAt s a) = true)) := by rintro ⟨_, h⟩; rw [Rt.byteAt_lt h1, h2] at h; cases h
    go_ret2
    exact ⟨ret2_int (by unfold Rt.measK; rw [if_neg h3.out]; (repeat' split) <;> omega) (by unfold Rt.measN; rw [if_neg h3.out]; (repeat' split) <;> omega), rfl⟩
  · go_ret2
    exact ⟨ret2_int (by unfold Rt.measK; (repeat' split) <;> omega) (by unfold Rt.measN; (repeat' split) <;> omega), rfl⟩
set_option maxHeartbeats 400000 in
theorem tooLong_any (s : ByteArray) (w : World) (hs : s.size ≤ maxLen) :
    Calls Tryz.prog 74 #[.string s] w fun e w' => e = .returned (.bool (Rt.tooLong s)) ∧ w' = w := by
  unfold maxLen at hs
  by_cases hbig : 40000 < s.size
  · go_enter Tryz.func74, Tryz.ntmps74
    go_wp2
    go_ret
    exact ⟨by simp [Rt.tooLong, hbig], rfl⟩
  · have hbig' : ¬ (40000 : Int) < (s.size : Int) := by omega
    go_enter Tryz.func74, Tryz.ntmps74
    go_wp2
    go_loop [3, 4] (fun n i => ∃ k : Nat, k ≤ s.size ∧ i = .int .i64 k ∧ n = .int .i64 (1 + Rt.nls s k : Nat)) (fun _ i => s.size - (intOf i).toNat)
    case atStart => exact ⟨0, Nat.zero_le _, rfl, rfl⟩
    case round =>
      obtain ⟨k, hk, rfl, rfl⟩ := hrel
      have hn := Rt.nls_le s k
      by_cases hlt : k < s.size
      · have HS : Hid (Rt.nls s (k + 1) = Rt.nls s k + (if (s[k].toNat : Int) = 10 then 1 else 0)) := by rw [← Rt.byteAt_lt hlt]; rfl
        go_wp2
        all_goals
          go_round
          case rel => exact ⟨k + 1, by omega, by go_num, by rw [HS.out]; first | (rw [if_pos (beqT (by assumption))]; go_num) | (rw [if_neg (beqF (by assumption))]; go_num)⟩
          case measure => simp [intOf]; omega
      · have hkk : k = s.size := by omega
        subst hkk
        go_wp2
        go_ret
        exact ⟨by simp [Rt.tooLong, hbig]; omega, rfl⟩
theorem Tryz.infoTok : (Tryz.prog.info? 188).map (fun i => (i.zero, i.size, i.bytes)) = some (some (.agg #[.int .i64 0, .string ByteArray.empty]), 2, 24) := by kernel_rfl
set_option maxHeartbeats 400000 in
set_option maxRecDepth 100000 in
theorem tokens_any (s : ByteArray) (w : World) (hs : s.size ≤ 40000) :
    Calls Tryz.prog 121 #[.string s] w fun e w' => Below w.heap.size w w' ∧
      ((Rt.toks s = none ∧ e = .returned (.tuple #[.slice none 0 0, .bool false])) ∨
       ∃ ts v, Rt.toks s = some ts ∧ e = .returned (.tuple #[v, .bool true]) ∧ w'.ownsRow w.heap.size 188 2 v ts.length (Rt.toksCells ts)) := by
  have hm : s.size ≤ maxLen := by unfold maxLen; omega
  obtain ⟨i0, hi, hz0, hz1, hz2⟩ := info_parts Tryz.infoTok
  go_enter Tryz.func121, Tryz.ntmps121
  go_wp2
  go_loopw [4, 5] (fun v i wr => ∃ (k f : Nat) (acc : List Rt.Tk), k ≤ s.size ∧ i = .int .i64 k ∧ s.size < f + k ∧ acc.length ≤ 24 ∧ Rt.toksFrom s f k acc = Rt.toks s ∧ wr.ownsRow w.heap.size 188 2 v acc.length (Rt.toksCells acc) ∧ Below w.heap.size w wr)
    (fun _ i _ => s.size - (intOf i).toNat)
  case atStart => exact ⟨0, s.size + 1, [], Nat.zero_le _, rfl, by omega, by simp, rfl, World.ownsRow_nil _ _ _ _, Below.refl _ _⟩
  case round =>
    obtain ⟨k, f, acc, hk, rfl, hf, hacc, heq, hown, hnx⟩ := hrel
    have HQ : Hid (Rt.toksFrom s f k acc = Rt.toks s) := heq
    clear heq
    have hsz := hnx.size
    obtain ⟨f, rfl⟩ : ∃ g, f = g + 1 := ⟨f - 1, by omega⟩
    obtain ⟨ad, cap, rfl⟩ := ownsRow_form hown
    by_cases hlt : k < s.size
    · have hB := Rt.byteAt_lt hlt
      by_cases hb : s[k].toNat = 32
      · have HR : Hid (Rt.toksFrom s f (k + 1) acc = Rt.toks s) := by
          have h := HQ.out
          rw [Rt.toksFrom, if_pos hlt, if_pos (by rw [hB, hb]; rfl)] at h
          exact h
        clear hB
        have hb' : ((s[k].toNat : Int) == 32) = true := by simp [hb]
        clear hb
        go_wp2_with fail
        go_roundw
        case rel => exact ⟨k + 1, f, acc, by omega, by go_num, by omega, hacc, HR.out, hown, hnx⟩
        case measure => simp [intOf]; omega
      · have hb' : ((s[k].toNat : Int) == 32) = false := by simp; omega
        have hle := Rt.measN_le s k (by omega)
        have hne : ¬ Rt.byteAt s k = 32 := by rw [hB]; omega
        clear hB
        by_cases hz : Rt.measN s k = 0
        · have HR : Hid (Rt.toks s = none) := by
            have h := HQ.out
            rw [Rt.toksFrom, if_pos hlt, if_neg hne, if_pos (Or.inl hz)] at h
            exact h.symm
          clear hne
          go_wp2_with (go_at_call 168; refine (measure_any s k _ hm (by omega)).mono ?_; rintro e w' ⟨rfl, rfl⟩; rw [hz])
          go_ret2
          exact ⟨hnx, Or.inl ⟨HR.out, rfl⟩⟩
        · by_cases h24 : 24 ≤ acc.length
          · have HR : Hid (Rt.toks s = none) := by
              have h := HQ.out
              rw [Rt.toksFrom, if_pos hlt, if_neg hne, if_pos (Or.inr h24)] at h
              exact h.symm
            clear hne
            have hz' : ((Rt.measN s k : Int) == 0) = false := by simp; omega
            go_wp2_with (go_at_call 168; refine (measure_any s k _ hm (by omega)).mono ?_; rintro e w' ⟨rfl, rfl⟩)
            go_ret2
            exact ⟨hnx, Or.inl ⟨HR.out, rfl⟩⟩
          · have HR : Hid (Rt.toksFrom s f (k + Rt.measN s k) (acc ++ [⟨Rt.measK s k, s.extract k (k + Rt.measN s k)⟩]) = Rt.toks s) := by
              have h := HQ.out
              rw [Rt.toksFrom, if_pos hlt, if_neg hne, if_neg (by omega)] at h
              exact h
            clear hne
            have hz' : ((Rt.measN s k : Int) == 0) = false := by simp; omega
            go_wp2_with (first
              | (at_builtin; refine wpList_append_own _ rfl (.tmp 31) (.tmp 40) 137 rfl w.heap.size 188 i0 _ 2 24 Tryz.underlying137 hi hz0 hz1 hz2 rfl (by decide) _ _ _ rfl (hown.alloc _) ⟨_, 0, none⟩ 1 1 [.int .i64 (Rt.measK s k), .string (s.extract k (k + Rt.measN s k))] rfl rfl (cell_two_new _ _ _ _) ?c2 ?c3 ?c4 ?c5 ?_)
              | (go_at_call 168; refine (measure_any s k _ hm (by omega)).mono ?_; rintro e w' ⟨rfl, rfl⟩))
            case c2 => intro u hu; simp at hu; rcases hu with rfl | rfl <;> rfl
            case c3 => unfold maxLen; omega
            case c4 => omega
            case c5 => simp; omega
            intro v' w1 hown' hgrow _
            have hb2 := below_append hnx hsz hown hgrow
            clear hgrow hown hnx
            go_wp2
            go_roundw
            case rel => exact ⟨k + Rt.measN s k, f, _, by omega, by go_num, by omega, by simp; omega, HR.out, by rw [Rt.toksCells_snoc]; simpa using hown', hb2⟩
            case measure => simp [intOf]; omega
    · go_wp2
      go_ret2
      have h := HQ.out
      rw [Rt.toksFrom, if_neg hlt] at h
      exact ⟨hnx, Or.inr ⟨acc, _, h.symm, rfl, hown⟩⟩
set_option maxHeartbeats 400000 in
set_option maxRecDepth 100000 in
theorem lines_any (s : ByteArray) (w : World) (hs : s.size ≤ 40000) :
    Calls Tryz.prog 120 #[.string s] w fun e w' => Below w.heap.size w w' ∧
      ∃ v, e = .returned v ∧ w'.ownsRow w.heap.size 9 1 v (Rt.lines s).length ((Rt.lines s).map Value.string) := by
  obtain ⟨i0, hi, hz0, hz1, hz2⟩ := info_parts Tryz.infoStr
  go_enter Tryz.func120, Tryz.ntmps120
  go_wp2
  go_loopw [3, 4, 5] (fun v st i wr => ∃ (k a f : Nat) (acc : List ByteArray), a ≤ k ∧ k ≤ s.size ∧ i = .int .i64 k ∧ st = .int .i64 a ∧ s.size < f + k ∧ acc.length ≤ k ∧ Rt.linesFrom s f a k acc = Rt.lines s ∧ wr.ownsRow w.heap.size 9 1 v acc.length (acc.map Value.string) ∧ Below w.heap.size w wr)
    (fun _ _ i _ => s.size - (intOf i).toNat)
  case atStart => exact ⟨0, 0, s.size + 1, [], Nat.le_refl _, Nat.zero_le _, rfl, rfl, by omega, by simp, rfl, World.ownsRow_nil _ _ _ _, Below.refl _ _⟩
  case round =>
    obtain ⟨k, a, f, acc, hak, hk, rfl, rfl, hf, hacc, heq, hown, hnx⟩ := hrel
    have HQ : Hid (Rt.linesFrom s f a k acc = Rt.lines s) := heq
    clear heq
    have hsz := hnx.size
    obtain ⟨f, rfl⟩ : ∃ g, f = g + 1 := ⟨f - 1, by omega⟩
    obtain ⟨ad, cap, rfl⟩ := ownsRow_form hown
    by_cases hlt : k < s.size
    · have hB := Rt.byteAt_lt hlt
      by_cases hb : s[k].toNat = 10
      · have HR : Hid (Rt.linesFrom s f (k + 1) (k + 1) (acc ++ [s.extract a k]) = Rt.lines s) := by
          have h := HQ.out
          rw [Rt.linesFrom, if_pos hlt, if_pos (by rw [hB, hb]; rfl)] at h
          exact h
        clear hB
        have hb' : ((s[k].toNat : Int) == 10) = true := by simp [hb]
        clear hb
        go_wp2_with (at_builtin; refine wpList_append_own _ rfl (.tmp 16) (.tmp 21) 87 rfl w.heap.size 9 i0 _ 1 16 Tryz.underlying87 hi hz0 hz1 hz2 rfl (by decide) _ _ _ rfl (hown.alloc _) ⟨_, 0, none⟩ 1 1 [.string (s.extract a k)] rfl rfl (cell_one_new _ _ _) ?c2 ?c3 ?c4 ?c5 ?_)
        case c2 => intro u hu; simp at hu; rcases hu with rfl; rfl
        case c3 => unfold maxLen; omega
        case c4 => omega
        case c5 => simp; omega
        intro v' w1 hown' hgrow _
        have hb2 := below_append hnx hsz hown hgrow
        clear hgrow hown hnx
        go_wp2
        go_roundw
        case rel => exact ⟨k + 1, k + 1, f, _, by omega, by omega, by go_num, by go_num, by omega, by simp; omega, HR.out, by simpa using hown', hb2⟩
        case measure => simp [intOf]; omega
      · have HR : Hid (Rt.linesFrom s f a (k + 1) acc = Rt.lines s) := by
          have h := HQ.out
          rw [Rt.linesFrom, if_pos hlt, if_neg (by rw [hB]; omega)] at h
          exact h
        clear hB
        have hb' : ((s[k].toNat : Int) == 10) = false := by simp; omega
        go_wp2
        go_roundw
        case rel => exact ⟨k + 1, a, f, acc, by omega, by omega, by go_num, rfl, by omega, by omega, HR.out, hown, hnx⟩
        case measure => simp [intOf]; omega
    · have HR : Hid (acc ++ [s.extract a s.size] = Rt.lines s) := by
        have h := HQ.out
        rw [Rt.linesFrom, if_neg hlt] at h
        exact h
      go_wp2_with (at_builtin; refine wpList_append_own _ rfl (.tmp 25) (.tmp 29) 87 rfl w.heap.size 9 i0 _ 1 16 Tryz.underlying87 hi hz0 hz1 hz2 rfl (by decide) _ _ _ rfl (hown.alloc _) ⟨_, 0, none⟩ 1 1 [.string (s.extract a s.size)] rfl rfl (cell_one_new _ _ _) ?d2 ?d3 ?d4 ?d5 ?_)
      case d2 => intro u hu; simp at hu; rcases hu with rfl; rfl
      case d3 => unfold maxLen; omega
      case d4 => omega
      case d5 => simp; omega
      intro v' w1 hown' hgrow _
      have hb2 := below_append hnx hsz hown hgrow
      clear hgrow hown hnx
      go_wp2
      go_ret
      exact ⟨hb2, _, rfl, by rw [← HR.out]; simpa using hown'⟩
def TokR (w : World) (R : Nat) (tv : Value) (ts : List Rt.Tk) : Prop :=
  ∃ b cap, tv = .slice (some ⟨b, 0, none⟩) ts.length cap ∧ b < R ∧
    ∀ i (h : i < ts.length), w.cell? ⟨b, i * 2, none⟩ = some (.int .i64 ts[i].kind) ∧ w.cell? ⟨b, i * 2 + 1, none⟩ = some (.string ts[i].text)
structure RFr (R : Nat) (ov ov' : Value) (w w' : World) : Prop where
  os : w'.os = w.os
  tape : w'.tape = w.tape
  output : w'.output = w.output
  size : w.heap.size ≤ w'.heap.size
  block : ∀ k, k < w.heap.size → k ≠ R → some k ≠ ov.ownBlock → w'.heap[k]? = w.heap[k]?
  own : ∀ g, ov'.ownBlock = some g → ov.ownBlock = some g ∨ w.heap.size ≤ g
theorem RFr.refl (R : Nat) (ov : Value) (w : World) : RFr R ov ov w w := ⟨rfl, rfl, rfl, Nat.le_refl _, fun _ _ _ _ => rfl, fun _ h => Or.inl h⟩
theorem RFr.trans {R : Nat} {a b c : Value} {w w1 w2 : World} (h : RFr R a b w w1) (k : RFr R b c w1 w2) : RFr R a c w w2 :=
  ⟨k.os.trans h.os, k.tape.trans h.tape, k.output.trans h.output, Nat.le_trans h.size k.size,
    fun i hi hR ha => (k.block i (Nat.lt_of_lt_of_le hi h.size) hR (fun e => by rcases h.own i e.symm with x | x; exact ha x.symm; omega)).trans (h.block i hi hR ha),
    fun g hg => by
      rcases k.own g hg with x | x
      · rcases h.own g x with y | y
        · exact Or.inl y
        · exact Or.inr y
      · exact Or.inr (Nat.le_trans h.size x)⟩
def popCells (o : Pop) : List Value := [.int .i64 o.code, .int .i64 o.number, .string o.name]
def popsCells (os : List Pop) : List Value := os.flatMap popCells
theorem popsCells_snoc (os : List Pop) (o : Pop) : popsCells (os ++ [o]) = popsCells os ++ [.int .i64 o.code, .int .i64 o.number, .string o.name] := by simp [popsCells, popCells]
structure RdS (w : World) (R : Nat) (tv : Value) (ts : List Rt.Tk) (n : Nat) (ov : Value) (ops : List Pop) : Prop where
  le : n ≤ ts.length
  few : ts.length ≤ 24
  fewOps : ops.length ≤ n
  block : w.heap[R]? = some (.cells #[tv, .int .i64 n, ov] 208 (0, 0))
  toks : TokR w R tv ts
  own : w.ownsRow (R + 1) 236 3 ov ops.length (popsCells ops)
set_option maxHeartbeats 400000 in
theorem more_any (w : World) (R : Nat) (tv : Value) (ts : List Rt.Tk) (n : Nat) (ov : Value) (ops : List Pop) (hr : RdS w R tv ts n ov ops) :
    Calls Tryz.prog 170 #[.pointer (some ⟨R, 0, none⟩)] w fun e w' => e = .returned (.bool (decide (n < ts.length))) ∧ ∃ q, w' = w.drewN q := by
  obtain ⟨b, cap, rfl, hb, hc⟩ := hr.toks
  have c0 := cell_of_block hr.block 0 (by simp)
  have c1 := cell_of_block hr.block 1 (by simp)
  simp at c0 c1
  clear hc
  go_enter Tryz.func170, Tryz.ntmps170
  go_wp2_with fail
  go_quiet (fail)
  go_wp2
  go_ret
  exact ⟨by simp, _, rfl⟩
theorem RdS.bump {w : World} {R : Nat} {tv : Value} {ts : List Rt.Tk} {n : Nat} {ov : Value} {ops : List Pop} (hr : RdS w R tv ts n ov ops) (h : n < ts.length) (q : Nat) :
    RdS ((w.drewN q).setCell ⟨R, 1, none⟩ (.int .i64 ((n : Int) + 1))) R tv ts (n + 1) ov ops ∧ RFr R ov ov w ((w.drewN q).setCell ⟨R, 1, none⟩ (.int .i64 ((n : Int) + 1))) := by
  have hlt : R < w.heap.size := World.block_lt_of_cell? w _ (cell_of_block hr.block 0 (by simp))
  have hother : ∀ k, k ≠ R → ((w.drewN q).setCell ⟨R, 1, none⟩ (.int .i64 ((n : Int) + 1))).heap[k]? = w.heap[k]? := fun k hk => Below.heap_setCell (w.drewN q) ⟨R, 1, none⟩ _ k hk
  have hown := hr.own
  refine ⟨⟨by omega, hr.few, by have := hr.fewOps; omega, ?_, ?_, ?_⟩, ⟨rfl, rfl, rfl, by simp [World.setCell], fun k _ hk _ => hother k hk, fun _ h => Or.inl h⟩⟩
  · have := hr.block
    show ((w.drewN q).heap.modify R _)[R]? = _
    rw [Array.getElem?_modify]
    simp [World.drewN, this]
  · obtain ⟨b, cap, rfl, hb, hc⟩ := hr.toks
    exact ⟨b, cap, rfl, hb, fun i h => ⟨by rw [World.cell?_of_block (w := w) (hother b (by omega))]; exact (hc i h).1, by rw [World.cell?_of_block (w := w) (hother b (by omega))]; exact (hc i h).2⟩⟩
  · obtain ⟨h1, h2⟩ := hr.own
    refine ⟨h1, ?_⟩
    rcases h2 with h2 | ⟨g, cap, cur, hv, hg, hh, r⟩
    · exact Or.inl h2
    · exact Or.inr ⟨g, cap, cur, hv, hg, by rw [hother g (by omega)]; exact hh, r⟩
set_option maxHeartbeats 400000 in
theorem take_end (w : World) (R : Nat) (tv : Value) (ts : List Rt.Tk) (n : Nat) (ov : Value) (ops : List Pop) (x : ByteArray) (hr : RdS w R tv ts n ov ops) (hn : ¬ n < ts.length) :
    Calls Tryz.prog 216 #[.pointer (some ⟨R, 0, none⟩), .string x] w fun e w' => e = .returned (.bool false) ∧ ∃ q, w' = w.drewN q := by
  obtain ⟨b, cap, rfl, hb, hc⟩ := hr.toks
  have c0 := cell_of_block hr.block 0 (by simp)
  have c1 := cell_of_block hr.block 1 (by simp)
  simp at c0 c1
  clear hc
  have hd : decide ((ts.length : Int) ≤ (n : Int)) = true := by simp; omega
  go_enter Tryz.func216, Tryz.ntmps216
  go_wp2_with fail
  go_quiet (fail)
  go_wp2
  go_ret
  exact ⟨by simp, _, rfl⟩
set_option maxHeartbeats 400000 in
theorem take_no (w : World) (R : Nat) (tv : Value) (ts : List Rt.Tk) (n : Nat) (ov : Value) (ops : List Pop) (x : ByteArray) (hr : RdS w R tv ts n ov ops) (hn : n < ts.length) (hx : ¬ ts[n].text = x) :
    Calls Tryz.prog 216 #[.pointer (some ⟨R, 0, none⟩), .string x] w fun e w' => e = .returned (.bool false) ∧ ∃ q, w' = w.drewN q := by
  obtain ⟨b, cap, rfl, hb, hc⟩ := hr.toks
  have c0 := cell_of_block hr.block 0 (by simp)
  have c1 := cell_of_block hr.block 1 (by simp)
  simp at c0 c1
  have ct := (hc n hn).2
  have hx' := Rt.str_ne hx
  clear hx
  generalize ts[n].text = tx at *
  clear hc
  have hd : decide ((ts.length : Int) ≤ (n : Int)) = false := by simp; omega
  have hn' : (n : Int) < (ts.length : Int) := by omega
  go_enter Tryz.func216, Tryz.ntmps216
  go_wp2_with fail
  go_quiet (fail)
  go_wp2
  go_ret
  exact ⟨by simp, _, rfl⟩
set_option maxHeartbeats 400000 in
theorem take_yes (w : World) (R : Nat) (tv : Value) (ts : List Rt.Tk) (n : Nat) (ov : Value) (ops : List Pop) (x : ByteArray) (hr : RdS w R tv ts n ov ops) (hn : n < ts.length) (hx : ts[n].text = x) :
    Calls Tryz.prog 216 #[.pointer (some ⟨R, 0, none⟩), .string x] w fun e w' => e = .returned (.bool true) ∧ RdS w' R tv ts (n + 1) ov ops ∧ RFr R ov ov w w' := by
  have hbump := hr.bump hn
  obtain ⟨b, cap, rfl, hb, hc⟩ := hr.toks
  have c0 := cell_of_block hr.block 0 (by simp)
  have c1 := cell_of_block hr.block 1 (by simp)
  have f1 := free_of_block hr.block 1
  simp at c0 c1
  have ct := (hc n hn).2
  rw [hx] at ct
  clear hc hx
  have hfew := hr.few
  have HB : Hid (∀ q : Nat, RdS ((w.drewN q).setCell ⟨R, 1, none⟩ (.int .i64 ((n : Int) + 1))) R (Value.slice (some { block := b, off := 0 }) ts.length cap) ts (n + 1) ov ops ∧ RFr R ov ov w ((w.drewN q).setCell ⟨R, 1, none⟩ (.int .i64 ((n : Int) + 1)))) := hbump
  clear hbump
  have hd : decide ((ts.length : Int) ≤ (n : Int)) = false := by simp; omega
  have hn' : (n : Int) < (ts.length : Int) := by omega
  go_enter Tryz.func216, Tryz.ntmps216
  go_wp2_with fail
  go_quiet (fail)
  go_wp2
  go_ret
  exact ⟨by simp, HB.out _⟩
end Go.Proofs.YthleadfkfnnadaaGreat
namespace Go.Proofs.YthleadfkfnnadaaGreat
open Go.RowKit
attribute [local go_sem ↓] Go.wp_at_zero Go.wp_at_succ
theorem RdS.later {w w' : World} {R : Nat} {tv : Value} {ts : List Rt.Tk} {n : Nat} {ov : Value} {ops : List Pop} (hr : RdS w R tv ts n ov ops) (hb : Below w.heap.size w w') :
    RdS w' R tv ts n ov ops ∧ RFr R ov ov w w' := by
  have hlt : R < w.heap.size := World.block_lt_of_cell? w _ (cell_of_block hr.block 0 (by simp))
  refine ⟨⟨hr.le, hr.few, hr.fewOps, by rw [hb.block R hlt]; exact hr.block, ?_, ?_⟩, ⟨hb.os, hb.tape, hb.output, hb.size, fun k h _ _ => hb.block k h, fun _ h => Or.inl h⟩⟩
  · obtain ⟨b, cap, rfl, hbR, hc⟩ := hr.toks
    exact ⟨b, cap, rfl, hbR, fun i h => ⟨cell_later hb (hc i h).1, cell_later hb (hc i h).2⟩⟩
  · obtain ⟨h1, h2⟩ := hr.own
    refine ⟨h1, ?_⟩
    rcases h2 with h2 | ⟨g, cap, cur, hv, hg, hh, r⟩
    · exact Or.inl h2
    · have hgl : g < w.heap.size := by
        by_cases h : g < w.heap.size
        · exact h
        · rw [Array.getElem?_eq_none (by omega)] at hh; cases hh
      exact Or.inr ⟨g, cap, cur, hv, hg, by rw [hb.block g hgl]; exact hh, r⟩
theorem below_drewN (w : World) (q : Nat) : Below w.heap.size w (w.drewN q) := ⟨rfl, rfl, rfl, Nat.le_refl _, fun _ _ => rfl⟩
theorem fresh3 {w : World} {a b c : Addr} {x y z : Option Value} (q : Nat) (h1 : w.cell? a = x) (h2 : w.cell? b = y) (h3 : w.cell? c = z) : ∃ w1, w1 = w.drewN q ∧ w1.cell? a = x ∧ w1.cell? b = y ∧ w1.cell? c = z := ⟨_, rfl, h1, h2, h3⟩
theorem drew_two {w w1 : World} {q m : Nat} (h : w1 = w.drewN q) : w1.drewN m = w.drewN (q + m) := by
  subst h
  simp [World.drewN, Nat.add_assoc]
set_option maxHeartbeats 400000 in
theorem reserved_any (s : ByteArray) (w : World) :
    Calls Tryz.prog 220 #[.string s] w fun e w' => e = .returned (.bool (Rt.resv s)) ∧ w' = w := by
  go_enter Tryz.func220, Tryz.ntmps220
  go_wp2
  all_goals (go_ret; exact ⟨by simp_all [Rt.resv, Rt.resvWords], rfl⟩)
set_option maxHeartbeats 400000 in
theorem operatorCode_any (s : ByteArray) (w : World) :
    Calls Tryz.prog 228 #[.string s] w fun e w' => e = .returned (.int .i64 (Rt.opCode s)) ∧ w' = w := by
  go_enter Tryz.func228, Tryz.ntmps228
  go_wp2
  all_goals (go_ret; exact ⟨by simp_all [Rt.opCode], rfl⟩)
set_option maxHeartbeats 400000 in
theorem operator_end (w : World) (R : Nat) (tv : Value) (ts : List Rt.Tk) (n : Nat) (ov : Value) (ops : List Pop) (lo hi : Int) (hr : RdS w R tv ts n ov ops) (hn : ¬ n < ts.length) :
    Calls Tryz.prog 225 #[.pointer (some ⟨R, 0, none⟩), .int .i64 lo, .int .i64 hi] w fun e w' => e = .returned (.int .i64 0) ∧ ∃ q, w' = w.drewN q := by
  obtain ⟨b, cap, rfl, hb, hc⟩ := hr.toks
  have c0 := cell_of_block hr.block 0 (by simp)
  have c1 := cell_of_block hr.block 1 (by simp)
  simp at c0 c1
  clear hc
  have hd : ¬ ((n : Int) < (ts.length : Int)) := by omega
  go_enter Tryz.func225, Tryz.ntmps225
  go_wp2_with fail
  go_quiet (fail)
  go_wp2_with fail
  go_ret
  exact ⟨by simp, _, rfl⟩
set_option maxHeartbeats 400000 in
theorem operator_no (w : World) (R : Nat) (tv : Value) (ts : List Rt.Tk) (n : Nat) (ov : Value) (ops : List Pop) (lo hi : Int) (hr : RdS w R tv ts n ov ops) (hn : n < ts.length)
    (hx : Rt.opCode ts[n].text < lo ∨ hi < Rt.opCode ts[n].text) :
    Calls Tryz.prog 225 #[.pointer (some ⟨R, 0, none⟩), .int .i64 lo, .int .i64 hi] w fun e w' => e = .returned (.int .i64 0) ∧ ∃ q, w' = w.drewN q := by
  obtain ⟨b, cap, rfl, hb, hc⟩ := hr.toks
  have c0 := cell_of_block hr.block 0 (by simp)
  have c1 := cell_of_block hr.block 1 (by simp)
  simp at c0 c1
  have ct := (hc n hn).2
  clear hc
  have hn' : (n : Int) < (ts.length : Int) := by omega
  generalize ts[n].text = tx at *
  by_cases h1 : Rt.opCode tx < lo
  · go_enter Tryz.func225, Tryz.ntmps225
    go_wp2_with fail
    go_quiet (fail)
    go_wp2_with fail
    obtain ⟨w1, hw1, c0', c1', ct'⟩ := fresh3 nq c0 c1 ct
    rw [← hw1]
    have HW : Hid (w1 = w.drewN nq) := hw1
    clear hw1
    go_quiet ((go_at_call 228; exact Calls.quiet_of_same (operatorCode_any _ _)))
    go_wp2
    go_ret
    exact ⟨by simp, _, drew_two HW.out⟩
  · have h2 : hi < Rt.opCode tx := by omega
    have h1' : ¬ Rt.opCode tx < lo := h1
    clear hx
    go_enter Tryz.func225, Tryz.ntmps225
    go_wp2_with fail
    go_quiet (fail)
    go_wp2_with fail
    obtain ⟨w1, hw1, c0', c1', ct'⟩ := fresh3 nq c0 c1 ct
    rw [← hw1]
    have HW : Hid (w1 = w.drewN nq) := hw1
    clear hw1
    go_quiet ((go_at_call 228; exact Calls.quiet_of_same (operatorCode_any _ _)))
    go_wp2
    go_ret
    exact ⟨by simp, _, drew_two HW.out⟩
end Go.Proofs.YthleadfkfnnadaaGreat
