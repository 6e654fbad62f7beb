/- The nesting of blocks: its state in memory, admits and pass. -/
import Derived.Test.YtnjhgcanglkfiaaProg1
namespace Go.Proofs.Ytnjhgcanglkfiaa
open Go.RowKit
attribute [local go_sem ↓] Go.wp_at_zero Go.wp_at_succ


theorem Blk_dec (bs : List Rt.Blk) : bs = [] ∨ ∃ pre b, bs = pre ++ [b] := by
  rcases List.eq_nil_or_concat bs with h | ⟨pre, b, h⟩
  · exact Or.inl h
  · exact Or.inr ⟨pre, b, by simpa using h⟩

structure NestS (w : World) (S : Nat) (bs : List Rt.Blk) (bv : Value) : Prop where
  block : w.heap[S]? = some (.cells #[bv] 86 (0, 0))
  own : w.ownsRow (S + 1) 108 3 bv bs.length (Rt.blksCells bs)

theorem NestS.later {w w' : World} {S : Nat} {bs : List Rt.Blk} {bv : Value} (h : NestS w S bs bv) (hb : Below w.heap.size w w') : NestS w' S bs bv := ⟨block_later h.block hb, own_later h.own hb⟩

theorem NestS.last {w : World} {S : Nat} {pre : List Rt.Blk} {b : Rt.Blk} {bv : Value} (h : NestS w S (pre ++ [b]) bv) :
    ∃ g cap, bv = .slice (some ⟨g, 0, none⟩) (pre.length + 1) cap ∧ S < g ∧ w.cell? ⟨g, pre.length * 3, none⟩ = some (.int .i64 b.line) ∧ w.cell? ⟨g, pre.length * 3 + 1, none⟩ = some (.int .i64 b.kind) ∧ w.cell? ⟨g, pre.length * 3 + 2, none⟩ = some (.bool b.els) := by
  have hl := Rt.blksCells_length pre
  have e0 : (Rt.blksCells (pre ++ [b]))[pre.length * 3]? = some (.int .i64 b.line) := by rw [Rt.blksCells_snoc, ← hl]; simp
  have e1 : (Rt.blksCells (pre ++ [b]))[pre.length * 3 + 1]? = some (.int .i64 b.kind) := by rw [Rt.blksCells_snoc, ← hl]; simp
  have e2 : (Rt.blksCells (pre ++ [b]))[pre.length * 3 + 2]? = some (.bool b.els) := by rw [Rt.blksCells_snoc, ← hl]; simp
  obtain ⟨g, cap, rfl, hg, _, c0⟩ := own_cell h.own e0
  obtain ⟨_, _, h1, _, _, c1⟩ := own_cell h.own e1
  obtain ⟨_, _, h2, _, _, c2⟩ := own_cell h.own e2
  simp at h1 h2
  obtain ⟨rfl, _⟩ := h1
  obtain ⟨rfl, _⟩ := h2
  exact ⟨_, cap, by simp, by omega, c0, c1, c2⟩

theorem lastOr_snoc (pre : List Rt.Blk) (b : Rt.Blk) : Rt.lastOr (pre ++ [b]) = b := by simp [Rt.lastOr]

theorem wrapm1 (m : Nat) (h : m + 1 ≤ 1000) : IntKind.i64.wrap ((m : Int) + 1 - 1) = (m : Int) := by
  rw [show (m : Int) + 1 - 1 = (m : Int) by omega, IntWalk.i64_left, IntWalk.wrap64_in _ (by omega)]
theorem wrapm0 (m : Nat) (h : m + 1 ≤ 1000) : IntKind.i64.wrap (m : Int) = (m : Int) := by
  rw [IntWalk.i64_left, IntWalk.wrap64_in _ (by omega)]

set_option maxHeartbeats 1000000 in
theorem admits_any (w : World) (S : Nat) (bs : List Rt.Blk) (bv : Value) (kind : Int) (h : NestS w S bs bv) (hlen : bs.length ≤ 1000) :
    Calls Try.prog 37 #[.pointer (some ⟨S, 0, none⟩), .int .i64 kind] w fun e w' => e = .returned (.bool (Rt.adm bs kind)) ∧ Below w.heap.size w w' := by
  have c0 := cell_of_block h.block 0 (by simp)
  simp at c0
  by_cases k0 : kind = 0
  · have k0' : (kind == 0) = true := by simpa using k0
    have HE := hide (show Rt.adm bs kind = true by simp [Rt.adm, k0])
    clear k0 h
    go_enter Try.func37, Try.ntmps37
    go_wp2_with fail
    go_ret
    exact ⟨by rw [unhide HE]; simp, Below.refl _ _⟩
  have k0' : (kind == 0) = false := by simpa using k0
  rcases Blk_dec bs with rfl | ⟨pre, b, rfl⟩
  · obtain ⟨ad, cap, rfl⟩ := ownsRow_form h.own
    simp only [List.length_nil] at c0
    by_cases k1 : kind = 1
    · have k1' : (kind == 1) = true := by simpa using k1
      have HE := hide (show Rt.adm [] kind = true by simp [Rt.adm, k1])
      clear k0 k1 h
      go_enter Try.func37, Try.ntmps37
      go_wp2_with fail
      go_ret
      exact ⟨by rw [unhide HE]; simp, Below.refl _ _⟩
    have k1' : (kind == 1) = false := by simpa using k1
    by_cases k2 : kind = 2
    · have k2' : (kind == 2) = true := by simpa using k2
      have HE := hide (show Rt.adm [] kind = true by simp [Rt.adm, k2])
      clear k0 k1 k2 h
      go_enter Try.func37, Try.ntmps37
      go_wp2_with fail
      go_ret
      exact ⟨by rw [unhide HE]; simp, Below.refl _ _⟩
    have k2' : (kind == 2) = false := by simpa using k2
    by_cases k3 : kind = 3
    · have k3' : (kind == 3) = true := by simpa using k3
      have HE := hide (show Rt.adm [] kind = true by simp [Rt.adm, k3])
      clear k0 k1 k2 k3 h
      go_enter Try.func37, Try.ntmps37
      go_wp2_with fail
      go_ret
      exact ⟨by rw [unhide HE]; simp, Below.refl _ _⟩
    have k3' : (kind == 3) = false := by simpa using k3
    have HE := hide (show Rt.adm [] kind = false by simp [Rt.adm, k0, k1, k2, k3])
    clear k0 k1 k2 k3 h
    go_enter Try.func37, Try.ntmps37
    go_wp2_with fail
    go_ret
    exact ⟨by rw [unhide HE]; simp, Below.refl _ _⟩
  · obtain ⟨g, cap, rfl, hg, d0, d1, d2⟩ := h.last
    have hlen' : pre.length + 1 ≤ 1000 := by simpa using hlen
    have hz : (((pre.length : Int) + 1) == 0) = false := by rw [beq_eq_false_iff_ne]; omega
    by_cases k1 : kind = 1
    · have k1' : (kind == 1) = true := by simpa using k1
      have HE := hide (show Rt.adm (pre ++ [b]) kind = false by simp [Rt.adm, k1])
      clear k0 k1 h
      go_enter Try.func37, Try.ntmps37
      go_wp2_with fail
      go_ret
      exact ⟨by rw [unhide HE]; simp, Below.refl _ _⟩
    have k1' : (kind == 1) = false := by simpa using k1
    by_cases k2 : kind = 2
    · have k2' : (kind == 2) = true := by simpa using k2
      have HE := hide (show Rt.adm (pre ++ [b]) kind = false by simp [Rt.adm, k2])
      clear k0 k1 k2 h
      go_enter Try.func37, Try.ntmps37
      go_wp2_with fail
      go_ret
      exact ⟨by rw [unhide HE]; simp, Below.refl _ _⟩
    have k2' : (kind == 2) = false := by simpa using k2
    by_cases k3 : kind = 3
    · have k3' : (kind == 3) = true := by simpa using k3
      have HE := hide (show Rt.adm (pre ++ [b]) kind = false by simp [Rt.adm, k3])
      clear k0 k1 k2 k3 h
      go_enter Try.func37, Try.ntmps37
      go_wp2_with fail
      go_ret
      exact ⟨by rw [unhide HE]; simp, Below.refl _ _⟩
    have k3' : (kind == 3) = false := by simpa using k3
    by_cases k6 : kind = 6
    · have k6' : (kind == 6) = true := by simpa using k6
      have HE := hide (show Rt.adm (pre ++ [b]) kind = (decide (b.kind = 5) && !b.els) by simp [Rt.adm, k6, lastOr_snoc])
      clear k0 k1 k2 k3 k6 h
      generalize pre.length = m at *
      have hm0 : (0 : Int) ≤ (m : Int) := by omega
      have hm1 : (m : Int) < (m : Int) + 1 := by omega
      have hm2 : (m : Int) ≤ 1000 := by omega
      have hm3 := wrapm1 m hlen'
      have hm4 := wrapm0 m hlen'
      go_enter Try.func37, Try.ntmps37
      go_wp2_with fail
      go_region_held3 (fun w' => w'.cell? ⟨S, 0, none⟩ = some (.slice (some ⟨g, 0, none⟩) (m + 1) cap) ∧ w'.cell? ⟨g, m * 3, none⟩ = some (.int .i64 b.line) ∧ w'.cell? ⟨g, m * 3 + 1, none⟩ = some (.int .i64 b.kind) ∧ w'.cell? ⟨g, m * 3 + 2, none⟩ = some (.bool b.els)) (go_keep) (fail)
      go_wp2_with fail
      all_goals
        go_ret
        exact ⟨by rw [unhide HE]; simp_all, ((Below.refl _ _).alloc (Nat.le_refl _) _).drew⟩
    · have k6' : (kind == 6) = false := by simpa using k6
      have HE := hide (show Rt.adm (pre ++ [b]) kind = true by simp [Rt.adm, k0, k1, k2, k3, k6])
      clear k0 k1 k2 k3 k6 h
      go_enter Try.func37, Try.ntmps37
      go_wp2_with fail
      go_ret
      exact ⟨by rw [unhide HE]; simp, Below.refl _ _⟩

end Go.Proofs.Ytnjhgcanglkfiaa

