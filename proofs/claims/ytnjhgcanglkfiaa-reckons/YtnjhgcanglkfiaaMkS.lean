/- Two lists of whole numbers, held together. -/
import Derived.Test.YtnjhgcanglkfiaaCnB
import Derived.Test.YtnjhgcanglkfiaaKit0
import Derived.Deep.RegionHeld3
import Derived.Deep.AppendLies
import Derived.Deep.DrawnRows
import Derived.Deep.QuietTactic
import Derived.BigQuiet
import Derived.Deep.RegionLaw
namespace Go.Proofs.Ytnjhgcanglkfiaa
open Go.RowKit
namespace Rt
theorem runM_end (S : Src) (k : Nat) (m : Mc) (h : m.fin ≠ 0) : runM S k m = (m, 0) := by
  cases k with
  | zero => rfl
  | succ k => unfold runM; rw [if_neg h]
theorem runM_step {S : Src} {m m' : Mc} (h : m.fin = 0) (hs : (stepM S m).1 = m') (k : Nat) : runM S (k + 1) m = ((runM S k m').1, (runM S k m').2 + 1) := by
  rw [runM, if_pos h, hs]
def rkSrc (a b : Int) : Src := ⟨rkP, rkL, [a, b]⟩
theorem rk_decl : declP rkP mainName = 3 := by kernel_rfl
theorem rk_go : goOn rkP rkL 102 (wrap64 (((3 : Nat) : Int) + 1)) = 4 := by kernel_rfl
theorem rk_vals : rkP.map (fun p => zerosI p.form) = [[], [0], [0], [], [], [], [], [], [], [], [], [], [], [], [], [], []] := by kernel_rfl
theorem rk_first (a b : Int) : firstM (rkSrc a b) = ⟨[noFm], [[], [0], [0], [], [], [], [], [], [], [], [], [], [], [], [], [], []], 0, [], 4, 0⟩ := by
  show (⟨[noFm], rkP.map (fun p => zerosI p.form), 0, [], goOn rkP rkL 102 (wrap64 (declP rkP mainName + 1)), 0⟩ : Mc) = _
  rw [rk_decl, rk_go, rk_vals]
theorem rk_st1 (a b : Int) : (stepM (rkSrc a b) ⟨[noFm], [[], [0], [0], [], [], [], [], [], [], [], [], [], [], [], [], [], []], 0, [], 4, 0⟩).1 = ⟨[noFm], [[], [a], [0], [], [], [], [], [], [], [], [], [], [], [], [], [], []], 1, [], 5, 0⟩ := by kernel_rfl
theorem rk_st2 (a b : Int) : (stepM (rkSrc a b) ⟨[noFm], [[], [a], [0], [], [], [], [], [], [], [], [], [], [], [], [], [], []], 1, [], 5, 0⟩).1 = ⟨[noFm], [[], [a], [b], [], [], [], [], [], [], [], [], [], [], [], [], [], []], 2, [], 6, 0⟩ := by kernel_rfl
theorem rk_st3 (a b : Int) : (stepM (rkSrc a b) ⟨[noFm], [[], [a], [b], [], [], [], [], [], [], [], [], [], [], [], [], [], []], 2, [], 6, 0⟩).1 = ⟨[noFm], [[], [a], [b], [], [], [], [], [], [], [], [], [], [], [], [], [], []], 2, [wrap64 (a + b)], 7, 0⟩ := by kernel_rfl
theorem rk_st4 (a b : Int) (x0 : Int) : (stepM (rkSrc a b) ⟨[noFm], [[], [a], [b], [], [], [], [], [], [], [], [], [], [], [], [], [], []], 2, [x0], 7, 0⟩).1 = ⟨[noFm], [[], [a], [b], [], [], [], [], [], [], [], [], [], [], [], [], [], []], 2, [x0, wrap64 (a - b)], 8, 0⟩ := by kernel_rfl
theorem rk_st5 (a b : Int) (x0 x1 : Int) : (stepM (rkSrc a b) ⟨[noFm], [[], [a], [b], [], [], [], [], [], [], [], [], [], [], [], [], [], []], 2, [x0, x1], 8, 0⟩).1 = ⟨[noFm], [[], [a], [b], [], [], [], [], [], [], [], [], [], [], [], [], [], []], 2, [x0, x1, wrap64 (a * b)], 9, 0⟩ := by kernel_rfl
theorem rk_st6 (a b : Int) (x0 x1 x2 : Int) : (stepM (rkSrc a b) ⟨[noFm], [[], [a], [b], [], [], [], [], [], [], [], [], [], [], [], [], [], []], 2, [x0, x1, x2], 9, 0⟩).1 = ⟨[noFm], [[], [a], [b], [], [], [], [], [], [], [], [], [], [], [], [], [], []], 2, [x0, x1, x2, truthI (decide (a < b))], 10, 0⟩ := by kernel_rfl
theorem rk_st7 (a b : Int) (x0 x1 x2 x3 : Int) : (stepM (rkSrc a b) ⟨[noFm], [[], [a], [b], [], [], [], [], [], [], [], [], [], [], [], [], [], []], 2, [x0, x1, x2, x3], 10, 0⟩).1 = ⟨[noFm], [[], [a], [b], [], [], [], [], [], [], [], [], [], [], [], [], [], []], 2, [x0, x1, x2, x3, truthI (decide (a = b))], 11, 0⟩ := by kernel_rfl
theorem rk_st8 (a b : Int) (x0 x1 x2 x3 x4 : Int) : (stepM (rkSrc a b) ⟨[noFm], [[], [a], [b], [], [], [], [], [], [], [], [], [], [], [], [], [], []], 2, [x0, x1, x2, x3, x4], 11, 0⟩).1 = ⟨[noFm], [[], [a], [b], [], [], [], [], [], [], [], [], [], [], [], [], [], []], 2, [x0, x1, x2, x3, x4, wrap64 (-a)], 12, 0⟩ := by kernel_rfl
theorem rk_st9 (a b : Int) (x0 x1 x2 x3 x4 x5 : Int) : (stepM (rkSrc a b) ⟨[noFm], [[], [a], [b], [], [], [], [], [], [], [], [], [], [], [], [], [], []], 2, [x0, x1, x2, x3, x4, x5], 12, 0⟩).1 = ⟨[noFm], [[], [a], [b], [], [], [], [], [], [], [], [], [], [], [], [], [], []], 2, [x0, x1, x2, x3, x4, x5, wrap64 (wrap64 (wrap64 (a - b) - wrap64 (a * b)) + wrap64 (wrap64 (a - wrap64 (b - a)) * 2))], 13, 0⟩ := by kernel_rfl
theorem rk_stz (a : Int) (x0 x1 x2 x3 x4 x5 x6 : Int) : (stepM (rkSrc a 0) ⟨[noFm], [[], [a], [0], [], [], [], [], [], [], [], [], [], [], [], [], [], []], 2, [x0, x1, x2, x3, x4, x5, x6], 13, 0⟩).1 = ⟨[noFm], [[], [a], [0], [], [], [], [], [], [], [], [], [], [], [], [], [], []], 2, [x0, x1, x2, x3, x4, x5, x6], 13, 2⟩ := by kernel_rfl
theorem rk_stp10 (a : Int) (n : Nat) (x0 x1 x2 x3 x4 x5 x6 : Int) : (stepM (rkSrc a (Int.ofNat (n + 1))) ⟨[noFm], [[], [a], [(Int.ofNat (n + 1))], [], [], [], [], [], [], [], [], [], [], [], [], [], []], 2, [x0, x1, x2, x3, x4, x5, x6], 13, 0⟩).1 = ⟨[noFm], [[], [a], [(Int.ofNat (n + 1))], [], [], [], [], [], [], [], [], [], [], [], [], [], []], 2, [x0, x1, x2, x3, x4, x5, x6, wrap64 (a.tdiv (Int.ofNat (n + 1)))], 14, 0⟩ := by kernel_rfl
theorem rk_stp11 (a : Int) (n : Nat) (x0 x1 x2 x3 x4 x5 x6 x7 : Int) : (stepM (rkSrc a (Int.ofNat (n + 1))) ⟨[noFm], [[], [a], [(Int.ofNat (n + 1))], [], [], [], [], [], [], [], [], [], [], [], [], [], []], 2, [x0, x1, x2, x3, x4, x5, x6, x7], 14, 0⟩).1 = ⟨[noFm], [[], [a], [(Int.ofNat (n + 1))], [], [], [], [], [], [], [], [], [], [], [], [], [], []], 2, [x0, x1, x2, x3, x4, x5, x6, x7, wrap64 (a.tmod (Int.ofNat (n + 1)) * 2)], 15, 0⟩ := by kernel_rfl
theorem rk_stp12 (a : Int) (n : Nat) (x0 x1 x2 x3 x4 x5 x6 x7 x8 : Int) : (stepM (rkSrc a (Int.ofNat (n + 1))) ⟨[noFm], [[], [a], [(Int.ofNat (n + 1))], [], [], [], [], [], [], [], [], [], [], [], [], [], []], 2, [x0, x1, x2, x3, x4, x5, x6, x7, x8], 15, 0⟩).1 = ⟨[noFm], [[], [a], [(Int.ofNat (n + 1))], [], [], [], [], [], [], [], [], [], [], [], [], [], []], 2, [x0, x1, x2, x3, x4, x5, x6, x7, x8, wrap64 (7 - wrap64 ((wrap64 (a.tdiv (Int.ofNat (n + 1)))).tdiv 3))], 16, 0⟩ := by kernel_rfl
theorem rk_stn10 (a : Int) (n : Nat) (x0 x1 x2 x3 x4 x5 x6 : Int) : (stepM (rkSrc a (Int.negSucc n)) ⟨[noFm], [[], [a], [(Int.negSucc n)], [], [], [], [], [], [], [], [], [], [], [], [], [], []], 2, [x0, x1, x2, x3, x4, x5, x6], 13, 0⟩).1 = ⟨[noFm], [[], [a], [(Int.negSucc n)], [], [], [], [], [], [], [], [], [], [], [], [], [], []], 2, [x0, x1, x2, x3, x4, x5, x6, wrap64 (a.tdiv (Int.negSucc n))], 14, 0⟩ := by kernel_rfl
theorem rk_stn11 (a : Int) (n : Nat) (x0 x1 x2 x3 x4 x5 x6 x7 : Int) : (stepM (rkSrc a (Int.negSucc n)) ⟨[noFm], [[], [a], [(Int.negSucc n)], [], [], [], [], [], [], [], [], [], [], [], [], [], []], 2, [x0, x1, x2, x3, x4, x5, x6, x7], 14, 0⟩).1 = ⟨[noFm], [[], [a], [(Int.negSucc n)], [], [], [], [], [], [], [], [], [], [], [], [], [], []], 2, [x0, x1, x2, x3, x4, x5, x6, x7, wrap64 (a.tmod (Int.negSucc n) * 2)], 15, 0⟩ := by kernel_rfl
theorem rk_stn12 (a : Int) (n : Nat) (x0 x1 x2 x3 x4 x5 x6 x7 x8 : Int) : (stepM (rkSrc a (Int.negSucc n)) ⟨[noFm], [[], [a], [(Int.negSucc n)], [], [], [], [], [], [], [], [], [], [], [], [], [], []], 2, [x0, x1, x2, x3, x4, x5, x6, x7, x8], 15, 0⟩).1 = ⟨[noFm], [[], [a], [(Int.negSucc n)], [], [], [], [], [], [], [], [], [], [], [], [], [], []], 2, [x0, x1, x2, x3, x4, x5, x6, x7, x8, wrap64 (7 - wrap64 ((wrap64 (a.tdiv (Int.negSucc n))).tdiv 3))], 16, 0⟩ := by kernel_rfl
theorem rk_st13 (a b : Int) (x0 x1 x2 x3 x4 x5 x6 x7 x8 x9 : Int) : (stepM (rkSrc a b) ⟨[noFm], [[], [a], [b], [], [], [], [], [], [], [], [], [], [], [], [], [], []], 2, [x0, x1, x2, x3, x4, x5, x6, x7, x8, x9], 16, 0⟩).1 = ⟨[noFm], [[], [a], [b], [], [], [], [], [], [], [], [], [], [], [], [], [], []], 2, [x0, x1, x2, x3, x4, x5, x6, x7, x8, x9], 16, 1⟩ := by kernel_rfl
def rkOut (a b : Int) : List Int := [wrap64 (a + b), wrap64 (a - b), wrap64 (a * b), truthI (decide (a < b)), truthI (decide (a = b)), wrap64 (-a), wrap64 (wrap64 (wrap64 (a - b) - wrap64 (a * b)) + wrap64 (wrap64 (a - wrap64 (b - a)) * 2))]
def rkOut2 (a b : Int) : List Int := [wrap64 (a + b), wrap64 (a - b), wrap64 (a * b), truthI (decide (a < b)), truthI (decide (a = b)), wrap64 (-a), wrap64 (wrap64 (wrap64 (a - b) - wrap64 (a * b)) + wrap64 (wrap64 (a - wrap64 (b - a)) * 2)), wrap64 (a.tdiv b), wrap64 (a.tmod b * 2), wrap64 (7 - wrap64 ((wrap64 (a.tdiv b)).tdiv 3))]
theorem rk_zero (a : Int) : runM (rkSrc a 0) 1000 (firstM (rkSrc a 0)) = (⟨[noFm], [[], [a], [0], [], [], [], [], [], [], [], [], [], [], [], [], [], []], 2, rkOut a 0, 13, 2⟩, 10) := by
  rw [rk_first, runM_step rfl (rk_st1 a 0), runM_step rfl (rk_st2 a 0), runM_step rfl (rk_st3 a 0), runM_step rfl (rk_st4 a 0 _), runM_step rfl (rk_st5 a 0 _ _), runM_step rfl (rk_st6 a 0 _ _ _), runM_step rfl (rk_st7 a 0 _ _ _ _), runM_step rfl (rk_st8 a 0 _ _ _ _ _), runM_step rfl (rk_st9 a 0 _ _ _ _ _ _), runM_step rfl (rk_stz a _ _ _ _ _ _ _), runM_end _ _ _ (by intro h; cases h)]
  rfl
theorem rk_p (a : Int) (n : Nat) : runM (rkSrc a (Int.ofNat (n + 1))) 1000 (firstM (rkSrc a (Int.ofNat (n + 1)))) = (⟨[noFm], [[], [a], [(Int.ofNat (n + 1))], [], [], [], [], [], [], [], [], [], [], [], [], [], []], 2, rkOut2 a (Int.ofNat (n + 1)), 16, 1⟩, 13) := by
  rw [rk_first, runM_step rfl (rk_st1 a (Int.ofNat (n + 1))), runM_step rfl (rk_st2 a (Int.ofNat (n + 1))), runM_step rfl (rk_st3 a (Int.ofNat (n + 1))), runM_step rfl (rk_st4 a (Int.ofNat (n + 1)) _), runM_step rfl (rk_st5 a (Int.ofNat (n + 1)) _ _), runM_step rfl (rk_st6 a (Int.ofNat (n + 1)) _ _ _), runM_step rfl (rk_st7 a (Int.ofNat (n + 1)) _ _ _ _), runM_step rfl (rk_st8 a (Int.ofNat (n + 1)) _ _ _ _ _), runM_step rfl (rk_st9 a (Int.ofNat (n + 1)) _ _ _ _ _ _), runM_step rfl (rk_stp10 a n _ _ _ _ _ _ _), runM_step rfl (rk_stp11 a n _ _ _ _ _ _ _ _), runM_step rfl (rk_stp12 a n _ _ _ _ _ _ _ _ _), runM_step rfl (rk_st13 a _ _ _ _ _ _ _ _ _ _ _), runM_end _ _ _ (by intro h; cases h)]
  rfl
theorem rk_n (a : Int) (n : Nat) : runM (rkSrc a (Int.negSucc n)) 1000 (firstM (rkSrc a (Int.negSucc n))) = (⟨[noFm], [[], [a], [(Int.negSucc n)], [], [], [], [], [], [], [], [], [], [], [], [], [], []], 2, rkOut2 a (Int.negSucc n), 16, 1⟩, 13) := by
  rw [rk_first, runM_step rfl (rk_st1 a (Int.negSucc n)), runM_step rfl (rk_st2 a (Int.negSucc n)), runM_step rfl (rk_st3 a (Int.negSucc n)), runM_step rfl (rk_st4 a (Int.negSucc n) _), runM_step rfl (rk_st5 a (Int.negSucc n) _ _), runM_step rfl (rk_st6 a (Int.negSucc n) _ _ _), runM_step rfl (rk_st7 a (Int.negSucc n) _ _ _ _), runM_step rfl (rk_st8 a (Int.negSucc n) _ _ _ _ _), runM_step rfl (rk_st9 a (Int.negSucc n) _ _ _ _ _ _), runM_step rfl (rk_stn10 a n _ _ _ _ _ _ _), runM_step rfl (rk_stn11 a n _ _ _ _ _ _ _ _), runM_step rfl (rk_stn12 a n _ _ _ _ _ _ _ _ _), runM_step rfl (rk_st13 a _ _ _ _ _ _ _ _ _ _ _), runM_end _ _ _ (by intro h; cases h)]
  rfl
theorem rk_nonzero (a b : Int) (hb : b ≠ 0) : runM (rkSrc a b) 1000 (firstM (rkSrc a b)) = (⟨[noFm], [[], [a], [b], [], [], [], [], [], [], [], [], [], [], [], [], [], []], 2, rkOut2 a b, 16, 1⟩, 13) := by
  match b, hb with
  | Int.ofNat 0, h => exact absurd rfl h
  | Int.ofNat (n + 1), _ => exact rk_p a n
  | Int.negSucc n, _ => exact rk_n a n
end Rt
end Go.Proofs.Ytnjhgcanglkfiaa

namespace Go.Proofs.Ytnjhgcanglkfiaa
open Go.RowKit

def ints (l : List Int) : List Value := l.map (Value.int .i64)

/-- The numbers of a row can be read. -/
theorem int_cell {w : World} {B n : Nat} {v : Value} {l : List Int} (h : w.ownsRow B 3 1 v n (ints l)) {j : Nat} (hj : j < l.length) : ∃ g cap, v = .slice (some ⟨g, 0, none⟩) n cap ∧ w.cell? ⟨g, j, none⟩ = some (.int .i64 l[j]) := by
  obtain ⟨g, cap, he, _, _, hc⟩ := own_cell h (j := j) (u := .int .i64 l[j]) (by simp [ints, hj])
  exact ⟨g, cap, he, hc⟩

theorem ints_eq_from {a b : List Int} (hn : a.length = b.length) (h : ∀ j (h : j < a.length) (h' : j < b.length), a[j] = b[j]) : a = b := List.ext_getElem hn h

set_option maxHeartbeats 2000000 in
set_option maxRecDepth 100000 in
theorem sameInts_keep (w : World) (B B' : Nat) (va vb : Value) (a b : List Int) (ha : w.ownsRow B 3 1 va a.length (ints a)) (hb : w.ownsRow B' 3 1 vb b.length (ints b)) (hl : a.length ≤ 1000) (hl2 : b.length ≤ 1000) :
    Calls Try.prog 7 #[va, vb] w fun e w' => e = .returned (.bool (decide (a = b))) ∧ Below w.heap.size w w' := by
  obtain ⟨ad, ca, rfl⟩ := ownsRow_form ha
  obtain ⟨bd, cb, rfl⟩ := ownsRow_form hb
  by_cases hn : a.length = b.length
  · have hn' : ((a.length : Int) == (b.length : Int)) = true := by rw [beq_iff_eq]; omega
    have HN := hide hn
    clear hn
    go_enter Try.func7, Try.ntmps7
    go_wp2
    go_loopw [5] (fun i wr => ∃ k : Nat, k ≤ a.length ∧ i = .int .i64 k ∧ (∀ j (h : j < a.length) (h' : j < b.length), j < k → a[j] = b[j]) ∧ wr.ownsRow B 3 1 (.slice ad a.length ca) a.length (ints a) ∧ wr.ownsRow B' 3 1 (.slice bd b.length cb) b.length (ints b) ∧ Below w.heap.size w wr) (fun i _ => a.length - (intOf i).toNat)
    case atStart => exact ⟨0, Nat.zero_le _, rfl, fun j _ _ h => by omega, ha, hb, Below.refl _ _⟩
    case round =>
      obtain ⟨k, hk, rfl, hall, ha2, hb2, hbe⟩ := hrel
      have HX := hide (And.intro hall (And.intro ha2 (And.intro hb2 hbe)))
      by_cases hlt : k < a.length
      · have hlt' : (k : Int) < (a.length : Int) := by omega
        have hlb : k < b.length := by have := unhide HN; omega
        have hlb' : (k : Int) < (b.length : Int) := by omega
        have hk0 : (0 : Int) ≤ (k : Int) := by omega
        obtain ⟨g, cap, he, cx⟩ := int_cell ha2 hlt
        obtain ⟨g', cap', he', cy⟩ := int_cell hb2 hlb
        simp at he he'
        obtain ⟨rfl, rfl⟩ := he
        obtain ⟨rfl, rfl⟩ := he'
        have HE := hide (show a[k] = b[k] → ∀ j (h : j < a.length) (h' : j < b.length), j < k + 1 → a[j] = b[j] from fun e j h h' hj => by
          by_cases hjk : j = k
          · subst hjk; exact e
          · exact hall j h h' (by omega))
        have HF := hide (show ¬ a[k] = b[k] → decide (a = b) = false from fun e => by
          rw [decide_eq_false_iff_not]
          intro hab
          subst hab
          exact e rfl)
        clear hall ha2 hb2 hbe
        generalize a[k] = x at *
        generalize b[k] = y at *
        cases hxy : (x == y) with
        | true =>
          have hx := unhide HE (by simpa using hxy)
          have HE2 := hide hx
          clear hx
          go_wp2_with fail
          go_region_held3 (fun w' => w'.cell? ⟨g, k, none⟩ = some (.int .i64 x) ∧ w'.cell? ⟨g', k, none⟩ = some (.int .i64 y)) (go_keep) (fail)
          go_wp2_with fail
          go_roundw
          case rel =>
            obtain ⟨_, q2, q3, q4⟩ := unhide HX
            exact ⟨k + 1, by omega, by go_num, unhide HE2, own_later q2 (below_to_drew _), own_later q3 (below_to_drew _), q4.trans ((below_to_drew _).mono q4.size)⟩
          case measure => simp [intOf]; omega
        | false =>
          have hx := unhide HF (by simpa using hxy)
          have HF2 := hide hx
          clear hx
          go_wp2_with fail
          go_region_held3 (fun w' => w'.cell? ⟨g, k, none⟩ = some (.int .i64 x) ∧ w'.cell? ⟨g', k, none⟩ = some (.int .i64 y)) (go_keep) (fail)
          go_wp2_with fail
          go_ret
          obtain ⟨_, q2, q3, q4⟩ := unhide HX
          exact ⟨by rw [unhide HF2]; rfl, q4.trans ((below_to_drew _).mono q4.size)⟩
      · have hlt' : ¬ (k : Int) < (a.length : Int) := by omega
        have HE := hide (show decide (a = b) = true from by
          rw [decide_eq_true_eq]
          exact ints_eq_from (unhide HN) (fun j h h' => hall j h h' (by omega)))
        clear hall ha2 hb2 hbe
        go_wp2_with fail
        go_ret
        exact ⟨by rw [unhide HE]; rfl, (unhide HX).2.2.2⟩
  · have hn' : ((a.length : Int) == (b.length : Int)) = false := by rw [beq_eq_false_iff_ne]; omega
    go_enter Try.func7, Try.ntmps7
    go_wp2
    go_ret
    exact ⟨ret_bool (by rw [eq_comm, decide_eq_false_iff_not]; intro e; exact hn (by rw [e])), Below.refl _ _⟩


end Go.Proofs.Ytnjhgcanglkfiaa

