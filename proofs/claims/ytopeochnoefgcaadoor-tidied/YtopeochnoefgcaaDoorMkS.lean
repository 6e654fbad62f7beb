/- Two lists of whole numbers, held together. -/
import Derived.Test.YtopeochnoefgcaaDoorKit0
import Derived.Deep.RegionHeld3
import Derived.Deep.AppendLies
import Derived.Deep.DrawnRows
import Derived.Deep.QuietTactic
import Derived.BigQuiet
import Derived.Deep.RegionLaw
namespace Go.Proofs.YtopeochnoefgcaaDoor
open Go.RowKit

def ints (l : List Int) : List Value := l.map (Value.int .i64)

/-- The numbers of a row can be read. -/
theorem int_cell {w : World} {B n : Nat} {v : Value} {l : List Int} (h : w.ownsRow B 3 1 v n (ints l)) {j : Nat} (hj : j < l.length) : ∃ g cap, v = .slice (some ⟨g, 0, none⟩) n cap ∧ w.cell? ⟨g, j, none⟩ = some (.int .i64 l[j]) := by
  obtain ⟨g, cap, he, _, _, hc⟩ := own_cell h (j := j) (u := .int .i64 l[j]) (by simp [ints, hj])
  exact ⟨g, cap, he, hc⟩

theorem ints_eq_from {a b : List Int} (hn : a.length = b.length) (h : ∀ j (h : j < a.length) (h' : j < b.length), a[j] = b[j]) : a = b := List.ext_getElem hn h

set_option maxHeartbeats 2000000 in
set_option maxRecDepth 100000 in
theorem sameInts_keep (w : World) (B B' : Nat) (va vb : Value) (a b : List Int) (ha : w.ownsRow B 3 1 va a.length (ints a)) (hb : w.ownsRow B' 3 1 vb b.length (ints b)) (hl : a.length ≤ 1000) (hl2 : b.length ≤ 1000) :
    Calls Tryd.prog 9 #[va, vb] w fun e w' => e = .returned (.bool (decide (a = b))) ∧ Below w.heap.size w w' := by
  obtain ⟨ad, ca, rfl⟩ := ownsRow_form ha
  obtain ⟨bd, cb, rfl⟩ := ownsRow_form hb
  by_cases hn : a.length = b.length
  · have hn' : ((a.length : Int) == (b.length : Int)) = true := by rw [beq_iff_eq]; omega
    have HN := hide hn
    clear hn
    go_enter Tryd.func9, Tryd.ntmps9
    go_wp2
    go_loopw [5] (fun i wr => ∃ k : Nat, k ≤ a.length ∧ i = .int .i64 k ∧ (∀ j (h : j < a.length) (h' : j < b.length), j < k → a[j] = b[j]) ∧ wr.ownsRow B 3 1 (.slice ad a.length ca) a.length (ints a) ∧ wr.ownsRow B' 3 1 (.slice bd b.length cb) b.length (ints b) ∧ Below w.heap.size w wr) (fun i _ => a.length - (intOf i).toNat)
    case atStart => exact ⟨0, Nat.zero_le _, rfl, fun j _ _ h => by omega, ha, hb, Below.refl _ _⟩
    case round =>
      obtain ⟨k, hk, rfl, hall, ha2, hb2, hbe⟩ := hrel
      have HX := hide (And.intro hall (And.intro ha2 (And.intro hb2 hbe)))
      by_cases hlt : k < a.length
      · have hlt' : (k : Int) < (a.length : Int) := by omega
        have hlb : k < b.length := by have := unhide HN; omega
        have hlb' : (k : Int) < (b.length : Int) := by omega
        have hk0 : (0 : Int) ≤ (k : Int) := by omega
        obtain ⟨g, cap, he, cx⟩ := int_cell ha2 hlt
        obtain ⟨g', cap', he', cy⟩ := int_cell hb2 hlb
        simp at he he'
        obtain ⟨rfl, rfl⟩ := he
        obtain ⟨rfl, rfl⟩ := he'
        have HE := hide (show a[k] = b[k] → ∀ j (h : j < a.length) (h' : j < b.length), j < k + 1 → a[j] = b[j] from fun e j h h' hj => by
          by_cases hjk : j = k
          · subst hjk; exact e
          · exact hall j h h' (by omega))
        have HF := hide (show ¬ a[k] = b[k] → decide (a = b) = false from fun e => by
          rw [decide_eq_false_iff_not]
          intro hab
          subst hab
          exact e rfl)
        clear hall ha2 hb2 hbe
        generalize a[k] = x at *
        generalize b[k] = y at *
        cases hxy : (x == y) with
        | true =>
          have hx := unhide HE (by simpa using hxy)
          have HE2 := hide hx
          clear hx
          go_wp2_with fail
          go_region_held3 (fun w' => w'.cell? ⟨g, k, none⟩ = some (.int .i64 x) ∧ w'.cell? ⟨g', k, none⟩ = some (.int .i64 y)) (go_keep) (fail)
          go_wp2_with fail
          go_roundw
          case rel =>
            obtain ⟨_, q2, q3, q4⟩ := unhide HX
            exact ⟨k + 1, by omega, by go_num, unhide HE2, own_later q2 (below_to_drew _), own_later q3 (below_to_drew _), q4.trans ((below_to_drew _).mono q4.size)⟩
          case measure => simp [intOf]; omega
        | false =>
          have hx := unhide HF (by simpa using hxy)
          have HF2 := hide hx
          clear hx
          go_wp2_with fail
          go_region_held3 (fun w' => w'.cell? ⟨g, k, none⟩ = some (.int .i64 x) ∧ w'.cell? ⟨g', k, none⟩ = some (.int .i64 y)) (go_keep) (fail)
          go_wp2_with fail
          go_ret
          obtain ⟨_, q2, q3, q4⟩ := unhide HX
          exact ⟨by rw [unhide HF2]; rfl, q4.trans ((below_to_drew _).mono q4.size)⟩
      · have hlt' : ¬ (k : Int) < (a.length : Int) := by omega
        have HE := hide (show decide (a = b) = true from by
          rw [decide_eq_true_eq]
          exact ints_eq_from (unhide HN) (fun j h h' => hall j h h' (by omega)))
        clear hall ha2 hb2 hbe
        go_wp2_with fail
        go_ret
        exact ⟨by rw [unhide HE]; rfl, (unhide HX).2.2.2⟩
  · have hn' : ((a.length : Int) == (b.length : Int)) = false := by rw [beq_eq_false_iff_ne]; omega
    go_enter Tryd.func9, Tryd.ntmps9
    go_wp2
    go_ret
    exact ⟨ret_bool (by rw [eq_comm, decide_eq_false_iff_not]; intro e; exact hn (by rw [e])), Below.refl _ _⟩


end Go.Proofs.YtopeochnoefgcaaDoor

