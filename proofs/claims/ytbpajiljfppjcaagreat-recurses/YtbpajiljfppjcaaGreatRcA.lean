/- The run of recurses: its steps. -/
import Derived.Test.YtbpajiljfppjcaaGreatTdDefs
import Derived.Test.YtbpajiljfppjcaaGreatKit0
namespace Go.Proofs.YtbpajiljfppjcaaGreat
open Go.RowKit

namespace Rt
/-- Why a move forward ends at a place. -/
def endsN (S : Src) (mk : List Bool) (kind fuel d0 : Int) (n k : Nat) : Int := fwdEnds (seAt S n 0 mk) kind fuel d0 k
/-- A move forward over the places. -/
def fwdN (S : Src) (mk : List Bool) (kind fuel d0 : Int) : Nat → Nat → Nat → Nat × Nat × Int
  | 0, n, k => (n, k, 4)
  | f + 1, n, k => if endsN S mk kind fuel d0 n k = 0 then fwdN S mk kind fuel d0 f (n + 1) (k + 1) else (n, k, endsN S mk kind fuel d0 n k)
/-- Low behind j steps. -/
def lowJ (S : Src) (cap : Int) : Nat → Nat → Nat → Nat
  | 0, _, low => low
  | j + 1, n, low => lowJ S cap j (n + 1) (lowF S cap n low)
theorem lowF_ge (S : Src) (cap : Int) (n low : Nat) : low ≤ lowF S cap n low := lowR_ge S cap _ _
theorem lowJ_ge (S : Src) (cap : Int) : ∀ j n low, low ≤ lowJ S cap j n low
  | 0, _, _ => Nat.le_refl _
  | j + 1, n, low => Nat.le_trans (lowF_ge S cap n low) (lowJ_ge S cap j (n + 1) _)
theorem lowJ_more (S : Src) (cap : Int) : ∀ i j n low, lowJ S cap (i + j) n low = lowJ S cap j (n + i) (lowJ S cap i n low)
  | 0, j, n, low => by rw [Nat.zero_add]; rfl
  | i + 1, j, n, low => by
    rw [show i + 1 + j = (i + j) + 1 by omega, lowJ, lowJ_more S cap i j (n + 1) _, lowJ, show n + 1 + i = n + (i + 1) by omega]
theorem fwdN_form (S : Src) (mk : List Bool) (kind : Int) (fuel : Nat) (d0 : Int) : ∀ (f n k : Nat), k + f = fuel + 1 → 0 < f → ∃ j, fwdN S mk kind fuel d0 f n k = (n + j, k + j, endsN S mk kind fuel d0 (n + j) (k + j)) ∧ k + j ≤ fuel ∧ ¬ endsN S mk kind fuel d0 (n + j) (k + j) = 0 ∧ ∀ i, i < j → endsN S mk kind fuel d0 (n + i) (k + i) = 0
  | 0, _, _, _, h => by omega
  | f + 1, n, k, he, _ => by
    rw [fwdN]
    by_cases hz : endsN S mk kind fuel d0 n k = 0
    · rw [if_pos hz]
      have hlt : (k : Int) < fuel := (fwdEnds_zero hz).2
      obtain ⟨j, h1, h2, h3, h4⟩ := fwdN_form S mk kind fuel d0 f (n + 1) (k + 1) (by omega) (by omega)
      have ej : n + 1 + j = n + (j + 1) := by omega
      have ek : k + 1 + j = k + (j + 1) := by omega
      rw [ej, ek] at h1 h3
      refine ⟨j + 1, h1, by omega, h3, fun i hi => ?_⟩
      cases i with
      | zero => exact hz
      | succ i =>
        have := h4 i (by omega)
        rwa [show n + 1 + i = n + (i + 1) by omega, show k + 1 + i = k + (i + 1) by omega] at this
    · rw [if_neg hz]
      exact ⟨0, rfl, by omega, hz, fun i hi => by omega⟩
/-- A move of a session is a move over the places. -/
theorem fwdRun_at {S : Src} {cap : Int} (hc : 0 ≤ cap) (mk : List Bool) (kind fuel d0 : Int) : ∀ (f n k low : Nat), SeOk S cap n low → n + f ≤ 4611686018427387000 →
    fwdRun S cap kind fuel d0 f (seAt S n low mk) k = (seAt S (fwdN S mk kind fuel d0 f n k).1 (lowJ S cap ((fwdN S mk kind fuel d0 f n k).1 - n) n low) mk, (fwdN S mk kind fuel d0 f n k).2) ∧ SeOk S cap (fwdN S mk kind fuel d0 f n k).1 (lowJ S cap ((fwdN S mk kind fuel d0 f n k).1 - n) n low) ∧ n ≤ (fwdN S mk kind fuel d0 f n k).1
  | 0, n, k, low, h, _ => by
    rw [fwdN, fwdRun]
    simp only [Nat.sub_self, lowJ]
    exact ⟨trivial, h, Nat.le_refl _⟩
  | f + 1, n, k, low, h, hn => by
    rw [fwdN, fwdRun]
    have he : fwdEnds (seAt S n low mk) kind fuel d0 k = endsN S mk kind fuel d0 n k := rfl
    rw [he]
    by_cases hz : endsN S mk kind fuel d0 n k = 0
    · rw [if_pos hz, if_pos hz]
      have hfin : (atM S n).fin = 0 := (fwdEnds_zero hz).1
      rw [seStep_at h hc hfin (by omega) mk]
      obtain ⟨h1, h2, h3⟩ := fwdRun_at hc mk kind fuel d0 f (n + 1) (k + 1) (lowF S cap n low) (h.step hc hfin) (by omega)
      generalize fwdN S mk kind fuel d0 f (n + 1) (k + 1) = r at *
      have el : lowJ S cap (r.1 - n) n low = lowJ S cap (r.1 - (n + 1)) (n + 1) (lowF S cap n low) := by
        rw [show r.1 - n = (r.1 - (n + 1)) + 1 by omega, lowJ]
      rw [el]
      exact ⟨h1, h2, by omega⟩
    · rw [if_neg hz, if_neg hz]
      simp only [Nat.sub_self, lowJ]
      exact ⟨trivial, h, Nat.le_refl _⟩
/-- Why a move backward ends at a place. -/
def bendsN (S : Src) (mk : List Bool) (low : Nat) (kind fuel d0 : Int) (n k : Nat) : Int := backEnds (seAt S n low mk) kind fuel d0 k
/-- A move backward over the places. -/
def backN (S : Src) (mk : List Bool) (low : Nat) (kind fuel d0 : Int) : Nat → Nat → Nat → Nat × Nat × Int
  | 0, n, k => (n, k, 4)
  | f + 1, n, k => if bendsN S mk low kind fuel d0 n k = 0 then backN S mk low kind fuel d0 f (n - 1) (k + 1) else (n, k, bendsN S mk low kind fuel d0 n k)
theorem bends_zero {S : Src} {mk : List Bool} {low : Nat} {kind fuel d0 : Int} {n k : Nat} (h : bendsN S mk low kind fuel d0 n k = 0) : n ≠ 0 ∧ n ≠ low ∧ (k : Int) < fuel := by
  obtain ⟨h1, h2, h3⟩ := backEnds_zero h
  clear h
  have h1 : (n : Int) ≠ 0 := h1
  have h2 : (n : Int) ≠ (low : Int) := h2
  exact ⟨by omega, by omega, h3⟩
theorem backN_form (S : Src) (mk : List Bool) (low : Nat) (kind : Int) (fuel : Nat) (d0 : Int) : ∀ (f n k : Nat), low ≤ n → k + f = fuel + 1 → 0 < f → ∃ j, backN S mk low kind fuel d0 f n k = (n - j, k + j, bendsN S mk low kind fuel d0 (n - j) (k + j)) ∧ low + j ≤ n ∧ k + j ≤ fuel ∧ ¬ bendsN S mk low kind fuel d0 (n - j) (k + j) = 0 ∧ ∀ i, i < j → bendsN S mk low kind fuel d0 (n - i) (k + i) = 0
  | 0, _, _, _, _, h => by omega
  | f + 1, n, k, hl, he, _ => by
    rw [backN]
    by_cases hz : bendsN S mk low kind fuel d0 n k = 0
    · rw [if_pos hz]
      obtain ⟨h0, h0', hlt⟩ := bends_zero hz
      obtain ⟨j, h1, h1', h2, h3, h4⟩ := backN_form S mk low kind fuel d0 f (n - 1) (k + 1) (by omega) (by omega) (by omega)
      have ej : n - 1 - j = n - (j + 1) := by omega
      have ek : k + 1 + j = k + (j + 1) := by omega
      rw [ej, ek] at h1 h3
      refine ⟨j + 1, h1, by omega, by omega, h3, fun i hi => ?_⟩
      cases i with
      | zero => exact hz
      | succ i =>
        have := h4 i (by omega)
        rwa [show n - 1 - i = n - (i + 1) by omega, show k + 1 + i = k + (i + 1) by omega] at this
    · rw [if_neg hz]
      exact ⟨0, rfl, by omega, by omega, hz, fun i hi => by omega⟩
theorem backRun_at {S : Src} {cap : Int} (hi : S.input.length ≤ 100) (mk : List Bool) (low : Nat) (kind fuel d0 : Int) : ∀ (f n k : Nat), SeOk S cap n low → n ≤ 4611686018427387000 →
    backRun kind fuel d0 f (seAt S n low mk) k = (seAt S (backN S mk low kind fuel d0 f n k).1 low mk, (backN S mk low kind fuel d0 f n k).2) ∧ SeOk S cap (backN S mk low kind fuel d0 f n k).1 low ∧ (backN S mk low kind fuel d0 f n k).1 ≤ n
  | 0, n, k, h, _ => by
    rw [backN, backRun]
    exact ⟨rfl, h, Nat.le_refl _⟩
  | f + 1, n, k, h, hn => by
    rw [backN, backRun]
    have he : backEnds (seAt S n low mk) kind fuel d0 k = bendsN S mk low kind fuel d0 n k := rfl
    rw [he]
    by_cases hz : bendsN S mk low kind fuel d0 n k = 0
    · rw [if_pos hz, if_pos hz]
      obtain ⟨h0, h0', hlt⟩ := bends_zero hz
      obtain ⟨q, rfl⟩ : ∃ q, n = q + 1 := ⟨n - 1, by omega⟩
      have hle := h.le
      rw [seBack_at h (by omega) hi (by omega) mk, Nat.add_sub_cancel]
      obtain ⟨h1, h2, h3⟩ := backRun_at hi mk low kind fuel d0 f q (k + 1) (h.back (by omega)) (by omega)
      exact ⟨h1, h2, by omega⟩
    · rw [if_neg hz, if_neg hz]
      exact ⟨rfl, h, Nat.le_refl _⟩
/-- A raw number as a move: its kind, its fuel, whether it goes forward. -/
def mvV (raw : Int) : Nat := (pickP raw 1099511627776).toNat
def mvK (raw : Int) : Nat := mvV raw / 3 % 4
def mvF (raw : Int) : Nat := mvV raw / 12 % 60
/-- A move of a session. -/
def moveR (S : Src) (cap raw : Int) (s : Se) : Se × Nat × Int := if mvV raw % 3 < 2 then fwdRun S cap (mvK raw) (mvF raw) s.m.frames.length (mvF raw + 1) s 0 else backRun (mvK raw) (mvF raw) s.m.frames.length (mvF raw + 1) s 0
/-- A move over the places. -/
def moveN (S : Src) (mk : List Bool) (low : Nat) (raw : Int) (n : Nat) : Nat × Nat × Int := if mvV raw % 3 < 2 then fwdN S mk (mvK raw) (mvF raw) (atM S n).frames.length (mvF raw + 1) n 0 else backN S mk low (mvK raw) (mvF raw) (atM S n).frames.length (mvF raw + 1) n 0
def moveLow (S : Src) (cap : Int) (mk : List Bool) (low : Nat) (raw : Int) (n : Nat) : Nat := if mvV raw % 3 < 2 then lowJ S cap ((moveN S mk low raw n).1 - n) n low else low
theorem moveLow_ge (S : Src) (cap : Int) (mk : List Bool) (low : Nat) (raw : Int) (n : Nat) : low ≤ moveLow S cap mk low raw n := by
  unfold moveLow
  split
  · exact lowJ_ge S cap _ _ _
  · exact Nat.le_refl _
theorem mvF_lt (raw : Int) : mvF raw < 60 := Nat.mod_lt _ (by omega)
theorem mvK_lt (raw : Int) : mvK raw < 4 := Nat.mod_lt _ (by omega)
theorem moveR_at {S : Src} {cap : Int} (hc : 0 ≤ cap) (hi : S.input.length ≤ 100) (mk : List Bool) (raw : Int) (n low : Nat) (h : SeOk S cap n low) (hn : n + 60 ≤ 4611686018427387000) :
    moveR S cap raw (seAt S n low mk) = (seAt S (moveN S mk low raw n).1 (moveLow S cap mk low raw n) mk, (moveN S mk low raw n).2) ∧ SeOk S cap (moveN S mk low raw n).1 (moveLow S cap mk low raw n) ∧ (moveN S mk low raw n).1 ≤ n + 60 ∧ (moveN S mk low raw n).2.1 ≤ mvF raw := by
  have hF := mvF_lt raw
  by_cases hv : mvV raw % 3 < 2
  · have e : moveN S mk low raw n = fwdN S mk (mvK raw) (mvF raw) (atM S n).frames.length (mvF raw + 1) n 0 := by unfold moveN; rw [if_pos hv]
    have e2 : moveLow S cap mk low raw n = lowJ S cap ((moveN S mk low raw n).1 - n) n low := by unfold moveLow; rw [if_pos hv]
    have e3 : moveR S cap raw (seAt S n low mk) = fwdRun S cap (mvK raw) (mvF raw) (atM S n).frames.length (mvF raw + 1) (seAt S n low mk) 0 := by unfold moveR; rw [if_pos hv]; rfl
    rw [e2, e3, e]
    obtain ⟨h1, h2, h3⟩ := fwdRun_at hc mk (mvK raw) (mvF raw) (atM S n).frames.length (mvF raw + 1) n 0 low h (by omega)
    obtain ⟨j, g1, g2, _, _⟩ := fwdN_form S mk (mvK raw) (mvF raw) (atM S n).frames.length (mvF raw + 1) n 0 (by omega) (by omega)
    refine ⟨h1, h2, ?_, ?_⟩
    · rw [g1]; show n + j ≤ n + 60; omega
    · rw [g1]; show 0 + j ≤ mvF raw; omega
  · have e : moveN S mk low raw n = backN S mk low (mvK raw) (mvF raw) (atM S n).frames.length (mvF raw + 1) n 0 := by unfold moveN; rw [if_neg hv]
    have e2 : moveLow S cap mk low raw n = low := by unfold moveLow; rw [if_neg hv]
    have e3 : moveR S cap raw (seAt S n low mk) = backRun (mvK raw) (mvF raw) (atM S n).frames.length (mvF raw + 1) (seAt S n low mk) 0 := by unfold moveR; rw [if_neg hv]; rfl
    rw [e2, e3, e]
    obtain ⟨h1, h2, h3⟩ := backRun_at hi mk low (mvK raw) (mvF raw) (atM S n).frames.length (mvF raw + 1) n 0 h (by omega)
    obtain ⟨j, g1, _, g2, _, _⟩ := backN_form S mk low (mvK raw) (mvF raw) (atM S n).frames.length (mvF raw + 1) n 0 h.le (by omega) (by omega)
    refine ⟨h1, h2, by omega, ?_⟩
    rw [g1]; show 0 + j ≤ mvF raw; omega
/-- One to five records a step. -/
theorem recsOf_len {S : Src} (h4 : Call4 S) (lo : Nat) : ∀ k, (∀ i, i < lo + k → (atM S i).fin = 0) → k ≤ (recsOf S lo k).length ∧ (recsOf S lo k).length ≤ 5 * k
  | 0, _ => by simp [recsOf]
  | k + 1, h => by
    obtain ⟨h1, h2⟩ := recsOf_len h4 lo k (fun i hi => h i (by omega))
    obtain ⟨_, g1, g2⟩ := step_par4 h4 (at_par4 h4 (lo + k))
    have g3 := g2 (h (lo + k) (by omega))
    rw [recsOf, List.length_append]
    have e : (recsAt S (lo + k)).length = (stepM S (atM S (lo + k))).2.length := rfl
    omega
end Rt
end Go.Proofs.YtbpajiljfppjcaaGreat

namespace Go.Proofs.YtbpajiljfppjcaaGreat
open Go.RowKit

namespace Rt
theorem recsOf_mono (S : Src) (lo : Nat) {k k' : Nat} (h : k ≤ k') : (recsOf S lo k).length ≤ (recsOf S lo k').length := by
  induction k' with
  | zero =>
    have : k = 0 := by omega
    rw [this]
    exact Nat.le_refl _
  | succ q ih =>
    by_cases e : k = q + 1
    · rw [e]; exact Nat.le_refl _
    · have := ih (by omega)
      rw [recsOf, List.length_append]
      omega
theorem lowJ_min (S : Src) (cap : Int) : ∀ j n low, low ≤ n → lowJ S cap j n low = low ∨ ∃ l, lowJ S cap j n low = l + 1 ∧ low ≤ l ∧ cap < (recsOf S l (n + j - l)).length
  | 0, _, _, _ => Or.inl rfl
  | j + 1, n, low, hl => by
    rw [lowJ]
    have hle : lowF S cap n low ≤ n + 1 := by
      have := lowR_le S cap (n + 1 - low) low
      unfold lowF
      omega
    have hge := lowF_ge S cap n low
    rcases lowJ_min S cap j (n + 1) (lowF S cap n low) hle with h | ⟨l, h1, h2, h3⟩
    · rw [h]
      rcases lowR_min S cap (n + 1 - low) low with g | ⟨l, g1, g2, g3⟩
      · exact Or.inl g
      · right
        refine ⟨l, g1, g2, ?_⟩
        have hm := recsOf_mono S l (show low + (n + 1 - low) - l ≤ n + (j + 1) - l by omega)
        omega
    · exact Or.inr ⟨l, h1, by omega, by rw [show n + (j + 1) - l = n + 1 + j - l by omega]; exact h3⟩
/-- So many steps can be taken back as there is room for at five records a step. -/
theorem lowJ_room {S : Src} (h4 : Call4 S) {cap : Int} {m : Nat} (hr : ∀ i, i < m → (atM S i).fin = 0) (h : lowJ S cap m 0 0 ≠ 0) (hle : lowJ S cap m 0 0 ≤ m) : cap / 5 ≤ ((m - lowJ S cap m 0 0 : Nat) : Int) := by
  rcases lowJ_min S cap m 0 0 (Nat.le_refl _) with g | ⟨l, g1, _, g3⟩
  · exact absurd g h
  · rw [g1] at hle ⊢
    have := (recsOf_len h4 l (0 + m - l) (fun i hi => hr i (by omega))).2
    omega
theorem bends_eq (S : Src) (mk : List Bool) (low : Nat) (kind fuel d0 : Int) (n k : Nat) : bendsN S mk low kind fuel d0 n k = if ¬ arrivedI (seAt S n 0 mk) kind d0 k = 0 then arrivedI (seAt S n 0 mk) kind d0 k else if n = 0 then 5 else if n = low then 6 else if fuel ≤ (k : Int) then 4 else 0 := by
  have e : bendsN S mk low kind fuel d0 n k = if ¬ arrivedI (seAt S n 0 mk) kind d0 k = 0 then arrivedI (seAt S n 0 mk) kind d0 k else if (n : Int) = 0 then 5 else if (n : Int) = (low : Int) then 6 else if fuel ≤ (k : Int) then 4 else 0 := rfl
  rw [e]
  have e1 : ((n : Int) = 0) = (n = 0) := by simp
  have e2 : ((n : Int) = (low : Int)) = (n = low) := propext ⟨fun h => by omega, fun h => by omega⟩
  simp only [e1, e2]
/-- Two sessions that come to no horizon go back alike. -/
theorem backN_alike (S : Src) (mk : List Bool) (la lb : Nat) (kind fuel d0 : Int) : ∀ (f n k : Nat), ¬ (backN S mk la kind fuel d0 f n k).2.2 = 6 → ¬ (backN S mk lb kind fuel d0 f n k).2.2 = 6 → backN S mk la kind fuel d0 f n k = backN S mk lb kind fuel d0 f n k
  | 0, _, _, _, _ => rfl
  | f + 1, n, k, ha, hb => by
    have key : bendsN S mk la kind fuel d0 n k = bendsN S mk lb kind fuel d0 n k := by
      rw [backN] at ha hb
      have ea := bends_eq S mk la kind fuel d0 n k
      have eb := bends_eq S mk lb kind fuel d0 n k
      rw [ea, eb]
      by_cases h0 : arrivedI (seAt S n 0 mk) kind d0 k = 0
      · rw [if_neg (not_not_intro h0)] at ea eb
        rw [if_neg (not_not_intro h0), if_neg (not_not_intro h0)]
        by_cases hn : n = 0
        · rw [if_pos hn, if_pos hn]
        · rw [if_neg hn] at ea eb
          rw [if_neg hn, if_neg hn]
          by_cases h1 : n = la
          · exfalso
            rw [if_pos h1] at ea
            rw [ea, if_neg (by omega)] at ha
            exact ha rfl
          · by_cases h2 : n = lb
            · exfalso
              rw [if_pos h2] at eb
              rw [eb, if_neg (by omega)] at hb
              exact hb rfl
            · rw [if_neg h1, if_neg h2]
      · rw [if_pos h0, if_pos h0]
    rw [backN, backN] at *
    rw [← key] at hb ⊢
    by_cases hz : bendsN S mk la kind fuel d0 n k = 0
    · rw [if_pos hz] at ha hb ⊢
      rw [if_pos hz]
      exact backN_alike S mk la lb kind fuel d0 f (n - 1) (k + 1) ha hb
    · rw [if_neg hz, if_neg hz]
theorem endsN_six (S : Src) (mk : List Bool) (kind fuel d0 : Int) (n k : Nat) : ¬ endsN S mk kind fuel d0 n k = 6 := by
  unfold endsN fwdEnds arrivedI
  repeat' split
  all_goals omega
theorem fwdN_six (S : Src) (mk : List Bool) (kind fuel d0 : Int) : ∀ (f n k : Nat), ¬ (fwdN S mk kind fuel d0 f n k).2.2 = 6
  | 0, _, _ => by rw [fwdN]; simp
  | f + 1, n, k => by
    rw [fwdN]
    split
    · exact fwdN_six S mk kind fuel d0 f (n + 1) (k + 1)
    · exact endsN_six S mk kind fuel d0 n k
/-- Two sessions of two capacities that come to no horizon move alike. -/
theorem moveN_alike (S : Src) (mk : List Bool) (la lb : Nat) (raw : Int) (n : Nat) (ha : ¬ (moveN S mk la raw n).2.2 = 6) (hb : ¬ (moveN S mk lb raw n).2.2 = 6) : moveN S mk la raw n = moveN S mk lb raw n := by
  unfold moveN at *
  split
  · rfl
  · next h =>
    rw [if_neg h] at ha hb
    exact backN_alike S mk la lb _ _ _ _ _ _ ha hb
/-- A step that has just been made can be taken back. -/
theorem lowF_le {S : Src} (h4 : Call4 S) {cap : Int} (hc : 5 ≤ cap) {n low : Nat} (hl : low ≤ n) : lowF S cap n low ≤ n := by
  rcases lowR_min S cap (n + 1 - low) low with g | ⟨l, g1, g2, g3⟩
  · unfold lowF; omega
  · have hle := lowR_le S cap (n + 1 - low) low
    unfold lowF
    by_cases e : l = n
    · exfalso
      subst e
      rw [show low + (l + 1 - low) - l = 0 + 1 by omega, recsOf, recsOf, List.nil_append, Nat.add_zero] at g3
      have := (step_par4 h4 (at_par4 h4 l)).2.1
      have e : (recsAt S l).length = (stepM S (atM S l)).2.length := rfl
      omega
    · omega
theorem recsOf_app (S : Src) (lo : Nat) (a : Nat) : ∀ b, recsOf S lo (a + b) = recsOf S lo a ++ recsOf S (lo + a) b
  | 0 => by simp [recsOf]
  | b + 1 => by rw [← Nat.add_assoc, recsOf, recsOf_app S lo a b, recsOf, List.append_assoc, Nat.add_assoc]
theorem recsOf_part (S : Src) {low lf n : Nat} (h1 : low ≤ lf) (h2 : lf ≤ n) : (recsOf S lf (n - lf)).length ≤ (recsOf S low (n - low)).length := by
  have := recsOf_app S low (lf - low) (n - lf)
  rw [show lf - low + (n - lf) = n - low by omega, show low + (lf - low) = lf by omega] at this
  rw [this, List.length_append]
  omega
end Rt
end Go.Proofs.YtbpajiljfppjcaaGreat

namespace Go.Proofs.YtbpajiljfppjcaaGreat
open Go.RowKit
namespace Rt
def rcSrc (x : Int) : Src := ⟨rcP, rcL, [x]⟩
def rcM (fr : List Fm) (r k t : Int) (o : List Int) (ln : Int) : Mc := ⟨fr, [[], [r], [k], [], [], [], [], [], [], [], [], [], [], [], []], t, o, ln, 0⟩
theorem rc_decl : declP rcP mainName = 9 := by kernel_rfl
theorem rc_declF : declP rcP ⟨#[102, 97, 99]⟩ = 3 := by kernel_rfl
theorem rc_go : goOn rcP rcL 102 (wrap64 (((9 : Nat) : Int) + 1)) = 10 := by kernel_rfl
theorem rc_goF : goOn rcP rcL 102 (wrap64 (((3 : Nat) : Int) + 1)) = 4 := by kernel_rfl
theorem rc_vals : rcP.map (fun p => zerosI p.form) = [[], [0], [0], [], [], [], [], [], [], [], [], [], [], [], []] := by kernel_rfl
theorem rc_first (x : Int) : firstM (rcSrc x) = rcM [noFm] 0 0 0 [] 10 := by
  show (⟨[noFm], rcP.map (fun p => zerosI p.form), 0, [], goOn rcP rcL 102 (wrap64 (declP rcP mainName + 1)), 0⟩ : Mc) = _
  rw [rc_decl, rc_go, rc_vals]
  rfl
/-- A line that calls. -/
theorem step_call {S : Src} {m : Mc} {f : PForm} {args : List Int} {dl : Nat} {l : Int} (h0 : m.fin = 0) (hf : formAt S.pls m.line = f) (hk : f.kind = 12) (ha : argsI S m f.values [] = (args, 0)) (hd : ¬ 6 ≤ m.frames.length) (hdl : declP S.pls f.name = dl) (hl : goOn S.pls S.lk 102 (wrap64 ((dl : Int) + 1)) = l) :
    (stepM S m).1 = { m with frames := m.frames ++ [⟨args, m.line⟩], line := l } := by
  have hp : perform S m f = ⟨0, wrap64 ((dl : Int) + 1), [⟨2, m.line, ⟨0, 0⟩, 0⟩], { m with frames := m.frames ++ [⟨args, m.line⟩] }⟩ := by
    unfold perform
    simp [hk, ha, hd, hdl]
  unfold stepM
  rw [if_pos h0, hf, hp]
  simp [hl]
section
variable (x r k t : Int) (o : List Int) (a b c d e : Int)
theorem rc_st10 : (stepM (rcSrc x) (rcM [noFm] r k t o 10)).1 = rcM [noFm] 1 k t o 11 := by kernel_rfl
theorem rc_st11 : (stepM (rcSrc x) (rcM [noFm] r k 0 o 11)).1 = rcM [noFm] r x 1 o 12 := by kernel_rfl
theorem rc_st12 : (stepM (rcSrc x) (rcM [noFm] r k t o 12)).1 = rcM [noFm, ⟨[k], 12⟩] r k t o 4 :=
  step_call (S := rcSrc x) (m := rcM [noFm] r k t o 12) rfl rfl rfl (args := [k]) (by kernel_rfl) (by show ¬ 6 ≤ 1; omega) rc_declF rc_goF
theorem rc_st13 : (stepM (rcSrc x) (rcM [noFm] r k t [] 13)).1 = rcM [noFm] r k t [r] 14 := by kernel_rfl
theorem rc_st14 : (stepM (rcSrc x) (rcM [noFm] r k t o 14)).1 = { rcM [noFm] r k t o 14 with fin := 1 } := by kernel_rfl
theorem rc_ask2 : (stepM (rcSrc x) (rcM [noFm, ⟨[a], 12⟩] r k t o 4)).1 = { rcM [noFm, ⟨[a], 12⟩] r k t o 4 with line := goOn rcP rcL 102 (if truthI (decide (1 < a)) = 0 then otherwise rcL 4 else wrap64 (4 + 1)) } := by kernel_rfl
theorem rc_yes2 (h : 1 < a) : (stepM (rcSrc x) (rcM [noFm, ⟨[a], 12⟩] r k t o 4)).1 = rcM [noFm, ⟨[a], 12⟩] r k t o 5 := by
  rw [rc_ask2, show decide (1 < a) = true by simpa using h]
  kernel_rfl
theorem rc_no2 (h : ¬ 1 < a) : (stepM (rcSrc x) (rcM [noFm, ⟨[a], 12⟩] r k t o 4)).1 = rcM [noFm, ⟨[a], 12⟩] r k t o 8 := by
  rw [rc_ask2, show decide (1 < a) = false by simpa using h]
  kernel_rfl
theorem rc_set2 : (stepM (rcSrc x) (rcM [noFm, ⟨[a], 12⟩] r k t o 5)).1 = rcM [noFm, ⟨[a], 12⟩] (wrap64 (r * a)) k t o 6 := by kernel_rfl
theorem rc_call2 : (stepM (rcSrc x) (rcM [noFm, ⟨[a], 12⟩] r k t o 6)).1 = rcM [noFm, ⟨[a], 12⟩, ⟨[wrap64 (a - 1)], 6⟩] r k t o 4 :=
  step_call (S := rcSrc x) (m := rcM [noFm, ⟨[a], 12⟩] r k t o 6) rfl rfl rfl (args := [wrap64 (a - 1)]) (by kernel_rfl) (by show ¬ 6 ≤ 2; omega) rc_declF rc_goF
theorem rc_ask3 : (stepM (rcSrc x) (rcM [noFm, ⟨[a], 12⟩, ⟨[b], 6⟩] r k t o 4)).1 = { rcM [noFm, ⟨[a], 12⟩, ⟨[b], 6⟩] r k t o 4 with line := goOn rcP rcL 102 (if truthI (decide (1 < b)) = 0 then otherwise rcL 4 else wrap64 (4 + 1)) } := by kernel_rfl
theorem rc_yes3 (h : 1 < b) : (stepM (rcSrc x) (rcM [noFm, ⟨[a], 12⟩, ⟨[b], 6⟩] r k t o 4)).1 = rcM [noFm, ⟨[a], 12⟩, ⟨[b], 6⟩] r k t o 5 := by
  rw [rc_ask3, show decide (1 < b) = true by simpa using h]
  kernel_rfl
theorem rc_no3 (h : ¬ 1 < b) : (stepM (rcSrc x) (rcM [noFm, ⟨[a], 12⟩, ⟨[b], 6⟩] r k t o 4)).1 = rcM [noFm, ⟨[a], 12⟩, ⟨[b], 6⟩] r k t o 8 := by
  rw [rc_ask3, show decide (1 < b) = false by simpa using h]
  kernel_rfl
theorem rc_set3 : (stepM (rcSrc x) (rcM [noFm, ⟨[a], 12⟩, ⟨[b], 6⟩] r k t o 5)).1 = rcM [noFm, ⟨[a], 12⟩, ⟨[b], 6⟩] (wrap64 (r * b)) k t o 6 := by kernel_rfl
theorem rc_call3 : (stepM (rcSrc x) (rcM [noFm, ⟨[a], 12⟩, ⟨[b], 6⟩] r k t o 6)).1 = rcM [noFm, ⟨[a], 12⟩, ⟨[b], 6⟩, ⟨[wrap64 (b - 1)], 6⟩] r k t o 4 :=
  step_call (S := rcSrc x) (m := rcM [noFm, ⟨[a], 12⟩, ⟨[b], 6⟩] r k t o 6) rfl rfl rfl (args := [wrap64 (b - 1)]) (by kernel_rfl) (by show ¬ 6 ≤ 3; omega) rc_declF rc_goF
theorem rc_ask4 : (stepM (rcSrc x) (rcM [noFm, ⟨[a], 12⟩, ⟨[b], 6⟩, ⟨[c], 6⟩] r k t o 4)).1 = { rcM [noFm, ⟨[a], 12⟩, ⟨[b], 6⟩, ⟨[c], 6⟩] r k t o 4 with line := goOn rcP rcL 102 (if truthI (decide (1 < c)) = 0 then otherwise rcL 4 else wrap64 (4 + 1)) } := by kernel_rfl
theorem rc_yes4 (h : 1 < c) : (stepM (rcSrc x) (rcM [noFm, ⟨[a], 12⟩, ⟨[b], 6⟩, ⟨[c], 6⟩] r k t o 4)).1 = rcM [noFm, ⟨[a], 12⟩, ⟨[b], 6⟩, ⟨[c], 6⟩] r k t o 5 := by
  rw [rc_ask4, show decide (1 < c) = true by simpa using h]
  kernel_rfl
theorem rc_no4 (h : ¬ 1 < c) : (stepM (rcSrc x) (rcM [noFm, ⟨[a], 12⟩, ⟨[b], 6⟩, ⟨[c], 6⟩] r k t o 4)).1 = rcM [noFm, ⟨[a], 12⟩, ⟨[b], 6⟩, ⟨[c], 6⟩] r k t o 8 := by
  rw [rc_ask4, show decide (1 < c) = false by simpa using h]
  kernel_rfl
theorem rc_set4 : (stepM (rcSrc x) (rcM [noFm, ⟨[a], 12⟩, ⟨[b], 6⟩, ⟨[c], 6⟩] r k t o 5)).1 = rcM [noFm, ⟨[a], 12⟩, ⟨[b], 6⟩, ⟨[c], 6⟩] (wrap64 (r * c)) k t o 6 := by kernel_rfl
theorem rc_call4 : (stepM (rcSrc x) (rcM [noFm, ⟨[a], 12⟩, ⟨[b], 6⟩, ⟨[c], 6⟩] r k t o 6)).1 = rcM [noFm, ⟨[a], 12⟩, ⟨[b], 6⟩, ⟨[c], 6⟩, ⟨[wrap64 (c - 1)], 6⟩] r k t o 4 :=
  step_call (S := rcSrc x) (m := rcM [noFm, ⟨[a], 12⟩, ⟨[b], 6⟩, ⟨[c], 6⟩] r k t o 6) rfl rfl rfl (args := [wrap64 (c - 1)]) (by kernel_rfl) (by show ¬ 6 ≤ 4; omega) rc_declF rc_goF
theorem rc_ask5 : (stepM (rcSrc x) (rcM [noFm, ⟨[a], 12⟩, ⟨[b], 6⟩, ⟨[c], 6⟩, ⟨[d], 6⟩] r k t o 4)).1 = { rcM [noFm, ⟨[a], 12⟩, ⟨[b], 6⟩, ⟨[c], 6⟩, ⟨[d], 6⟩] r k t o 4 with line := goOn rcP rcL 102 (if truthI (decide (1 < d)) = 0 then otherwise rcL 4 else wrap64 (4 + 1)) } := by kernel_rfl
theorem rc_yes5 (h : 1 < d) : (stepM (rcSrc x) (rcM [noFm, ⟨[a], 12⟩, ⟨[b], 6⟩, ⟨[c], 6⟩, ⟨[d], 6⟩] r k t o 4)).1 = rcM [noFm, ⟨[a], 12⟩, ⟨[b], 6⟩, ⟨[c], 6⟩, ⟨[d], 6⟩] r k t o 5 := by
  rw [rc_ask5, show decide (1 < d) = true by simpa using h]
  kernel_rfl
theorem rc_no5 (h : ¬ 1 < d) : (stepM (rcSrc x) (rcM [noFm, ⟨[a], 12⟩, ⟨[b], 6⟩, ⟨[c], 6⟩, ⟨[d], 6⟩] r k t o 4)).1 = rcM [noFm, ⟨[a], 12⟩, ⟨[b], 6⟩, ⟨[c], 6⟩, ⟨[d], 6⟩] r k t o 8 := by
  rw [rc_ask5, show decide (1 < d) = false by simpa using h]
  kernel_rfl
theorem rc_set5 : (stepM (rcSrc x) (rcM [noFm, ⟨[a], 12⟩, ⟨[b], 6⟩, ⟨[c], 6⟩, ⟨[d], 6⟩] r k t o 5)).1 = rcM [noFm, ⟨[a], 12⟩, ⟨[b], 6⟩, ⟨[c], 6⟩, ⟨[d], 6⟩] (wrap64 (r * d)) k t o 6 := by kernel_rfl
theorem rc_call5 : (stepM (rcSrc x) (rcM [noFm, ⟨[a], 12⟩, ⟨[b], 6⟩, ⟨[c], 6⟩, ⟨[d], 6⟩] r k t o 6)).1 = rcM [noFm, ⟨[a], 12⟩, ⟨[b], 6⟩, ⟨[c], 6⟩, ⟨[d], 6⟩, ⟨[wrap64 (d - 1)], 6⟩] r k t o 4 :=
  step_call (S := rcSrc x) (m := rcM [noFm, ⟨[a], 12⟩, ⟨[b], 6⟩, ⟨[c], 6⟩, ⟨[d], 6⟩] r k t o 6) rfl rfl rfl (args := [wrap64 (d - 1)]) (by kernel_rfl) (by show ¬ 6 ≤ 5; omega) rc_declF rc_goF
theorem rc_ask6 : (stepM (rcSrc x) (rcM [noFm, ⟨[a], 12⟩, ⟨[b], 6⟩, ⟨[c], 6⟩, ⟨[d], 6⟩, ⟨[e], 6⟩] r k t o 4)).1 = { rcM [noFm, ⟨[a], 12⟩, ⟨[b], 6⟩, ⟨[c], 6⟩, ⟨[d], 6⟩, ⟨[e], 6⟩] r k t o 4 with line := goOn rcP rcL 102 (if truthI (decide (1 < e)) = 0 then otherwise rcL 4 else wrap64 (4 + 1)) } := by kernel_rfl
theorem rc_yes6 (h : 1 < e) : (stepM (rcSrc x) (rcM [noFm, ⟨[a], 12⟩, ⟨[b], 6⟩, ⟨[c], 6⟩, ⟨[d], 6⟩, ⟨[e], 6⟩] r k t o 4)).1 = rcM [noFm, ⟨[a], 12⟩, ⟨[b], 6⟩, ⟨[c], 6⟩, ⟨[d], 6⟩, ⟨[e], 6⟩] r k t o 5 := by
  rw [rc_ask6, show decide (1 < e) = true by simpa using h]
  kernel_rfl
theorem rc_no6 (h : ¬ 1 < e) : (stepM (rcSrc x) (rcM [noFm, ⟨[a], 12⟩, ⟨[b], 6⟩, ⟨[c], 6⟩, ⟨[d], 6⟩, ⟨[e], 6⟩] r k t o 4)).1 = rcM [noFm, ⟨[a], 12⟩, ⟨[b], 6⟩, ⟨[c], 6⟩, ⟨[d], 6⟩, ⟨[e], 6⟩] r k t o 8 := by
  rw [rc_ask6, show decide (1 < e) = false by simpa using h]
  kernel_rfl
theorem rc_set6 : (stepM (rcSrc x) (rcM [noFm, ⟨[a], 12⟩, ⟨[b], 6⟩, ⟨[c], 6⟩, ⟨[d], 6⟩, ⟨[e], 6⟩] r k t o 5)).1 = rcM [noFm, ⟨[a], 12⟩, ⟨[b], 6⟩, ⟨[c], 6⟩, ⟨[d], 6⟩, ⟨[e], 6⟩] (wrap64 (r * e)) k t o 6 := by kernel_rfl
theorem rc_deep : (stepM (rcSrc x) (rcM [noFm, ⟨[a], 12⟩, ⟨[b], 6⟩, ⟨[c], 6⟩, ⟨[d], 6⟩, ⟨[e], 6⟩] r k t o 6)).1 = { rcM [noFm, ⟨[a], 12⟩, ⟨[b], 6⟩, ⟨[c], 6⟩, ⟨[d], 6⟩, ⟨[e], 6⟩] r k t o 6 with fin := 5 } := by kernel_rfl
theorem rc_back2 : (stepM (rcSrc x) (rcM [noFm, ⟨[a], 12⟩] r k t o 8)).1 = rcM [noFm] r k t o 13 := by kernel_rfl
theorem rc_ret3 : (stepM (rcSrc x) (rcM [noFm, ⟨[a], 12⟩, ⟨[b], 6⟩] r k t o 8)).1 = rcM [noFm, ⟨[a], 12⟩] r k t o 8 := by kernel_rfl
theorem rc_ret4 : (stepM (rcSrc x) (rcM [noFm, ⟨[a], 12⟩, ⟨[b], 6⟩, ⟨[c], 6⟩] r k t o 8)).1 = rcM [noFm, ⟨[a], 12⟩, ⟨[b], 6⟩] r k t o 8 := by kernel_rfl
theorem rc_ret5 : (stepM (rcSrc x) (rcM [noFm, ⟨[a], 12⟩, ⟨[b], 6⟩, ⟨[c], 6⟩, ⟨[d], 6⟩] r k t o 8)).1 = rcM [noFm, ⟨[a], 12⟩, ⟨[b], 6⟩, ⟨[c], 6⟩] r k t o 8 := by kernel_rfl
theorem rc_ret6 : (stepM (rcSrc x) (rcM [noFm, ⟨[a], 12⟩, ⟨[b], 6⟩, ⟨[c], 6⟩, ⟨[d], 6⟩, ⟨[e], 6⟩] r k t o 8)).1 = rcM [noFm, ⟨[a], 12⟩, ⟨[b], 6⟩, ⟨[c], 6⟩, ⟨[d], 6⟩] r k t o 8 := by kernel_rfl
end
end Rt
end Go.Proofs.YtbpajiljfppjcaaGreat

