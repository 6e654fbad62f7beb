/- A session begins. -/
import Derived.Test.YtbpajiljfppjcaaGreatDoorTdD
import Derived.Test.YtbpajiljfppjcaaGreatDoorShowA
import Derived.Test.YtbpajiljfppjcaaGreatDoorTidy2
import Derived.Test.YtbpajiljfppjcaaGreatDoorRows
import Derived.Test.YtbpajiljfppjcaaGreatDoorChecked
import Derived.Test.YtbpajiljfppjcaaGreatDoorTdDefs
import Derived.ProofKit
import Derived.LaidMore
import Derived.OpenShut
import Derived.SizedLaws
import Derived.Carry
import Derived.Stop.Joined
import Derived.Deep.Slices
import Derived.Test.YtbpajiljfppjcaaGreatDoorJrD
namespace Go.Proofs.YtbpajiljfppjcaaGreatDoor
open Go.RowKit

namespace Rt
theorem read_fit {s : ByteArray} {pls : List PL} (h : readS s = (0, 0, pls)) (hs : tooLong s = false) (hl : (lines s).length ≤ 100) (hz : s.size ≤ 40000) : (∀ p ∈ pls, Fit p) ∧ (stopsP pls).length ≤ 1000 := by
  obtain ⟨ps, rfl, _, hp, hd⟩ := read_parts h hs
  have hlen : ps.length = (lines s).length := by have := congrArg List.length hp; simpa using this.symm
  refine ⟨?_, ?_⟩
  · intro p hpm
    rcases List.mem_cons.mp hpm with rfl | hpm
    · exact zPL_fit
    · have h1 : some p.toks ∈ (lines s).map toks := by rw [hp]; exact List.mem_map_of_mem hpm
      obtain ⟨x, hx, hxt⟩ := List.mem_map.mp h1
      obtain ⟨h2, h3⟩ := toks_facts (lines_facts hz x hx) hxt
      have := hd p hpm
      exact ⟨by omega, h3, by omega⟩
  · rw [stopsP, stopsFrom_len]
    have := List.length_filter_le (isStopP (zPL :: ps)) ((zPL :: ps).drop 1)
    simp at this ⊢
    omega
/-- A source and what is tidied of it have one program. -/
theorem links_same {s t : ByteArray} {pls : List PL} (h : readS s = (0, 0, pls)) (hs : tooLong s = false) (g : readS t = (0, 0, pls)) (ht : tooLong t = false) : linksS s = linksS t := by
  obtain ⟨ps, e1, _, h2, _⟩ := read_parts h hs
  obtain ⟨qs, e2, _, h3, _⟩ := read_parts g ht
  rw [e1] at e2
  injection e2 with _ e2
  subst e2
  unfold linksS
  rw [rForms_toks _ _ _ _ (h2.trans h3.symm)]
/-- A source that is made, and what is tidied of it. -/
theorem made_all (code : List Int) : ∃ pls, readS (srcB code) = (0, 0, pls) ∧ readS (tidyP pls) = (0, 0, pls) ∧ linksS (tidyP pls) = linksS (srcB code) ∧ (∀ p ∈ pls, Fit p) ∧ (srcB code).size ≤ 4100 ∧ (tidyP pls).size ≤ 40000 := by
  obtain ⟨pls, fb, mb, h1, _, hl, hsh, hsz, htl⟩ := src_read code
  obtain ⟨h2, _, h4⟩ := read_tidy h1 htl hl (fun x hx => by have := hsh x hx; omega)
  have ht : tooLong (tidyP pls) = false := by
    cases e : tooLong (tidyP pls) with
    | false => rfl
    | true =>
      unfold readS at h2
      rw [if_pos e] at h2
      injection h2 with h2 _
      exact absurd h2 (by decide)
  exact ⟨pls, h1, h2, links_same h2 ht h1 htl, (read_fit h1 htl hl (by omega)).1, hsz, h4⟩
end Rt

theorem tidy_ok {s : ByteArray} {pls : List Rt.PL} (w : World) (h : Rt.readS s = (0, 0, pls)) (hf : ∀ p ∈ pls, Rt.Fit p) (hs : s.size ≤ 100000) :
    Calls Tryz.prog 12 #[.string s] w fun e w' => e = .returned (.tuple #[.string (Rt.tidyP pls), .int .i64 0, .int .i64 0]) ∧ Below w.heap.size w w' := by
  refine (tidy_any s w (by unfold maxLen; omega) (fun _ => by rw [h]; exact hf)).mono ?_
  rintro e w' ⟨hb, er, ln, pls', hR, hc⟩
  rw [h] at hR
  injection hR with e1 hR
  injection hR with e2 e3
  subst e1 e2 e3
  rcases hc with ⟨h0, _⟩ | ⟨_, _, he⟩
  · exact absurd rfl h0
  · exact ⟨he, hb⟩
end Go.Proofs.YtbpajiljfppjcaaGreatDoor

namespace Go.Proofs.YtbpajiljfppjcaaGreatDoor
open Go.ChangeShapes Go.WideShapes Go.ChangeAt Go.RowKit

theorem Tryz.own : ownKnob Tryz.prog.godebug = none := by kernel_rfl
theorem Tryz.laidOut : laidOutB Tryz.prog = true := by kernel_rfl
theorem Tryz.cellsInt : Tryz.prog.cellsOf 3 = 1 := by kernel_rfl
theorem Tryz.bytesInt : Tryz.prog.bytesOf 3 = 8 := by kernel_rfl
/-- A list of whole numbers that is handed in. -/
theorem ints_arg {H : Type} {enc : TypeId × Value → H} {W : World} {a0 : Option Addr} {len cap : Nat} {d0 : DataW H} {p : List MemPlace} (h0 : DataW.Trod enc Tryz.prog W 0 (fun _ => true) true 22 (.slice a0 len cap) d0 p) : ∃ xs, IntsR W W.heap.size (.slice a0 len cap) xs ∧ (xs.length = 0 ∨ ∃ e s, d0 = .slice e s ∧ e.length = xs.length) := by
  obtain ⟨fuel, hf⟩ := h0
  rcases Go.Deep.open_slice1 Tryz.underlying22 Tryz.cellsInt hf with ⟨hcs, hx⟩ | ⟨a, len', cap', m, n, V, D, Pl, hcs, hA, hl, hm, hmm, hx, hcells⟩
  · simp [Value.cells] at hcs
    obtain ⟨rfl, rfl, rfl⟩ := hcs
    exact ⟨[], ⟨none, 0, rfl, by simp, by decide, by simp, Or.inl rfl⟩, Or.inl rfl⟩
  · simp [Value.cells] at hcs
    obtain ⟨rfl, rfl, rfl⟩ := hcs
    simp only [if_true] at hmm
    subst hmm
    obtain ⟨f, hfo⟩ := Go.Deep.choose_lt (α := Int) (n := m) (p := fun i k => W.cell? (a.add i) = some (.int .i64 k) ∧ -9223372036854775808 ≤ k ∧ k ≤ 9223372036854775807) (fun i hi => by
      obtain ⟨h1, h2⟩ := hcells i hi
      obtain ⟨k, hk, hk2, hk3⟩ := DataW.trod_int Tryz.underlying3 h2
      simp at hk
      rw [hk] at h1
      exact ⟨k, h1, bounds_i64 hk3⟩)
    injection hx with hx1 hx2
    refine ⟨(List.range len).map f, ⟨some a, m, by simp, by simpa using hl, hm, ?_, ?_⟩, Or.inr ⟨_, _, hx1, by simp⟩⟩
    · intro x hx
      simp at hx
      obtain ⟨i, hi, rfl⟩ := hx
      exact (hfo i (by omega)).2
    · by_cases hl0 : len = 0
      · subst hl0; exact Or.inl rfl
      · obtain ⟨b, off, spot⟩ := a
        have hspot : spot = none := by
          have := World.cell?_spot (hfo 0 (by omega)).1
          simpa [Addr.add] using this
        subst hspot
        have hblk : b < W.heap.size := by
          have hc0 := (hfo 0 (by omega)).1
          simp only [Addr.add] at hc0
          exact cellb_lt hc0
        refine Or.inr ⟨b, off, rfl, hblk, hblk, fun j hj => ?_⟩
        simp at hj
        simp only [List.getElem_map, List.getElem_range]
        have := (hfo j (by omega)).1
        rw [show (⟨b, off, none⟩ : Addr).add j = ⟨b, off + j, none⟩ by simp [Addr.add]] at this
        exact this
/-- How long a list may be. -/
theorem ints_len {H : Type} {ts : List TypeId} {ds : List (DataW H)} (hs : (DataW.weightsEach Tryz.prog ts ds).all (· ≤ reachBytes) = true) {j : Nat} {d : DataW H} {xs : List Int} (ht : ts[j]? = some 22) (hd : ds[j]? = some d) (h : xs.length = 0 ∨ ∃ e s, d = .slice e s ∧ e.length = xs.length) : xs.length ≤ 70368744177664 := by
  rcases h with h | ⟨e, s, rfl, h⟩
  · omega
  · have h1 := sized_slice hs ht hd Tryz.underlying22
    have h2 := reachBytes_lt
    rw [Tryz.bytesInt] at h1
    omega
section
variable {H : Type} {enc : TypeId × Value → H} {P : Program} {w : World} {base : Nat} {spare : Nat → Bool} {held : Bool}
theorem trodAll_five {t0 t1 t2 t3 t4 : TypeId} {args : Array Value} {ds : List (DataW H)} {ps : List MemPlace} (h : DataW.TrodAll enc P w base spare held [t0, t1, t2, t3, t4] args.toList ds ps) :
    ∃ v0 v1 v2 v3 v4 d0 d1 d2 d3 d4 p0 p1 p2 p3 p4, args = #[v0, v1, v2, v3, v4] ∧ ds = [d0, d1, d2, d3, d4] ∧ ps = p0 ++ p1 ++ p2 ++ p3 ++ p4 ∧ DataW.Trod enc P w base spare held t0 v0 d0 p0 ∧ DataW.Trod enc P w base spare held t1 v1 d1 p1 ∧ DataW.Trod enc P w base spare held t2 v2 d2 p2 ∧ DataW.Trod enc P w base spare held t3 v3 d3 p3 ∧ DataW.Trod enc P w base spare held t4 v4 d4 p4 := by
  obtain ⟨v0, vs0, d0, ds0, p0, q0, hargs, rfl, rfl, h0, r0⟩ := trodAll_cons h
  obtain ⟨v1, vs1, d1, ds1, p1, q1, rfl, rfl, rfl, h1, r1⟩ := trodAll_cons r0
  obtain ⟨v2, vs2, d2, ds2, p2, q2, rfl, rfl, rfl, h2, r2⟩ := trodAll_cons r1
  obtain ⟨v3, vs3, d3, ds3, p3, q3, rfl, rfl, rfl, h3, r3⟩ := trodAll_cons r2
  obtain ⟨v4, vs4, d4, ds4, p4, q4, rfl, rfl, rfl, h4, r4⟩ := trodAll_cons r3
  obtain ⟨rfl, rfl, rfl⟩ := trodAll_nil r4
  exact ⟨v0, v1, v2, v3, v4, d0, d1, d2, d3, d4, p0, p1, p2, p3, p4, by cases args; simp_all, rfl, by simp, h0, h1, h2, h3, h4⟩
theorem trodAll_seven {t0 t1 t2 t3 t4 t5 t6 : TypeId} {args : Array Value} {ds : List (DataW H)} {ps : List MemPlace} (h : DataW.TrodAll enc P w base spare held [t0, t1, t2, t3, t4, t5, t6] args.toList ds ps) :
    ∃ v0 v1 v2 v3 v4 v5 v6 d0 d1 d2 d3 d4 d5 d6 p0 p1 p2 p3 p4 p5 p6, args = #[v0, v1, v2, v3, v4, v5, v6] ∧ ds = [d0, d1, d2, d3, d4, d5, d6] ∧ ps = p0 ++ p1 ++ p2 ++ p3 ++ p4 ++ p5 ++ p6 ∧ DataW.Trod enc P w base spare held t0 v0 d0 p0 ∧ DataW.Trod enc P w base spare held t1 v1 d1 p1 ∧ DataW.Trod enc P w base spare held t2 v2 d2 p2 ∧ DataW.Trod enc P w base spare held t3 v3 d3 p3 ∧ DataW.Trod enc P w base spare held t4 v4 d4 p4 ∧ DataW.Trod enc P w base spare held t5 v5 d5 p5 ∧ DataW.Trod enc P w base spare held t6 v6 d6 p6 := by
  obtain ⟨v0, vs0, d0, ds0, p0, q0, hargs, rfl, rfl, h0, r0⟩ := trodAll_cons h
  obtain ⟨v1, vs1, d1, ds1, p1, q1, rfl, rfl, rfl, h1, r1⟩ := trodAll_cons r0
  obtain ⟨v2, vs2, d2, ds2, p2, q2, rfl, rfl, rfl, h2, r2⟩ := trodAll_cons r1
  obtain ⟨v3, vs3, d3, ds3, p3, q3, rfl, rfl, rfl, h3, r3⟩ := trodAll_cons r2
  obtain ⟨v4, vs4, d4, ds4, p4, q4, rfl, rfl, rfl, h4, r4⟩ := trodAll_cons r3
  obtain ⟨v5, vs5, d5, ds5, p5, q5, rfl, rfl, rfl, h5, r5⟩ := trodAll_cons r4
  obtain ⟨v6, vs6, d6, ds6, p6, q6, rfl, rfl, rfl, h6, r6⟩ := trodAll_cons r5
  obtain ⟨rfl, rfl, rfl⟩ := trodAll_nil r6
  exact ⟨v0, v1, v2, v3, v4, v5, v6, d0, d1, d2, d3, d4, d5, d6, p0, p1, p2, p3, p4, p5, p6, by cases args; simp_all, rfl, by simp, h0, h1, h2, h3, h4, h5, h6⟩
theorem trodAll_mk5 {t0 t1 t2 t3 t4 : TypeId} {v0 v1 v2 v3 v4 : Value} {d0 d1 d2 d3 d4 : DataW H} {p0 p1 p2 p3 p4 : List MemPlace} (h0 : DataW.Trod enc P w base spare held t0 v0 d0 p0) (h1 : DataW.Trod enc P w base spare held t1 v1 d1 p1) (h2 : DataW.Trod enc P w base spare held t2 v2 d2 p2) (h3 : DataW.Trod enc P w base spare held t3 v3 d3 p3) (h4 : DataW.Trod enc P w base spare held t4 v4 d4 p4) : DataW.TrodAll enc P w base spare held [t0, t1, t2, t3, t4] [v0, v1, v2, v3, v4] [d0, d1, d2, d3, d4] (p0 ++ (p1 ++ (p2 ++ (p3 ++ p4)))) := ⟨p0, _, h0, trodAll_mk4 h1 h2 h3 h4, rfl⟩
theorem trodAll_mk7 {t0 t1 t2 t3 t4 t5 t6 : TypeId} {v0 v1 v2 v3 v4 v5 v6 : Value} {d0 d1 d2 d3 d4 d5 d6 : DataW H} {p0 p1 p2 p3 p4 p5 p6 : List MemPlace} (h0 : DataW.Trod enc P w base spare held t0 v0 d0 p0) (h1 : DataW.Trod enc P w base spare held t1 v1 d1 p1) (h2 : DataW.Trod enc P w base spare held t2 v2 d2 p2) (h3 : DataW.Trod enc P w base spare held t3 v3 d3 p3) (h4 : DataW.Trod enc P w base spare held t4 v4 d4 p4) (h5 : DataW.Trod enc P w base spare held t5 v5 d5 p5) (h6 : DataW.Trod enc P w base spare held t6 v6 d6 p6) : DataW.TrodAll enc P w base spare held [t0, t1, t2, t3, t4, t5, t6] [v0, v1, v2, v3, v4, v5, v6] [d0, d1, d2, d3, d4, d5, d6] (p0 ++ (p1 ++ (p2 ++ (p3 ++ (p4 ++ (p5 ++ p6)))))) := ⟨p0, _, h0, ⟨p1, _, h1, trodAll_mk5 h2 h3 h4 h5 h6, rfl⟩, rfl⟩
end
end Go.Proofs.YtbpajiljfppjcaaGreatDoor

namespace Go.Proofs.YtbpajiljfppjcaaGreatDoor
open Go.RowKit

namespace Rt
/-- Why a move forward ends at a place. -/
def endsN (S : Src) (mk : List Bool) (kind fuel d0 : Int) (n k : Nat) : Int := fwdEnds (seAt S n 0 mk) kind fuel d0 k
/-- A move forward over the places. -/
def fwdN (S : Src) (mk : List Bool) (kind fuel d0 : Int) : Nat → Nat → Nat → Nat × Nat × Int
  | 0, n, k => (n, k, 4)
  | f + 1, n, k => if endsN S mk kind fuel d0 n k = 0 then fwdN S mk kind fuel d0 f (n + 1) (k + 1) else (n, k, endsN S mk kind fuel d0 n k)
/-- Low behind j steps. -/
def lowJ (S : Src) (cap : Int) : Nat → Nat → Nat → Nat
  | 0, _, low => low
  | j + 1, n, low => lowJ S cap j (n + 1) (lowF S cap n low)
theorem lowF_ge (S : Src) (cap : Int) (n low : Nat) : low ≤ lowF S cap n low := lowR_ge S cap _ _
theorem lowJ_ge (S : Src) (cap : Int) : ∀ j n low, low ≤ lowJ S cap j n low
  | 0, _, _ => Nat.le_refl _
  | j + 1, n, low => Nat.le_trans (lowF_ge S cap n low) (lowJ_ge S cap j (n + 1) _)
theorem lowJ_more (S : Src) (cap : Int) : ∀ i j n low, lowJ S cap (i + j) n low = lowJ S cap j (n + i) (lowJ S cap i n low)
  | 0, j, n, low => by rw [Nat.zero_add]; rfl
  | i + 1, j, n, low => by
    rw [show i + 1 + j = (i + j) + 1 by omega, lowJ, lowJ_more S cap i j (n + 1) _, lowJ, show n + 1 + i = n + (i + 1) by omega]
theorem fwdN_form (S : Src) (mk : List Bool) (kind : Int) (fuel : Nat) (d0 : Int) : ∀ (f n k : Nat), k + f = fuel + 1 → 0 < f → ∃ j, fwdN S mk kind fuel d0 f n k = (n + j, k + j, endsN S mk kind fuel d0 (n + j) (k + j)) ∧ k + j ≤ fuel ∧ ¬ endsN S mk kind fuel d0 (n + j) (k + j) = 0 ∧ ∀ i, i < j → endsN S mk kind fuel d0 (n + i) (k + i) = 0
  | 0, _, _, _, h => by omega
  | f + 1, n, k, he, _ => by
    rw [fwdN]
    by_cases hz : endsN S mk kind fuel d0 n k = 0
    · rw [if_pos hz]
      have hlt : (k : Int) < fuel := (fwdEnds_zero hz).2
      obtain ⟨j, h1, h2, h3, h4⟩ := fwdN_form S mk kind fuel d0 f (n + 1) (k + 1) (by omega) (by omega)
      have ej : n + 1 + j = n + (j + 1) := by omega
      have ek : k + 1 + j = k + (j + 1) := by omega
      rw [ej, ek] at h1 h3
      refine ⟨j + 1, h1, by omega, h3, fun i hi => ?_⟩
      cases i with
      | zero => exact hz
      | succ i =>
        have := h4 i (by omega)
        rwa [show n + 1 + i = n + (i + 1) by omega, show k + 1 + i = k + (i + 1) by omega] at this
    · rw [if_neg hz]
      exact ⟨0, rfl, by omega, hz, fun i hi => by omega⟩
/-- A move of a session is a move over the places. -/
theorem fwdRun_at {S : Src} {cap : Int} (hc : 0 ≤ cap) (mk : List Bool) (kind fuel d0 : Int) : ∀ (f n k low : Nat), SeOk S cap n low → n + f ≤ 4611686018427387000 →
    fwdRun S cap kind fuel d0 f (seAt S n low mk) k = (seAt S (fwdN S mk kind fuel d0 f n k).1 (lowJ S cap ((fwdN S mk kind fuel d0 f n k).1 - n) n low) mk, (fwdN S mk kind fuel d0 f n k).2) ∧ SeOk S cap (fwdN S mk kind fuel d0 f n k).1 (lowJ S cap ((fwdN S mk kind fuel d0 f n k).1 - n) n low) ∧ n ≤ (fwdN S mk kind fuel d0 f n k).1
  | 0, n, k, low, h, _ => by
    rw [fwdN, fwdRun]
    simp only [Nat.sub_self, lowJ]
    exact ⟨trivial, h, Nat.le_refl _⟩
  | f + 1, n, k, low, h, hn => by
    rw [fwdN, fwdRun]
    have he : fwdEnds (seAt S n low mk) kind fuel d0 k = endsN S mk kind fuel d0 n k := rfl
    rw [he]
    by_cases hz : endsN S mk kind fuel d0 n k = 0
    · rw [if_pos hz, if_pos hz]
      have hfin : (atM S n).fin = 0 := (fwdEnds_zero hz).1
      rw [seStep_at h hc hfin (by omega) mk]
      obtain ⟨h1, h2, h3⟩ := fwdRun_at hc mk kind fuel d0 f (n + 1) (k + 1) (lowF S cap n low) (h.step hc hfin) (by omega)
      generalize fwdN S mk kind fuel d0 f (n + 1) (k + 1) = r at *
      have el : lowJ S cap (r.1 - n) n low = lowJ S cap (r.1 - (n + 1)) (n + 1) (lowF S cap n low) := by
        rw [show r.1 - n = (r.1 - (n + 1)) + 1 by omega, lowJ]
      rw [el]
      exact ⟨h1, h2, by omega⟩
    · rw [if_neg hz, if_neg hz]
      simp only [Nat.sub_self, lowJ]
      exact ⟨trivial, h, Nat.le_refl _⟩
/-- Why a move backward ends at a place. -/
def bendsN (S : Src) (mk : List Bool) (low : Nat) (kind fuel d0 : Int) (n k : Nat) : Int := backEnds (seAt S n low mk) kind fuel d0 k
/-- A move backward over the places. -/
def backN (S : Src) (mk : List Bool) (low : Nat) (kind fuel d0 : Int) : Nat → Nat → Nat → Nat × Nat × Int
  | 0, n, k => (n, k, 4)
  | f + 1, n, k => if bendsN S mk low kind fuel d0 n k = 0 then backN S mk low kind fuel d0 f (n - 1) (k + 1) else (n, k, bendsN S mk low kind fuel d0 n k)
theorem bends_zero {S : Src} {mk : List Bool} {low : Nat} {kind fuel d0 : Int} {n k : Nat} (h : bendsN S mk low kind fuel d0 n k = 0) : n ≠ 0 ∧ n ≠ low ∧ (k : Int) < fuel := by
  obtain ⟨h1, h2, h3⟩ := backEnds_zero h
  clear h
  have h1 : (n : Int) ≠ 0 := h1
  have h2 : (n : Int) ≠ (low : Int) := h2
  exact ⟨by omega, by omega, h3⟩
theorem backN_form (S : Src) (mk : List Bool) (low : Nat) (kind : Int) (fuel : Nat) (d0 : Int) : ∀ (f n k : Nat), low ≤ n → k + f = fuel + 1 → 0 < f → ∃ j, backN S mk low kind fuel d0 f n k = (n - j, k + j, bendsN S mk low kind fuel d0 (n - j) (k + j)) ∧ low + j ≤ n ∧ k + j ≤ fuel ∧ ¬ bendsN S mk low kind fuel d0 (n - j) (k + j) = 0 ∧ ∀ i, i < j → bendsN S mk low kind fuel d0 (n - i) (k + i) = 0
  | 0, _, _, _, _, h => by omega
  | f + 1, n, k, hl, he, _ => by
    rw [backN]
    by_cases hz : bendsN S mk low kind fuel d0 n k = 0
    · rw [if_pos hz]
      obtain ⟨h0, h0', hlt⟩ := bends_zero hz
      obtain ⟨j, h1, h1', h2, h3, h4⟩ := backN_form S mk low kind fuel d0 f (n - 1) (k + 1) (by omega) (by omega) (by omega)
      have ej : n - 1 - j = n - (j + 1) := by omega
      have ek : k + 1 + j = k + (j + 1) := by omega
      rw [ej, ek] at h1 h3
      refine ⟨j + 1, h1, by omega, by omega, h3, fun i hi => ?_⟩
      cases i with
      | zero => exact hz
      | succ i =>
        have := h4 i (by omega)
        rwa [show n - 1 - i = n - (i + 1) by omega, show k + 1 + i = k + (i + 1) by omega] at this
    · rw [if_neg hz]
      exact ⟨0, rfl, by omega, by omega, hz, fun i hi => by omega⟩
theorem backRun_at {S : Src} {cap : Int} (hi : S.input.length ≤ 100) (mk : List Bool) (low : Nat) (kind fuel d0 : Int) : ∀ (f n k : Nat), SeOk S cap n low → n ≤ 4611686018427387000 →
    backRun kind fuel d0 f (seAt S n low mk) k = (seAt S (backN S mk low kind fuel d0 f n k).1 low mk, (backN S mk low kind fuel d0 f n k).2) ∧ SeOk S cap (backN S mk low kind fuel d0 f n k).1 low ∧ (backN S mk low kind fuel d0 f n k).1 ≤ n
  | 0, n, k, h, _ => by
    rw [backN, backRun]
    exact ⟨rfl, h, Nat.le_refl _⟩
  | f + 1, n, k, h, hn => by
    rw [backN, backRun]
    have he : backEnds (seAt S n low mk) kind fuel d0 k = bendsN S mk low kind fuel d0 n k := rfl
    rw [he]
    by_cases hz : bendsN S mk low kind fuel d0 n k = 0
    · rw [if_pos hz, if_pos hz]
      obtain ⟨h0, h0', hlt⟩ := bends_zero hz
      obtain ⟨q, rfl⟩ : ∃ q, n = q + 1 := ⟨n - 1, by omega⟩
      have hle := h.le
      rw [seBack_at h (by omega) hi (by omega) mk, Nat.add_sub_cancel]
      obtain ⟨h1, h2, h3⟩ := backRun_at hi mk low kind fuel d0 f q (k + 1) (h.back (by omega)) (by omega)
      exact ⟨h1, h2, by omega⟩
    · rw [if_neg hz, if_neg hz]
      exact ⟨rfl, h, Nat.le_refl _⟩
/-- A raw number as a move: its kind, its fuel, whether it goes forward. -/
def mvV (raw : Int) : Nat := (pickP raw 1099511627776).toNat
def mvK (raw : Int) : Nat := mvV raw / 3 % 4
def mvF (raw : Int) : Nat := mvV raw / 12 % 60
/-- A move of a session. -/
def moveR (S : Src) (cap raw : Int) (s : Se) : Se × Nat × Int := if mvV raw % 3 < 2 then fwdRun S cap (mvK raw) (mvF raw) s.m.frames.length (mvF raw + 1) s 0 else backRun (mvK raw) (mvF raw) s.m.frames.length (mvF raw + 1) s 0
/-- A move over the places. -/
def moveN (S : Src) (mk : List Bool) (low : Nat) (raw : Int) (n : Nat) : Nat × Nat × Int := if mvV raw % 3 < 2 then fwdN S mk (mvK raw) (mvF raw) (atM S n).frames.length (mvF raw + 1) n 0 else backN S mk low (mvK raw) (mvF raw) (atM S n).frames.length (mvF raw + 1) n 0
def moveLow (S : Src) (cap : Int) (mk : List Bool) (low : Nat) (raw : Int) (n : Nat) : Nat := if mvV raw % 3 < 2 then lowJ S cap ((moveN S mk low raw n).1 - n) n low else low
theorem moveLow_ge (S : Src) (cap : Int) (mk : List Bool) (low : Nat) (raw : Int) (n : Nat) : low ≤ moveLow S cap mk low raw n := by
  unfold moveLow
  split
  · exact lowJ_ge S cap _ _ _
  · exact Nat.le_refl _
theorem mvF_lt (raw : Int) : mvF raw < 60 := Nat.mod_lt _ (by omega)
theorem mvK_lt (raw : Int) : mvK raw < 4 := Nat.mod_lt _ (by omega)
theorem moveR_at {S : Src} {cap : Int} (hc : 0 ≤ cap) (hi : S.input.length ≤ 100) (mk : List Bool) (raw : Int) (n low : Nat) (h : SeOk S cap n low) (hn : n + 60 ≤ 4611686018427387000) :
    moveR S cap raw (seAt S n low mk) = (seAt S (moveN S mk low raw n).1 (moveLow S cap mk low raw n) mk, (moveN S mk low raw n).2) ∧ SeOk S cap (moveN S mk low raw n).1 (moveLow S cap mk low raw n) ∧ (moveN S mk low raw n).1 ≤ n + 60 ∧ (moveN S mk low raw n).2.1 ≤ mvF raw := by
  have hF := mvF_lt raw
  by_cases hv : mvV raw % 3 < 2
  · have e : moveN S mk low raw n = fwdN S mk (mvK raw) (mvF raw) (atM S n).frames.length (mvF raw + 1) n 0 := by unfold moveN; rw [if_pos hv]
    have e2 : moveLow S cap mk low raw n = lowJ S cap ((moveN S mk low raw n).1 - n) n low := by unfold moveLow; rw [if_pos hv]
    have e3 : moveR S cap raw (seAt S n low mk) = fwdRun S cap (mvK raw) (mvF raw) (atM S n).frames.length (mvF raw + 1) (seAt S n low mk) 0 := by unfold moveR; rw [if_pos hv]; rfl
    rw [e2, e3, e]
    obtain ⟨h1, h2, h3⟩ := fwdRun_at hc mk (mvK raw) (mvF raw) (atM S n).frames.length (mvF raw + 1) n 0 low h (by omega)
    obtain ⟨j, g1, g2, _, _⟩ := fwdN_form S mk (mvK raw) (mvF raw) (atM S n).frames.length (mvF raw + 1) n 0 (by omega) (by omega)
    refine ⟨h1, h2, ?_, ?_⟩
    · rw [g1]; show n + j ≤ n + 60; omega
    · rw [g1]; show 0 + j ≤ mvF raw; omega
  · have e : moveN S mk low raw n = backN S mk low (mvK raw) (mvF raw) (atM S n).frames.length (mvF raw + 1) n 0 := by unfold moveN; rw [if_neg hv]
    have e2 : moveLow S cap mk low raw n = low := by unfold moveLow; rw [if_neg hv]
    have e3 : moveR S cap raw (seAt S n low mk) = backRun (mvK raw) (mvF raw) (atM S n).frames.length (mvF raw + 1) (seAt S n low mk) 0 := by unfold moveR; rw [if_neg hv]; rfl
    rw [e2, e3, e]
    obtain ⟨h1, h2, h3⟩ := backRun_at hi mk low (mvK raw) (mvF raw) (atM S n).frames.length (mvF raw + 1) n 0 h (by omega)
    obtain ⟨j, g1, _, g2, _, _⟩ := backN_form S mk low (mvK raw) (mvF raw) (atM S n).frames.length (mvF raw + 1) n 0 h.le (by omega) (by omega)
    refine ⟨h1, h2, by omega, ?_⟩
    rw [g1]; show 0 + j ≤ mvF raw; omega
/-- One to five records a step. -/
theorem recsOf_len {S : Src} (h4 : Call4 S) (lo : Nat) : ∀ k, (∀ i, i < lo + k → (atM S i).fin = 0) → k ≤ (recsOf S lo k).length ∧ (recsOf S lo k).length ≤ 5 * k
  | 0, _ => by simp [recsOf]
  | k + 1, h => by
    obtain ⟨h1, h2⟩ := recsOf_len h4 lo k (fun i hi => h i (by omega))
    obtain ⟨_, g1, g2⟩ := step_par4 h4 (at_par4 h4 (lo + k))
    have g3 := g2 (h (lo + k) (by omega))
    rw [recsOf, List.length_append]
    have e : (recsAt S (lo + k)).length = (stepM S (atM S (lo + k))).2.length := rfl
    omega
end Rt
end Go.Proofs.YtbpajiljfppjcaaGreatDoor

namespace Go.Proofs.YtbpajiljfppjcaaGreatDoor
open Go.RowKit
attribute [local go_sem ↓] Go.wp_at_zero Go.wp_at_succ

namespace Rt
def seFirst (S : Src) : Se := ⟨firstM S, [], 0, 0, List.replicate 101 false⟩
end Rt
/-- What a new session says. -/
def SNewP (S : Rt.Src) (cap : Int) (w : World) (e : Ending) (w' : World) : Prop :=
  Below w.heap.size w w' ∧ ∃ P B X, e = .returned (.tuple #[.pointer (some ⟨P, 0, none⟩), .int .i64 0, .int .i64 0]) ∧ w.heap.size ≤ P ∧ (∀ k ∈ blkX X, w.heap.size ≤ k) ∧ SesS w' P B S cap (Rt.seFirst S) X (.slice none 0 0)
theorem jnew_any (cap : Int) (w : World) : Calls Tryz.prog 71 #[.int .i64 cap] w fun e w' => e = .returned (.agg #[.int .i64 cap, .slice none 0 0, .int .i64 0]) ∧ Below w.heap.size w w' := by
  go_enter Tryz.func71, Tryz.ntmps71
  go_wp2_with fail
  have E := three_cells (heap_alloc_new w (.cells #[.int .i64 cap, .slice none 0 0, .int .i64 0] 90))
  refine bodyPost_ret (v := .agg #[.int .i64 cap, .slice none 0 0, .int .i64 0]) ?_ rfl ⟨rfl, (Below.refl _ _).alloc (Nat.le_refl _) _⟩
  revert E
  generalize w.alloc (.cells #[.int .i64 cap, .slice none 0 0, .int .i64 0] 90) = wz
  intro E
  simp [results, Tryz.results71, go_sem, E.1, E.2.1, E.2.2]
theorem ses_cells (v0 v1 v2 v3 v4 v5 v6 v7 v8 v9 v10 : Value) : (((((((((((Tryz.zeroCells93.setIfInBounds 0 v0).setIfInBounds 1 v1).setIfInBounds 2 v2).setIfInBounds 3 v3).setIfInBounds 4 v4).setIfInBounds 5 v5).setIfInBounds 6 v6).setIfInBounds 7 v7).setIfInBounds 8 v8).setIfInBounds 9 v9).setIfInBounds 10 v10) = (#[v0, v1, v2, v3, v4, v5, v6, v7] ++ ([v8, v9, v10, .int .i64 0] ++ (List.replicate 101 false).map Value.bool).toArray : Array Value) := by kernel_rfl
set_option maxHeartbeats 1000000 in
set_option maxRecDepth 100000 in
theorem snew_any (s : ByteArray) (iv : Value) (inp : List Int) (cap : Int) (w : World) (pls : List Rt.PL) (hs : s.size ≤ maxLen) (hi : Ints w iv inp) (hR : Rt.readS s = (0, 0, pls)) (hl : inp.length ≤ 100) (hc : 5 ≤ cap ∧ cap ≤ 500) :
    Calls Tryz.prog 40 #[.string s, iv, .int .i64 cap] w (SNewP (srcOf s pls inp) cap w) := by
  have hfit := fit_of hR
  have HI := hide hi
  have hc1 : ¬ cap < 5 := by omega
  have hc2 : ¬ 500 < cap := by omega
  obtain ⟨iad, icap, rfl, _⟩ := hi
  go_enter Tryz.func40, Tryz.ntmps40
  go_wp2_with fail
  refine (new_any s _ inp _ hs (unhide HI) (fun p hp => by rw [hR] at hp; injection hp with _ hp; injection hp with _ hp; rw [← hp]; exact hfit)).mono ?_
  rintro e w1 ⟨hb1, hcase⟩
  rcases hcase with ⟨hlt, _⟩ | ⟨_, er, ln, pls', hR', hcc⟩
  · exact absurd hlt (by omega)
  rw [hR] at hR'
  injection hR' with e1 hR'
  injection hR' with e2 e3
  subst e1 e2 e3
  rcases hcc with ⟨h0, _⟩ | ⟨_, _, hlen, M0, X, rfl, hM0, hblk, hmc⟩
  · exact absurd rfl h0
  obtain ⟨la, lc, ia, ic, fa, fc, va, vc, oa, oc, q1, q2, q3, q4, q5⟩ := hmc.shape
  generalize hm0 : Rt.firstM (srcOf s pls inp) = m0 at *
  have hcells : mcCells X m0 [] = #[.slice la pls.length lc, .slice ia inp.length ic, .slice fa m0.frames.length fc, .slice va m0.values.length vc, .int .i64 m0.taken, .slice oa m0.output.length oc, .int .i64 m0.line, .int .i64 m0.fin] := by
    simp only [mcCells, q1, q2, q3, q4, q5, srcOf, List.length_map]
    rfl
  rw [hcells]
  have HX := hide (And.intro hb1 (And.intro hblk (And.intro hmc (And.intro hcells hm0))))
  clear hb1 hblk hmc hcells hm0 q1 q2 q3 q4 q5 hR hfit
  go_wp2_with fail
  have hbA := (Below.refl w1.heap.size w1).alloc (Nat.le_refl _) (.cells #[.slice la pls.length lc, .slice ia inp.length ic, .slice fa m0.frames.length fc, .slice va m0.values.length vc, .int .i64 m0.taken, .slice oa m0.output.length oc, .int .i64 m0.line, .int .i64 m0.fin] 80)
  refine (jnew_any cap _).mono ?_
  rintro e w2 ⟨rfl, hb2⟩
  have bm := block_later (heap_alloc_new w1 (.cells #[.slice la pls.length lc, .slice ia inp.length ic, .slice fa m0.frames.length fc, .slice va m0.values.length vc, .int .i64 m0.taken, .slice oa m0.output.length oc, .int .i64 m0.line, .int .i64 m0.fin] 80)) hb2
  obtain ⟨y0, y1, y2, y3, y4, y5, y6, y7⟩ := eight_cells bm
  have hlt2 := block_lt bm
  have hn1 : ¬ w1.heap.size = w2.heap.size := by omega
  have HB2 := hide (hbA.trans (hb2.mono (B' := w1.heap.size) (by simp)))
  clear hbA hb2 bm
  go_wp2_with fail
  have hcl : (((((((((((Tryz.zeroCells93.setIfInBounds 0 (.slice la pls.length lc)).setIfInBounds 1 (.slice ia inp.length ic)).setIfInBounds 2 (.slice fa m0.frames.length fc)).setIfInBounds 3 (.slice va m0.values.length vc)).setIfInBounds 4 (.int .i64 m0.taken)).setIfInBounds 5 (.slice oa m0.output.length oc)).setIfInBounds 6 (.int .i64 m0.line)).setIfInBounds 7 (.int .i64 m0.fin)).setIfInBounds 8 (.int .i64 cap)).setIfInBounds 9 (.slice none 0 0)).setIfInBounds 10 (.int .i64 0)) = mcCells X m0 (tailS cap (.slice none 0 0) 0 0 (List.replicate 101 false)) := by
    rw [ses_cells]
    have := (unhide HX).2.2.2.1
    have e : (mcCells X m0 (tailS cap (.slice none 0 0) 0 0 (List.replicate 101 false))) = mcCells X m0 [] ++ (tailS cap (.slice none 0 0) 0 0 (List.replicate 101 false)).toArray := by
      unfold mcCells
      rw [List.append_nil, List.append_toArray]
    rw [e, this]
    simp [tailS]
  rw [hcl]
  obtain ⟨hb1, hblk, hmc, _, hm0⟩ := unhide HX
  have hb3 := ((Below.refl w2.heap.size w2).alloc (Nat.le_refl _) (.cells #[.int .i64 cap, .slice none 0 0, .int .i64 0] 90)).alloc (by simp) (.cells (mcCells X m0 (tailS cap (.slice none 0 0) 0 0 (List.replicate 101 false))) 93)
  have bS := alloc2_plain w2 (.cells #[.int .i64 cap, .slice none 0 0, .int .i64 0] 90) (.cells (mcCells X m0 (tailS cap (.slice none 0 0) 0 0 (List.replicate 101 false))) 93)
  have hbF := (unhide HB2).trans (hb3.mono (B' := w1.heap.size) (unhide HB2).size)
  have hm3 := hmc.moved hbF bS (by unfold TyOk; decide)
  refine bodyPost_ret (v := .tuple #[.pointer (some ⟨w2.heap.size + 1, 0, none⟩), .int .i64 0, .int .i64 0]) ?_ rfl ⟨hb1.trans (hbF.mono (B' := w.heap.size) hb1.size), _, _, X, rfl, by have := (unhide HB2).size; have := hb1.size; omega, hblk, ⟨by rw [Rt.seFirst, hm0]; exact hm3, World.ownsRow_nil _ _ _ _⟩⟩
  simp [results, Tryz.results40, go_sem]
end Go.Proofs.YtbpajiljfppjcaaGreatDoor

