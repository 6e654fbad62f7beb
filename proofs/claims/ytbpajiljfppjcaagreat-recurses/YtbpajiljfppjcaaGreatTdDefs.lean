/- The sources that are made out of numbers, as plain functions. No program, no walk. -/
import Derived.Test.YtbpajiljfppjcaaGreatSsE
import Derived.Test.YtbpajiljfppjcaaGreatRtLink
namespace Go.Proofs.YtbpajiljfppjcaaGreat
open Go.RowKit
attribute [local go_sem ↓] Go.wp_at_zero Go.wp_at_succ

namespace Rt
/-- A move backward, from where so many steps have been taken back: the session, the steps, the reason. -/
def backRun (kind fuel d0 : Int) : Nat → Se → Nat → Se × Nat × Int
  | 0, s, k => (s, k, 4)
  | f + 1, s, k => if backEnds s kind fuel d0 k = 0 then backRun kind fuel d0 f (seBack s) (k + 1) else (s, k, backEnds s kind fuel d0 k)
end Rt
/-- What a source is whose run can be walked. -/
structure Plc (S : Rt.Src) : Prop where
  good : Good S
  call : Call4 S
  first : KeepG S (Rt.firstM S)
theorem Plc.keep {S : Rt.Src} (h : Plc S) (n : Nat) : KeepG S (Rt.atM S n) := at_keep h.good h.first n
theorem Plc.par {S : Rt.Src} (h : Plc S) (n : Nat) : Par4 (Rt.atM S n) := at_par4 h.call n
theorem Plc.mid {S : Rt.Src} (h : Plc S) (n : Nat) : Mid S (Rt.atM S n) 10 := mid_of (h.keep n) (h.par n)
theorem Plc.input {S : Rt.Src} (h : Plc S) : S.input.length ≤ 100 := h.first.mok.input
theorem Plc.keepS {S : Rt.Src} (h : Plc S) {cap : Int} {n low : Nat} (hk : Rt.SeOk S cap n low) (mk : List Bool) (hm : mk.length = 101) : KeepS S cap (Rt.seAt S n low mk) := ⟨h.keep n, h.par n, hk.room, hm⟩
/-- A session that stands at a place of the run, no farther than n. -/
def AtP (S : Rt.Src) (cap : Int) (n low : Nat) (mk : List Bool) (s : Rt.Se) : Prop := ∃ n', s = Rt.seAt S n' low mk ∧ Rt.SeOk S cap n' low ∧ n' ≤ n
theorem AtP.back {S : Rt.Src} {cap : Int} {n low : Nat} {mk : List Bool} {s : Rt.Se} (h : AtP S cap n low mk s) (hS : Plc S) (hc : cap ≤ 500) (hn : n < 4611686018427387000) {kind fuel d0 mv : Int} (hz : Rt.backEnds s kind fuel d0 mv = 0) : AtP S cap n low mk (Rt.seBack s) ∧ Mid S s.m 10 ∧ 0 < s.recs.length ∧ s.recs.length ≤ 500 := by
  obtain ⟨n', rfl, hk, hl⟩ := h
  obtain ⟨hi0, hil, _⟩ := Rt.backEnds_zero hz
  clear hz
  have hi0 : (n' : Int) ≠ 0 := hi0
  have hil : (n' : Int) ≠ (low : Int) := hil
  have hle := hk.le
  obtain ⟨q, rfl⟩ : ∃ q, n' = q + 1 := ⟨n' - 1, by omega⟩
  have hlq : low ≤ q := by omega
  have hr : ((Rt.recsOf S low (q + 1 - low)).length : Int) ≤ cap := hk.room
  refine ⟨⟨q, Rt.seBack_at hk hlq hS.input (by omega) mk, hk.back hlq, by omega⟩, hS.mid _, Rt.last_lt hk hlq, ?_⟩
  show (Rt.recsOf S low (q + 1 - low)).length ≤ 500
  omega
theorem AtP.marks {S : Rt.Src} {cap : Int} {n low : Nat} {mk : List Bool} {s : Rt.Se} (h : AtP S cap n low mk s) (hm : mk.length = 101) : s.marks.length = 101 := by
  obtain ⟨n', rfl, _, _⟩ := h
  exact hm
set_option maxHeartbeats 1000000 in
set_option maxRecDepth 100000 in
theorem backward_any (w : World) (P B : Nat) (S : Rt.Src) (cap : Int) (n low : Nat) (mk : List Bool) (s : Rt.Se) (X : McX) (jv : Value) (h : SesS w P B S cap s X jv) (hS : Plc S) (hc : cap ≤ 500) (hk : AtP S cap n low mk s) (hn : n < 4611686018427387000) (hmk : mk.length = 101) (kind : Int) (fuel : Nat) (hkd : 0 ≤ kind ∧ kind ≤ 3) (hfu : fuel ≤ 1000) :
    Calls Tryz.prog 18 #[.pointer (some ⟨P, 0, none⟩), .int .i64 kind, .int .i64 fuel] w (FwdP P B S cap X jv (Rt.backRun kind fuel s.m.frames.length (fuel + 1) s 0) w) := by
  have hPlt := block_lt h.mc.block
  have HH := hide (And.intro h (And.intro hk (And.intro (fun s' (h : AtP S cap n low mk s') => h.marks hmk) (fun s' (h : AtP S cap n low mk s') (mv : Int) (d0 : Int) (hz : Rt.backEnds s' kind fuel d0 mv = 0) => h.back hS hc hn hz))))
  clear h hS hk hmk hn
  go_enter Tryz.func18, Tryz.ntmps18
  go_wp2_with fail
  refine (refuse_any kind fuel _ hkd (by omega)).mono ?_
  rintro e w0 ⟨rfl, rfl⟩
  go_wp2_with fail
  have hbZ := (Below.refl w.heap.size w).alloc (Nat.le_refl _) (.cells #[.int .i64 0, .int .i64 0, .int .i64 0, .int .i64 0, .int .i64 0, .int .i64 0] 26)
  refine (depth_any _ P B _ _ S s.m X ((unhide HH).1.mc.later hbZ)).mono ?_
  rintro e w0 ⟨rfl, rfl⟩
  generalize hd : (s.m.frames.length : Int) = d at *
  have HD := hide hd
  clear hd
  go_wp2_with fail
  have hbA := hbZ.alloc (by simp) (.cells (mvA kind fuel d 0) 52)
  have bR := block_alloc (heap_alloc_new w (.cells #[.int .i64 0, .int .i64 0, .int .i64 0, .int .i64 0, .int .i64 0, .int .i64 0] 26)) (.cells (mvA kind fuel d 0) 52)
  have bM := alloc2_plain w (.cells #[.int .i64 0, .int .i64 0, .int .i64 0, .int .i64 0, .int .i64 0, .int .i64 0] 26) (.cells (mvA kind fuel d 0) 52)
  refine (backwardEnds_any _ P B S cap s X jv ((unhide HH).1.later hbA) ((unhide HH).2.2.1 _ (unhide HH).2.1) kind fuel d 0).mono ?_
  rintro e w1 ⟨rfl, hb1⟩
  have HA := hide (And.intro (SAft.start (unhide HH).1 (hbA.trans (hb1.mono (B' := w.heap.size) (by simp; omega)))) (And.intro (block_later bR hb1) (block_later bM hb1)))
  clear hbZ hbA bR bM hb1
  go_wp2_with fail
  go_loopw [10] (fun rv wr => ∃ (k : Nat) (s' : Rt.Se) (X' : McX) (jv' : Value), k ≤ fuel ∧ rv = .int .i64 (Rt.backEnds s' kind fuel d k) ∧ wr.heap[w.heap.size]? = some (.cells #[.int .i64 0, .int .i64 0, .int .i64 0, .int .i64 0, .int .i64 0, .int .i64 0] 26 (0, 0)) ∧ wr.heap[w.heap.size + 1]? = some (.cells (mvA kind fuel d k) 52 (0, 0)) ∧ SAft P B S cap X X' jv jv' s' w wr ∧ AtP S cap n low mk s' ∧ Rt.backRun kind fuel d (fuel + 1 - k) s' k = Rt.backRun kind fuel d (fuel + 1) s 0) (fun _ wr => fuel + 1 - mvAt wr (w.heap.size + 1))
  case atStart => exact ⟨0, s, X, jv, Nat.zero_le _, rfl, (unhide HA).2.1, (unhide HA).2.2, (unhide HA).1, (unhide HH).2.1, rfl⟩
  case round =>
    obtain ⟨k, s', X', jv', hk, rfl, bR, bM, hA, hks, hrun⟩ := hrel
    have m3 : wr.cell? ⟨w.heap.size + 1, 3, none⟩ = some (.int .i64 (k : Int)) := by have := cell_of_block bM 3 (by simp); simpa using this
    have f3 := free_of_block bM 3
    have HM := hide (show mvAt wr (w.heap.size + 1) = k by unfold mvAt; rw [m3]; simp)
    have HX := hide (And.intro bR (And.intro bM (And.intro hA (And.intro hks hrun))))
    have hRl := block_lt bR
    have hMl := block_lt bM
    clear bR bM hA hks hrun HA
    have hw3 : wrap64 ((k : Int) + 1) = (k : Int) + 1 := IntWalk.wrap64_in _ (by omega)
    have hw4 : IntKind.i64.wrap ((k : Int) + 1) = (k : Int) + 1 := by rw [IntWalk.i64_left, IntWalk.wrap64_in _ (by omega)]
    by_cases hz : Rt.backEnds s' kind fuel d k = 0
    · have hz' : (Rt.backEnds s' kind fuel d k == 0) = true := by simpa using hz
      have hlt := (Rt.backEnds_zero hz).2.2
      have hq := hide ((unhide HH).2.2.2 _ (unhide HX).2.2.2.1 _ _ hz)
      have HN := hide (show Rt.backRun kind fuel d (fuel + 1 - (k + 1)) (Rt.seBack s') (k + 1) = Rt.backRun kind fuel d (fuel + 1) s 0 by
        rw [← (unhide HX).2.2.2.2, show fuel + 1 - k = (fuel + 1 - (k + 1)) + 1 by omega, Rt.backRun, if_pos hz])
      clear hz
      go_wp2_with fail
      clear hz'
      obtain ⟨bR, bM, hA, hks, hrun⟩ := unhide HX
      refine (takeBack_any wr P B S cap s' X' jv' hA.ses (unhide hq).2.1 (unhide hq).2.2.1 (unhide hq).2.2.2).mono ?_
      rintro e w2 ⟨rfl, X2, jv2, hA2⟩
      have bR2 := SAft.keeps hA.ses hA2 bR (by omega) (by unfold OutTy PTy; decide)
      have bM2 := SAft.keeps hA.ses hA2 bM (by omega) (by unfold OutTy PTy; decide)
      have hA3 := (hA.trans hA2).other bM2 (by omega) (by unfold OutTy PTy; decide) 3 (.int .i64 ((k : Int) + 1))
      have bM3 : (w2.setCell ⟨w.heap.size + 1, 3, none⟩ (.int .i64 ((k : Int) + 1))).heap[w.heap.size + 1]? = some (.cells (mvA kind fuel d ((k : Int) + 1)) 52 (0, 0)) := by
        have := set_block bM2 3 (.int .i64 ((k : Int) + 1))
        simpa using this
      have bR3 : (w2.setCell ⟨w.heap.size + 1, 3, none⟩ (.int .i64 ((k : Int) + 1))).heap[w.heap.size]? = some (.cells #[.int .i64 0, .int .i64 0, .int .i64 0, .int .i64 0, .int .i64 0, .int .i64 0] 26 (0, 0)) := (Below.heap_setCell w2 ⟨w.heap.size + 1, 3, none⟩ _ _ (by show w.heap.size ≠ w.heap.size + 1; omega)).trans bR2
      have HY := hide (And.intro hA3 (And.intro bM3 bR3))
      have n0 : w2.cell? ⟨w.heap.size + 1, 0, none⟩ = some (.int .i64 kind) := by have := cell_of_block bM2 0 (by simp); simpa using this
      have n1 : w2.cell? ⟨w.heap.size + 1, 1, none⟩ = some (.int .i64 (fuel : Int)) := by have := cell_of_block bM2 1 (by simp); simpa using this
      have n2 : w2.cell? ⟨w.heap.size + 1, 2, none⟩ = some (.int .i64 d) := by have := cell_of_block bM2 2 (by simp); simpa using this
      have n3 : w2.cell? ⟨w.heap.size + 1, 3, none⟩ = some (.int .i64 (k : Int)) := by have := cell_of_block bM2 3 (by simp); simpa using this
      have g3 := free_of_block bM2 3
      clear bR bM hA hks hrun hA2 bR2 bM2 hA3 bM3 bR3 m3 f3
      go_wp2_with fail
      refine (backwardEnds_any _ P B S cap (Rt.seBack s') X2 jv2 (unhide HY).1.ses ((unhide HH).2.2.1 _ (unhide hq).1) kind fuel d ((k : Int) + 1)).mono ?_
      rintro e w4 ⟨rfl, hb4⟩
      have bM4 := block_later (unhide HY).2.1 hb4
      have m34 : w4.cell? ⟨w.heap.size + 1, 3, none⟩ = some (.int .i64 ((k : Int) + 1)) := by have := cell_of_block bM4 3 (by simp); simpa using this
      have HM4 := hide (show mvAt w4 (w.heap.size + 1) = k + 1 by unfold mvAt; rw [m34]; show ((k : Int) + 1).toNat = k + 1; omega)
      have HZ := hide (And.intro ((unhide HY).1.below hb4) (And.intro bM4 (block_later (unhide HY).2.2 hb4)))
      clear hb4 bM4 m34 n0 n1 n2 n3 g3
      go_wp2_with fail
      go_roundw
      case rel => exact ⟨k + 1, Rt.seBack s', X2, jv2, by omega, rfl, (unhide HZ).2.2, (unhide HZ).2.1, (unhide HZ).1, (unhide hq).1, unhide HN⟩
      case measure =>
        show fuel + 1 - mvAt w4 (w.heap.size + 1) < fuel + 1 - mvAt wr (w.heap.size + 1)
        rw [unhide HM, unhide HM4]
        omega
    · have hz' : (Rt.backEnds s' kind fuel d k == 0) = false := by simpa using hz
      have HE := hide (show Rt.backRun kind fuel d (fuel + 1) s 0 = (s', k, Rt.backEnds s' kind fuel d k) by
        rw [← (unhide HX).2.2.2.2, show fuel + 1 - k = (fuel - k) + 1 by omega, Rt.backRun, if_neg hz])
      clear hz
      obtain ⟨bR, bM, hA, hks, hrun⟩ := unhide HX
      have n0 : wr.cell? ⟨w.heap.size + 1, 0, none⟩ = some (.int .i64 kind) := by have := cell_of_block bM 0 (by simp); simpa using this
      have n1 : wr.cell? ⟨w.heap.size + 1, 1, none⟩ = some (.int .i64 (fuel : Int)) := by have := cell_of_block bM 1 (by simp); simpa using this
      have n2 : wr.cell? ⟨w.heap.size + 1, 2, none⟩ = some (.int .i64 d) := by have := cell_of_block bM 2 (by simp); simpa using this
      clear bR bM hA hks hrun
      generalize hrs : Rt.backEnds s' kind fuel d k = rs at *
      clear hrs
      go_wp2_with fail
      obtain ⟨bR, bM, hA, _, _⟩ := unhide HX
      refine (reply_any wr P B S cap s' X' jv' hA.ses kind fuel d k rs).mono ?_
      rintro e w3 ⟨rfl, hb3⟩
      have bR3 := block_later bR hb3
      have hA3 := hA.below hb3
      obtain ⟨y0, y1, y2, y3, y4, y5, z⟩ := six_any bR3
      have HF := hide (fun a b c x y q => SAft.six hA3 bR3 (Nat.le_refl _) (by unfold OutTy PTy; decide) a b c x y q)
      clear bR bM hA hb3 bR3 hA3 n0 n1 n2 m3
      go_wp2_with fail
      refine bodyPost_ret (v := .tuple #[.agg (replyA rs k s'), .int .i64 0]) ?_ rfl ⟨_, _, by rw [unhide HE], by rw [unhide HE]; exact unhide HF _ _ _ _ _ _⟩
      simp [results, Tryz.results18, go_sem, y0, y1, y2, y3, y4, y5]
end Go.Proofs.YtbpajiljfppjcaaGreat

namespace Go.Proofs.YtbpajiljfppjcaaGreat
open Go.RowKit

namespace Rt
/-- Blanks behind a text, two for each block. -/
def spP (out : ByteArray) : Nat → ByteArray
  | 0 => out
  | k + 1 => spP out k ++ ⟨#[32, 32]⟩
/-- The first i tokens of a line behind a text. -/
def tokP (out : ByteArray) (t : List Tk) : Nat → ByteArray
  | 0 => out
  | i + 1 => (if 0 < i then tokP out t i ++ ⟨#[32]⟩ else tokP out t i) ++ ((t[i]?).map Tk.text).getD ⟨#[]⟩
/-- A line, tidied. -/
def tidyLn (pl : PL) : ByteArray := if pl.toks.length = 0 then ⟨#[]⟩ else tokP (spP ⟨#[]⟩ pl.depth.toNat) pl.toks pl.toks.length
theorem spP_size (out : ByteArray) : ∀ k, (spP out k).size = out.size + 2 * k
  | 0 => rfl
  | k + 1 => by rw [spP, ByteArray.size_append, spP_size out k]; show _ + 2 = _; omega
theorem tokP_size {t : List Tk} (ht : ∀ x ∈ t, x.text.size ≤ 40000) (out : ByteArray) : ∀ i, i ≤ t.length → (tokP out t i).size ≤ out.size + i * 40001
  | 0, _ => by rw [tokP]; omega
  | i + 1, hi => by
    have ih := tokP_size ht out i (by omega)
    have hx := ht _ (List.getElem_mem (show i < t.length by omega))
    rw [tokP, ByteArray.size_append, List.getElem?_eq_getElem (show i < t.length by omega)]
    simp only [Option.map_some, Option.getD_some]
    split
    · rw [ByteArray.size_append]
      have : (ByteArray.mk #[32]).size = 1 := rfl
      omega
    · omega
end Rt
namespace Rt
/-- The first k lines (from line 1 on), tidied. -/
def tidyTo (pls : List PL) : Nat → ByteArray
  | 0 => ⟨#[]⟩
  | k + 1 => (if 0 < k then tidyTo pls k ++ ⟨#[10]⟩ else tidyTo pls k) ++ tidyLn ((pls[k + 1]?).getD zPL)
def tidyP (pls : List PL) : ByteArray := tidyTo pls (pls.length - 1)
/-- Lines of no great size. -/
def Fit (pl : PL) : Prop := pl.toks.length ≤ 1000 ∧ (∀ t ∈ pl.toks, t.text.size ≤ 40000) ∧ pl.depth ≤ 1000
theorem tidyLn_size {pl : PL} (h : Fit pl) : (tidyLn pl).size ≤ 49999999 := by
  obtain ⟨h1, h2, h3⟩ := h
  unfold tidyLn
  split
  · show 0 ≤ _; omega
  · have := tokP_size h2 (spP ⟨#[]⟩ pl.depth.toNat) _ (Nat.le_refl _)
    rw [spP_size] at this
    have h0 : (ByteArray.mk #[]).size = 0 := rfl
    have h4 : pl.toks.length * 40001 ≤ 1000 * 40001 := Nat.mul_le_mul_right _ h1
    omega
theorem zPL_fit : Fit zPL := ⟨by simp [zPL], by simp [zPL], by simp [zPL]⟩
theorem tidyTo_size {pls : List PL} (h : ∀ p ∈ pls, Fit p) : ∀ k, (tidyTo pls k).size ≤ k * 50000000
  | 0 => by show 0 ≤ _; omega
  | k + 1 => by
    have ih := tidyTo_size h k
    have hf : Fit ((pls[k + 1]?).getD zPL) := by
      cases hq : pls[k + 1]? with
      | none => exact zPL_fit
      | some p => exact h p (List.mem_of_getElem? hq)
    have hl := tidyLn_size hf
    rw [tidyTo, ByteArray.size_append]
    split
    · rw [ByteArray.size_append]
      have : (ByteArray.mk #[10]).size = 1 := rfl
      omega
    · omega
end Rt
end Go.Proofs.YtbpajiljfppjcaaGreat

namespace Go.Proofs.YtbpajiljfppjcaaGreat
namespace Rt

/-- Which of n things a raw number speaks of. -/
def pickP (c n : Int) : Int := (if c < 0 then -(c + 1) else c) % n
/-- Lines, each with its newline. -/
def unl (ls : List ByteArray) : ByteArray := ls.foldl (fun t s => t ++ s ++ ⟨#[10]⟩) ⟨#[]⟩
theorem unl_snoc (ls : List ByteArray) (s : ByteArray) : unl (ls ++ [s]) = unl ls ++ s ++ ⟨#[10]⟩ := by simp [unl]

def ifT (a n : ByteArray) : ByteArray := ⟨#[105, 102, 32]⟩ ++ a ++ ⟨#[32, 60, 32]⟩ ++ n
def whT (a n : ByteArray) : ByteArray := ⟨#[119, 104, 105, 108, 101, 32]⟩ ++ a ++ ⟨#[32, 60, 32]⟩ ++ n
def incT (a : ByteArray) : ByteArray := ⟨#[115, 101, 116, 32]⟩ ++ a ++ ⟨#[32, 116, 111, 32]⟩ ++ a ++ ⟨#[32, 43, 32, 49]⟩
def elT : ByteArray := ⟨#[101, 108, 115, 101]⟩
def enT : ByteArray := ⟨#[101, 110, 100]⟩
def prT (a n : ByteArray) : ByteArray := ⟨#[112, 114, 105, 110, 116, 32]⟩ ++ a ++ ⟨#[32, 42, 32]⟩ ++ n
def dvT (a n : ByteArray) : ByteArray := ⟨#[115, 101, 116, 32]⟩ ++ a ++ ⟨#[32, 116, 111, 32]⟩ ++ n ++ ⟨#[32, 47, 32]⟩ ++ a
def plainE (k : Int) (a b n : ByteArray) : ByteArray :=
  if k = 0 then ⟨#[115, 101, 116, 32]⟩ ++ a ++ ⟨#[32, 116, 111, 32]⟩ ++ a ++ ⟨#[32, 43, 32]⟩ ++ n
  else if k = 1 then ⟨#[115, 101, 116, 32]⟩ ++ a ++ ⟨#[32, 116, 111, 32]⟩ ++ b ++ ⟨#[32, 42, 32, 51, 32, 45, 32]⟩ ++ a
  else if k = 2 then ⟨#[115, 101, 116, 32, 116, 91]⟩ ++ a ++ ⟨#[32, 42, 32]⟩ ++ a ++ ⟨#[32, 37, 32, 52, 93, 32, 116, 111, 32]⟩ ++ b
  else if k = 3 then ⟨#[115, 101, 116, 32]⟩ ++ a ++ ⟨#[32, 116, 111, 32, 116, 91]⟩ ++ n ++ ⟨#[32, 37, 32, 54, 93]⟩
  else if k = 4 then ⟨#[112, 114, 105, 110, 116, 32]⟩ ++ a
  else if k = 5 then ⟨#[114, 101, 97, 100, 32]⟩ ++ a
  else if k = 6 then ⟨#[99, 97, 108, 108, 32, 102, 32]⟩ ++ a ++ ⟨#[44, 32]⟩ ++ n
  else ⟨#[115, 101, 116, 32]⟩ ++ a ++ ⟨#[32, 116, 111, 32, 40]⟩ ++ a ++ ⟨#[32, 61, 32]⟩ ++ b ++ ⟨#[41, 32, 43, 32]⟩ ++ n
/-- What the innermost block is; 0: none is open. -/
def topE (o : List Int) : Int := o.getLastD 0
/-- The lines of a block's number, and the blocks that are open behind it. -/
def blockE (o : List Int) (k : Int) (a n : ByteArray) : List ByteArray × List Int :=
  if k = 0 then ([ifT a n], o ++ [1])
  else if k = 1 then ([whT a n, incT a], o ++ [3])
  else if k = 2 ∧ topE o = 1 then ([elT], o.dropLast ++ [2])
  else if k = 3 ∧ 0 < topE o then ([enT], o.dropLast)
  else if k = 2 then ([prT a n], o)
  else ([dvT a n], o)
def digitT (d : Int) : ByteArray := ⟨#[UInt8.ofNat (48 + d.toNat)]⟩
def varE (vars : List ByteArray) (i : Int) : ByteArray := (vars[i.toNat]?).getD ⟨#[]⟩
def stepE (vars : List ByteArray) (c : Int) (o : List Int) : List ByteArray × List Int :=
  let v := pickP c 1099511627776
  let a := varE vars (v / 12 % vars.length)
  let b := varE vars (v / 60 % vars.length)
  let n := digitT (v / 300 % 10)
  if v % 12 < 8 then ([plainE (v % 12) a b n], o) else blockE o (v % 12 - 8) a n
def bodyE (vars : List ByteArray) : List Int → List Int → List ByteArray × List Int
  | [], o => ([], o)
  | c :: r, o => ((stepE vars c o).1 ++ (bodyE vars r (stepE vars c o).2).1, (bodyE vars r (stepE vars c o).2).2)
def bodyL (vars : List ByteArray) (code : List Int) : List ByteArray :=
  (bodyE vars (code.take 14) []).1 ++ List.replicate ((bodyE vars (code.take 14) []).2.length + 1) enT

def varsF : List ByteArray := [⟨#[112]⟩, ⟨#[113]⟩, ⟨#[120]⟩, ⟨#[112]⟩, ⟨#[122]⟩]
def varsM : List ByteArray := [⟨#[120]⟩, ⟨#[121]⟩, ⟨#[122]⟩]
def headT : List ByteArray := [⟨#[118, 97, 114, 32, 120]⟩, ⟨#[118, 97, 114, 32, 121]⟩, ⟨#[118, 97, 114, 32, 122]⟩, ⟨#[97, 114, 114, 97, 121, 32, 116, 32, 52]⟩, ⟨#[112, 114, 111, 99, 32, 102, 32, 112, 32, 113]⟩]
def mainT : ByteArray := ⟨#[112, 114, 111, 99, 32, 109, 97, 105, 110]⟩
def srcL (code : List Int) : List ByteArray := headT ++ bodyL varsF (code.take (code.length / 2)) ++ [mainT] ++ bodyL varsM (code.drop (code.length / 2))
/-- A right source, out of numbers. -/
def srcB (code : List Int) : ByteArray := unl (srcL code)

/-- A name that is a variable or a parameter there. -/
def vName (pars : List ByteArray) (x : ByteArray) : Bool := pars.any (fun y => decide (y = x)) || varsM.any (fun y => decide (y = x))
def tName : ByteArray := ⟨#[116]⟩
def fName : ByteArray := ⟨#[102]⟩
def opGood (pars : List ByteArray) (o : Pop) : Bool := if o.code = 2 then vName pars o.name else if o.code = 3 then decide (o.name = tName) else true
/-- A form whose names may stand in a procedure with these parameters. -/
def fmGood (pars : List ByteArray) (fm : PForm) : Bool :=
  fm.index.all (opGood pars) && fm.values.all (fun e => e.all (opGood pars)) &&
  (if fm.kind = 8 ∨ fm.kind = 11 then vName pars fm.name else if fm.kind = 9 then decide (fm.name = tName) else if fm.kind = 12 then decide (fm.name = fName) && decide (fm.values.length = 2) else decide (fm.kind = 4 ∨ fm.kind = 5 ∨ fm.kind = 6 ∨ fm.kind = 7 ∨ fm.kind = 10))
/-- A line of that kind that may stand in a procedure with these parameters. -/
def lnGood (pars : List ByteArray) (k : Int) (s : ByteArray) : Bool :=
  match rdLine s with
  | none => false
  | some p => decide (p.form.kind = k) && fmGood pars p.form && decide (s.size ≤ 40) && decide (p.depth = 0) && decide (p.opener = 0) && decide (p.proc = 0)

def parsF : List ByteArray := [⟨#[112]⟩, ⟨#[113]⟩]
def digs : List ByteArray := [⟨#[48]⟩, ⟨#[49]⟩, ⟨#[50]⟩, ⟨#[51]⟩, ⟨#[52]⟩, ⟨#[53]⟩, ⟨#[54]⟩, ⟨#[55]⟩, ⟨#[56]⟩, ⟨#[57]⟩]
end Rt
end Go.Proofs.YtbpajiljfppjcaaGreat

