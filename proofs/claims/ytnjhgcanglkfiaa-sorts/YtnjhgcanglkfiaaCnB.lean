/- The source of reckons: read. -/
import Derived.Test.YtnjhgcanglkfiaaRtMach
import Derived.Test.YtnjhgcanglkfiaaRnB
namespace Go.Proofs.Ytnjhgcanglkfiaa
open Go.RowKit
namespace Rt
def parFitB (fm : PForm) : Bool := !((fm.name.toList == mainWord) && decide (0 < fm.params.length)) && decide fm.params.Nodup
theorem nodup_iff (ps : List ByteArray) : NoDup ps ps.length ↔ ps.Nodup := by
  unfold NoDup List.Nodup
  rw [List.pairwise_iff_getElem]
  constructor
  · intro h i j hi hj hij e
    exact h j i hij hj hj (by rw [List.getElem?_eq_getElem hi, List.getElem?_eq_getElem hj, e])
  · intro h i j hij _ hi e
    rw [List.getElem?_eq_getElem hi, List.getElem?_eq_getElem (by omega)] at e
    exact h j i (by omega) hi hij (Option.some.inj e).symm
theorem parFit_eq (fm : PForm) : parFit fm = parFitB fm := by
  unfold parFit parFitB
  congr 1
  rw [decide_eq_decide]
  exact nodup_iff _
def namFitB (pls : List PL) (n : Nat) (p : PL) : Bool :=
  if p.form.kind = 1 ∨ p.form.kind = 2 then decide (declP pls p.form.name = n)
  else if p.form.kind = 3 then decide (declP pls p.form.name = n) && parFitB p.form
  else if p.form.kind = 8 ∨ p.form.kind = 11 then isVar pls p.proc p.form.name && exsFit pls p
  else if p.form.kind = 9 then isArr pls p.proc p.form.name && exsFit pls p
  else if p.form.kind = 12 then callFit pls p.form && exsFit pls p
  else exsFit pls p
theorem namFit_eq (pls : List PL) (n : Nat) (p : PL) : namFit pls n p = namFitB pls n p := by
  unfold namFit namFitB
  rw [parFit_eq]
def nameErrB (pls : List PL) : Nat → List PL → Nat
  | _, [] => 0
  | n, p :: r => if namFitB pls n p = true then nameErrB pls (n + 1) r else n
theorem nameErr_eq (pls : List PL) : ∀ (r : List PL) (n : Nat), nameErr pls n r = nameErrB pls n r
  | [], _ => rfl
  | p :: r, n => by
    unfold nameErr nameErrB
    rw [namFit_eq, nameErr_eq pls r]
def readNamesB (ls : List PL) : Int × Int × List PL :=
  if ¬ nameErrB ls 1 (ls.drop 1) = 0 then (4, nameErrB ls 1 (ls.drop 1), [])
  else if ¬ (declForm ls mainName).kind = 3 then (4, 0, [])
  else (0, 0, ls)
def blkNil : List Blk → Bool
  | [] => true
  | _ :: _ => false
def readNestB (er : Nat) (ls : List PL) (bs : List Blk) (len : Nat) : Int × Int × List PL :=
  if ¬ er = 0 then (3, er, []) else if blkNil bs = false then (3, len, []) else readNamesB ls
def readFormsB (ln : Nat) (pls : List PL) (len : Nat) : Int × Int × List PL :=
  if ¬ ln = 0 then (2, ln, [])
  else readNestB (nestFrom (pls.drop 1) 1 [] [zPL]).1 (nestFrom (pls.drop 1) 1 [] [zPL]).2.1 (nestFrom (pls.drop 1) 1 [] [zPL]).2.2 len
def readSB (s : ByteArray) : Int × Int × List PL :=
  if tooLong s = true then (1, 0, []) else readFormsB (rForms 0 (lines s) [zPL]).1 (rForms 0 (lines s) [zPL]).2 (lines s).length
theorem readS_eq (s : ByteArray) : readS s = readSB s := by
  have h1 : ∀ ls, readNames ls = readNamesB ls := fun ls => by unfold readNames readNamesB; rw [nameErr_eq]
  have h2 : ∀ er ls bs len, readNest er ls bs len = readNestB er ls bs len := fun er ls bs len => by
    unfold readNest readNestB
    rw [h1]
    cases bs <;> simp [blkNil]
  unfold readS readSB
  split
  · rfl
  · unfold readForms readFormsB
    rw [h2]
end Rt
end Go.Proofs.Ytnjhgcanglkfiaa

namespace Go.Proofs.Ytnjhgcanglkfiaa
open Go.RowKit
attribute [local go_sem ↓] Go.wp_at_zero Go.wp_at_succ

namespace Rt
/-- The bounds of a line, as a test. -/
def okLine (p : PL) : Bool := decide (p.form.kind ≠ 12) && decide (p.form.kind ≠ 6) && decide (p.form.cells ≤ 1000) && decide (p.form.params.length ≤ 1000) && decide (p.form.index.length ≤ 900) && decide (p.form.values.length ≤ 1000) && p.form.values.all (fun o => decide (o.length ≤ 900))
end Rt
theorem ok_parts {p : Rt.PL} (h : Rt.okLine p = true) : p.form.kind ≠ 12 ∧ p.form.kind ≠ 6 ∧ p.form.cells ≤ 1000 ∧ p.form.params.length ≤ 1000 ∧ p.form.index.length ≤ 900 ∧ p.form.values.length ≤ 1000 ∧ ∀ o ∈ p.form.values, o.length ≤ 900 := by
  unfold Rt.okLine at h
  simp only [Bool.and_eq_true, decide_eq_true_eq, List.all_eq_true] at h
  obtain ⟨⟨⟨⟨⟨⟨h1, h2⟩, h3⟩, h4⟩, h5⟩, h6⟩, h7⟩ := h
  exact ⟨h1, h2, h3, h4, h5, h6, h7⟩
theorem form_cases (P : List Rt.PL) (n : Int) : Rt.formAt P n = Rt.zF ∨ ∃ p ∈ P, Rt.formAt P n = p.form := by
  unfold Rt.formAt
  split
  · exact Or.inl rfl
  · cases e : P[n.toNat]? with
    | none => exact Or.inl rfl
    | some p => exact Or.inr ⟨p, List.mem_of_getElem? e, rfl⟩
theorem flat_of {P : List Rt.PL} {L : Rt.Lks} {inp : List Int} (h : P.all Rt.okLine = true) (hlen : P.length ≤ 101) (hin : inp.length ≤ 100) : Flat ⟨P, L, inp⟩ := by
  have hp : ∀ p ∈ P, Rt.okLine p = true := fun p hp => List.all_eq_true.mp h p hp
  have hsm : ∀ p ∈ P, Rt.Small p.form := fun p hpp => by
    obtain ⟨_, _, _, h4, h5, h6, h7⟩ := ok_parts (hp p hpp)
    exact ⟨h4, by omega, h6, fun o ho => by have := h7 o ho; omega⟩
  refine ⟨fun n => ?_, fun n => ?_, fun n => ?_, fun n => ?_, ?_, ?_⟩
  · rcases form_cases P n with e | ⟨p, hpp, e⟩
    · intro o ho; rw [e] at ho; cases ho
    · rw [e]; exact (ok_parts (hp p hpp)).2.2.2.2.2.2
  · rcases form_cases P n with e | ⟨p, hpp, e⟩
    · rw [e]; exact Nat.zero_le _
    · rw [e]; exact (ok_parts (hp p hpp)).2.2.2.2.1
  · rcases form_cases P n with e | ⟨p, hpp, e⟩
    · rw [e]; exact ⟨by simp [Rt.zF], by simp [Rt.zF], by simp [Rt.zF], by simp [Rt.zF]⟩
    · rw [e]; exact hsm p hpp
  · rcases form_cases P n with e | ⟨p, hpp, e⟩
    · rw [e]; simp [Rt.zF]
    · rw [e]; exact (ok_parts (hp p hpp)).1
  · intro n p hpp hk
    exact absurd hk (ok_parts (hp p (List.mem_of_getElem? hpp))).2.1
  · refine ⟨hlen, hin, by simp [Rt.firstM], by simpa [Rt.firstM] using hlen, by simp [Rt.firstM], ?_, ?_, hsm⟩
    · intro f hf
      simp only [Rt.firstM, List.mem_singleton] at hf
      rw [hf]
      simp [Rt.noFm]
    · intro l hl
      simp only [Rt.firstM, List.mem_map] at hl
      obtain ⟨p, hpp, rfl⟩ := hl
      have := (ok_parts (hp p hpp)).2.2.1
      unfold Rt.zerosI
      rw [List.length_replicate]
      split <;> omega
/-- What Run answers of a source whose lines are known. -/
theorem run_known (s : ByteArray) (P : List Rt.PL) (L : Rt.Lks) (h1 : (Rt.readSB s).1 = 0) (h2 : (Rt.readSB s).2.1 = 0) (h3 : (Rt.readSB s).2.2.map Rt.noTok = P) (h4 : Rt.linksS s = L) (h5 : P.all Rt.okLine = true) (h6 : P.length ≤ 101) (h7 : L.length = P.length)
    (iv : Value) (inp : List Int) (fuel : Nat) (w : World) (hs : s.size ≤ maxLen) (hi : Ints w iv inp) (hl : inp.length ≤ 100) (hfu : fuel ≤ 1000) :
    Calls Try.prog 5 #[.string s, iv, .int .i64 fuel] w (RunP ⟨P, L, inp⟩ fuel w) := by
  have hR : Rt.readS s = (0, 0, (Rt.readSB s).2.2) := by
    rw [Rt.readS_eq]
    exact Prod.ext h1 (Prod.ext h2 rfl)
  have hsrc : srcOf s (Rt.readSB s).2.2 inp = ⟨P, L, inp⟩ := by
    unfold srcOf
    rw [h3, h4]
  have hF : Flat (srcOf s (Rt.readSB s).2.2 inp) := by rw [hsrc]; exact flat_of h5 h6 hl
  have := run_flat s iv inp fuel w (Rt.readSB s).2.2 hs hi hR ⟨?_, ?_, ?_⟩ hl hfu hF
  · rw [hsrc] at this; exact this
  · rw [h4, h7, ← h3, List.length_map]
  · have := hF.fwd
    exact this
  · intro p hp
    have : Rt.noTok p ∈ P := by rw [← h3]; exact List.mem_map_of_mem hp
    exact (ok_parts (List.all_eq_true.mp h5 _ this)).2.2.1
end Go.Proofs.Ytnjhgcanglkfiaa

namespace Go.Proofs.Ytnjhgcanglkfiaa
open Go.RowKit
namespace Rt
def soS : ByteArray := ⟨#[118, 97, 114, 32, 110, 10, 118, 97, 114, 32, 105, 10, 118, 97, 114, 32, 106, 10, 118, 97, 114, 32, 118, 10, 97, 114, 114, 97, 121, 32, 97, 32, 49, 52, 10, 112, 114, 111, 99, 32, 109, 97, 105, 110, 10, 114, 101, 97, 100, 32, 110, 10, 119, 104, 105, 108, 101, 32, 105, 32, 60, 32, 110, 10, 114, 101, 97, 100, 32, 118, 10, 115, 101, 116, 32, 97, 91, 48, 93, 32, 116, 111, 32, 118, 10, 115, 101, 116, 32, 106, 32, 116, 111, 32, 105, 10, 119, 104, 105, 108, 101, 32, 118, 32, 60, 32, 97, 91, 106, 93, 10, 115, 101, 116, 32, 97, 91, 106, 32, 43, 32, 49, 93, 32, 116, 111, 32, 97, 91, 106, 93, 10, 115, 101, 116, 32, 106, 32, 116, 111, 32, 106, 32, 45, 32, 49, 10, 101, 110, 100, 10, 115, 101, 116, 32, 97, 91, 106, 32, 43, 32, 49, 93, 32, 116, 111, 32, 118, 10, 115, 101, 116, 32, 105, 32, 116, 111, 32, 105, 32, 43, 32, 49, 10, 101, 110, 100, 10, 115, 101, 116, 32, 105, 32, 116, 111, 32, 49, 10, 119, 104, 105, 108, 101, 32, 105, 32, 60, 32, 110, 32, 43, 32, 49, 10, 112, 114, 105, 110, 116, 32, 97, 91, 105, 93, 10, 115, 101, 116, 32, 105, 32, 116, 111, 32, 105, 32, 43, 32, 49, 10, 101, 110, 100, 10, 101, 110, 100]⟩
def soP : List PL := [
    ⟨[], ⟨0, ⟨#[]⟩, 0, [], [], []⟩, 0, 0, 0⟩,
    ⟨[], ⟨1, ⟨#[110]⟩, 0, [], [], []⟩, 0, 0, 0⟩,
    ⟨[], ⟨1, ⟨#[105]⟩, 0, [], [], []⟩, 0, 0, 0⟩,
    ⟨[], ⟨1, ⟨#[106]⟩, 0, [], [], []⟩, 0, 0, 0⟩,
    ⟨[], ⟨1, ⟨#[118]⟩, 0, [], [], []⟩, 0, 0, 0⟩,
    ⟨[], ⟨2, ⟨#[97]⟩, 14, [], [], []⟩, 0, 0, 0⟩,
    ⟨[], ⟨3, ⟨#[109, 97, 105, 110]⟩, 0, [], [], []⟩, 0, 0, 0⟩,
    ⟨[], ⟨11, ⟨#[110]⟩, 0, [], [], []⟩, 1, 0, 6⟩,
    ⟨[], ⟨7, ⟨#[]⟩, 0, [], [], [[⟨2, 0, ⟨#[105]⟩⟩, ⟨2, 0, ⟨#[110]⟩⟩, ⟨10, 0, ⟨#[]⟩⟩]]⟩, 1, 0, 6⟩,
    ⟨[], ⟨11, ⟨#[118]⟩, 0, [], [], []⟩, 2, 0, 6⟩,
    ⟨[], ⟨9, ⟨#[97]⟩, 0, [], [⟨1, 0, ⟨#[]⟩⟩], [[⟨2, 0, ⟨#[118]⟩⟩]]⟩, 2, 0, 6⟩,
    ⟨[], ⟨8, ⟨#[106]⟩, 0, [], [], [[⟨2, 0, ⟨#[105]⟩⟩]]⟩, 2, 0, 6⟩,
    ⟨[], ⟨7, ⟨#[]⟩, 0, [], [], [[⟨2, 0, ⟨#[118]⟩⟩, ⟨2, 0, ⟨#[106]⟩⟩, ⟨3, 0, ⟨#[97]⟩⟩, ⟨10, 0, ⟨#[]⟩⟩]]⟩, 2, 0, 6⟩,
    ⟨[], ⟨9, ⟨#[97]⟩, 0, [], [⟨2, 0, ⟨#[106]⟩⟩, ⟨1, 1, ⟨#[]⟩⟩, ⟨5, 0, ⟨#[]⟩⟩], [[⟨2, 0, ⟨#[106]⟩⟩, ⟨3, 0, ⟨#[97]⟩⟩]]⟩, 3, 0, 6⟩,
    ⟨[], ⟨8, ⟨#[106]⟩, 0, [], [], [[⟨2, 0, ⟨#[106]⟩⟩, ⟨1, 1, ⟨#[]⟩⟩, ⟨6, 0, ⟨#[]⟩⟩]]⟩, 3, 0, 6⟩,
    ⟨[], ⟨4, ⟨#[]⟩, 0, [], [], []⟩, 2, 12, 6⟩,
    ⟨[], ⟨9, ⟨#[97]⟩, 0, [], [⟨2, 0, ⟨#[106]⟩⟩, ⟨1, 1, ⟨#[]⟩⟩, ⟨5, 0, ⟨#[]⟩⟩], [[⟨2, 0, ⟨#[118]⟩⟩]]⟩, 2, 0, 6⟩,
    ⟨[], ⟨8, ⟨#[105]⟩, 0, [], [], [[⟨2, 0, ⟨#[105]⟩⟩, ⟨1, 1, ⟨#[]⟩⟩, ⟨5, 0, ⟨#[]⟩⟩]]⟩, 2, 0, 6⟩,
    ⟨[], ⟨4, ⟨#[]⟩, 0, [], [], []⟩, 1, 8, 6⟩,
    ⟨[], ⟨8, ⟨#[105]⟩, 0, [], [], [[⟨1, 1, ⟨#[]⟩⟩]]⟩, 1, 0, 6⟩,
    ⟨[], ⟨7, ⟨#[]⟩, 0, [], [], [[⟨2, 0, ⟨#[105]⟩⟩, ⟨2, 0, ⟨#[110]⟩⟩, ⟨1, 1, ⟨#[]⟩⟩, ⟨5, 0, ⟨#[]⟩⟩, ⟨10, 0, ⟨#[]⟩⟩]]⟩, 1, 0, 6⟩,
    ⟨[], ⟨10, ⟨#[]⟩, 0, [], [], [[⟨2, 0, ⟨#[105]⟩⟩, ⟨3, 0, ⟨#[97]⟩⟩]]⟩, 2, 0, 6⟩,
    ⟨[], ⟨8, ⟨#[105]⟩, 0, [], [], [[⟨2, 0, ⟨#[105]⟩⟩, ⟨1, 1, ⟨#[]⟩⟩, ⟨5, 0, ⟨#[]⟩⟩]]⟩, 2, 0, 6⟩,
    ⟨[], ⟨4, ⟨#[]⟩, 0, [], [], []⟩, 1, 20, 6⟩,
    ⟨[], ⟨4, ⟨#[]⟩, 0, [], [], []⟩, 0, 6, 6⟩]
def soL : Lks := [(0, 0), (0, 0), (0, 0), (0, 0), (0, 0), (0, 0), (0, 24), (0, 0), (0, 18), (0, 0), (0, 0), (0, 0), (0, 15), (0, 0), (0, 0), (0, 0), (0, 0), (0, 0), (0, 0), (0, 0), (0, 23), (0, 0), (0, 0), (0, 0), (0, 0)]
theorem so_err : (readSB soS).1 = 0 := by kernel_rfl
theorem so_ln : (readSB soS).2.1 = 0 := by kernel_rfl
theorem so_pls : (readSB soS).2.2.map (fun p => ({ p with toks := [] } : PL)) = soP := by kernel_rfl
theorem so_lk : linksS soS = soL := by kernel_rfl
end Rt
end Go.Proofs.Ytnjhgcanglkfiaa

namespace Go.Proofs.Ytnjhgcanglkfiaa
open Go.RowKit
namespace Rt
def rkS : ByteArray := ⟨#[118, 97, 114, 32, 97, 10, 118, 97, 114, 32, 98, 10, 112, 114, 111, 99, 32, 109, 97, 105, 110, 10, 114, 101, 97, 100, 32, 97, 10, 114, 101, 97, 100, 32, 98, 10, 112, 114, 105, 110, 116, 32, 97, 32, 43, 32, 98, 10, 112, 114, 105, 110, 116, 32, 97, 32, 45, 32, 98, 10, 112, 114, 105, 110, 116, 32, 97, 32, 42, 32, 98, 10, 112, 114, 105, 110, 116, 32, 97, 32, 60, 32, 98, 10, 112, 114, 105, 110, 116, 32, 97, 32, 61, 32, 98, 10, 112, 114, 105, 110, 116, 32, 45, 97, 10, 112, 114, 105, 110, 116, 32, 97, 32, 45, 32, 98, 32, 45, 32, 97, 32, 42, 32, 98, 32, 43, 32, 40, 97, 32, 45, 32, 40, 98, 32, 45, 32, 97, 41, 41, 32, 42, 32, 50, 10, 112, 114, 105, 110, 116, 32, 97, 32, 47, 32, 98, 10, 112, 114, 105, 110, 116, 32, 97, 32, 37, 32, 98, 32, 42, 32, 50, 10, 112, 114, 105, 110, 116, 32, 55, 32, 45, 32, 97, 32, 47, 32, 98, 32, 47, 32, 51, 10, 101, 110, 100]⟩
def rkP : List PL := [
    ⟨[], ⟨0, ⟨#[]⟩, 0, [], [], []⟩, 0, 0, 0⟩,
    ⟨[], ⟨1, ⟨#[97]⟩, 0, [], [], []⟩, 0, 0, 0⟩,
    ⟨[], ⟨1, ⟨#[98]⟩, 0, [], [], []⟩, 0, 0, 0⟩,
    ⟨[], ⟨3, ⟨#[109, 97, 105, 110]⟩, 0, [], [], []⟩, 0, 0, 0⟩,
    ⟨[], ⟨11, ⟨#[97]⟩, 0, [], [], []⟩, 1, 0, 3⟩,
    ⟨[], ⟨11, ⟨#[98]⟩, 0, [], [], []⟩, 1, 0, 3⟩,
    ⟨[], ⟨10, ⟨#[]⟩, 0, [], [], [[⟨2, 0, ⟨#[97]⟩⟩, ⟨2, 0, ⟨#[98]⟩⟩, ⟨5, 0, ⟨#[]⟩⟩]]⟩, 1, 0, 3⟩,
    ⟨[], ⟨10, ⟨#[]⟩, 0, [], [], [[⟨2, 0, ⟨#[97]⟩⟩, ⟨2, 0, ⟨#[98]⟩⟩, ⟨6, 0, ⟨#[]⟩⟩]]⟩, 1, 0, 3⟩,
    ⟨[], ⟨10, ⟨#[]⟩, 0, [], [], [[⟨2, 0, ⟨#[97]⟩⟩, ⟨2, 0, ⟨#[98]⟩⟩, ⟨7, 0, ⟨#[]⟩⟩]]⟩, 1, 0, 3⟩,
    ⟨[], ⟨10, ⟨#[]⟩, 0, [], [], [[⟨2, 0, ⟨#[97]⟩⟩, ⟨2, 0, ⟨#[98]⟩⟩, ⟨10, 0, ⟨#[]⟩⟩]]⟩, 1, 0, 3⟩,
    ⟨[], ⟨10, ⟨#[]⟩, 0, [], [], [[⟨2, 0, ⟨#[97]⟩⟩, ⟨2, 0, ⟨#[98]⟩⟩, ⟨11, 0, ⟨#[]⟩⟩]]⟩, 1, 0, 3⟩,
    ⟨[], ⟨10, ⟨#[]⟩, 0, [], [], [[⟨2, 0, ⟨#[97]⟩⟩, ⟨4, 0, ⟨#[]⟩⟩]]⟩, 1, 0, 3⟩,
    ⟨[], ⟨10, ⟨#[]⟩, 0, [], [], [[⟨2, 0, ⟨#[97]⟩⟩, ⟨2, 0, ⟨#[98]⟩⟩, ⟨6, 0, ⟨#[]⟩⟩, ⟨2, 0, ⟨#[97]⟩⟩, ⟨2, 0, ⟨#[98]⟩⟩, ⟨7, 0, ⟨#[]⟩⟩, ⟨6, 0, ⟨#[]⟩⟩, ⟨2, 0, ⟨#[97]⟩⟩, ⟨2, 0, ⟨#[98]⟩⟩, ⟨2, 0, ⟨#[97]⟩⟩, ⟨6, 0, ⟨#[]⟩⟩, ⟨6, 0, ⟨#[]⟩⟩, ⟨1, 2, ⟨#[]⟩⟩, ⟨7, 0, ⟨#[]⟩⟩, ⟨5, 0, ⟨#[]⟩⟩]]⟩, 1, 0, 3⟩,
    ⟨[], ⟨10, ⟨#[]⟩, 0, [], [], [[⟨2, 0, ⟨#[97]⟩⟩, ⟨2, 0, ⟨#[98]⟩⟩, ⟨8, 0, ⟨#[]⟩⟩]]⟩, 1, 0, 3⟩,
    ⟨[], ⟨10, ⟨#[]⟩, 0, [], [], [[⟨2, 0, ⟨#[97]⟩⟩, ⟨2, 0, ⟨#[98]⟩⟩, ⟨9, 0, ⟨#[]⟩⟩, ⟨1, 2, ⟨#[]⟩⟩, ⟨7, 0, ⟨#[]⟩⟩]]⟩, 1, 0, 3⟩,
    ⟨[], ⟨10, ⟨#[]⟩, 0, [], [], [[⟨1, 7, ⟨#[]⟩⟩, ⟨2, 0, ⟨#[97]⟩⟩, ⟨2, 0, ⟨#[98]⟩⟩, ⟨8, 0, ⟨#[]⟩⟩, ⟨1, 3, ⟨#[]⟩⟩, ⟨8, 0, ⟨#[]⟩⟩, ⟨6, 0, ⟨#[]⟩⟩]]⟩, 1, 0, 3⟩,
    ⟨[], ⟨4, ⟨#[]⟩, 0, [], [], []⟩, 0, 3, 3⟩]
def rkL : Lks := [(0, 0), (0, 0), (0, 0), (0, 16), (0, 0), (0, 0), (0, 0), (0, 0), (0, 0), (0, 0), (0, 0), (0, 0), (0, 0), (0, 0), (0, 0), (0, 0), (0, 0)]
theorem rk_err : (readSB rkS).1 = 0 := by kernel_rfl
theorem rk_ln : (readSB rkS).2.1 = 0 := by kernel_rfl
theorem rk_pls : (readSB rkS).2.2.map (fun p => ({ p with toks := [] } : PL)) = rkP := by kernel_rfl
theorem rk_lk : linksS rkS = rkL := by kernel_rfl
end Rt
end Go.Proofs.Ytnjhgcanglkfiaa

