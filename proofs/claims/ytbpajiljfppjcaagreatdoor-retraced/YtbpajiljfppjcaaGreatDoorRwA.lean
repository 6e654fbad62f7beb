/- What the rows of the keep statements share. -/
import Derived.Test.YtbpajiljfppjcaaGreatDoorTdE
import Derived.Test.YtbpajiljfppjcaaGreatDoorTdD
import Derived.Test.YtbpajiljfppjcaaGreatDoorRows
import Derived.Test.YtbpajiljfppjcaaGreatDoorChecked
import Derived.Test.YtbpajiljfppjcaaGreatDoorRtTidy
import Derived.ProofKit
import Derived.LaidMore
import Derived.OpenShut
import Derived.SizedLaws
import Derived.Carry
import Derived.Stop.Joined
import Derived.Deep.Slices
namespace Go.Proofs.YtbpajiljfppjcaaGreatDoor
namespace Rt

theorem bytes_unl_go : ∀ (ls : List ByteArray) (t : ByteArray), bytes (ls.foldl (fun t s => t ++ s ++ ⟨#[10]⟩) t) = bytes t ++ (ls.map (fun s => bytes s ++ [10])).flatten
  | [], t => by simp
  | s :: r, t => by
    rw [List.foldl_cons, bytes_unl_go r, bytes_app, bytes_app]
    simp [bytes]
theorem split_unl : ∀ ls : List ByteArray, (∀ s ∈ ls, ∀ c ∈ bytes s, ¬ c.toNat = 10) → splitL (ls.map (fun s => bytes s ++ [10])).flatten = ls.map bytes ++ [[]]
  | [], _ => rfl
  | s :: r, h => by
    have ih := split_unl r (fun x hx => h x (List.mem_cons_of_mem _ hx))
    simp only [List.map_cons, List.flatten_cons, List.append_assoc, List.cons_append, List.nil_append]
    rw [splitL_app, splitL_one (h s (List.mem_cons_self ..)), ih]
    rfl
theorem map_bytes_inj : ∀ (a b : List ByteArray), a.map bytes = b.map bytes → a = b
  | [], [], _ => rfl
  | [], _ :: _, h => by cases h
  | _ :: _, [], h => by cases h
  | x :: a, y :: b, h => by
    simp only [List.map_cons] at h
    injection h with h1 h2
    rw [bytes_ext h1, map_bytes_inj a b h2]
theorem lines_unl {ls : List ByteArray} {ps : List PL} (h : ls.map rdLine = ps.map some) : lines (unl ls) = ls ++ [⟨#[]⟩] := by
  apply map_bytes_inj
  rw [lines_split, unl, bytes_unl_go]
  have hc : ∀ s ∈ ls, ∀ c ∈ bytes s, ¬ c.toNat = 10 := by
    intro s hs
    have : rdLine s ∈ ls.map rdLine := List.mem_map_of_mem hs
    rw [h] at this
    obtain ⟨p, _, hp⟩ := List.mem_map.mp this
    exact spell_clean (spell_of_toks (rdLine_toks hp.symm).1).1
  have := split_unl ls hc
  simpa [bytes] using this

/-- What the first lines are. -/
def fX : PForm := ⟨1, ⟨#[120]⟩, 0, [], [], []⟩
def fY : PForm := ⟨1, ⟨#[121]⟩, 0, [], [], []⟩
def fZ : PForm := ⟨1, ⟨#[122]⟩, 0, [], [], []⟩
def fT : PForm := ⟨2, ⟨#[116]⟩, 4, [], [], []⟩
def fF : PForm := ⟨3, ⟨#[102]⟩, 0, parsF, [], []⟩
def fM : PForm := ⟨3, ⟨#[109, 97, 105, 110]⟩, 0, [], [], []⟩
def hd1 : PL := ⟨[⟨1, ⟨#[118, 97, 114]⟩⟩, ⟨1, ⟨#[120]⟩⟩], fX, 0, 0, 0⟩
def hd2 : PL := ⟨[⟨1, ⟨#[118, 97, 114]⟩⟩, ⟨1, ⟨#[121]⟩⟩], fY, 0, 0, 0⟩
def hd3 : PL := ⟨[⟨1, ⟨#[118, 97, 114]⟩⟩, ⟨1, ⟨#[122]⟩⟩], fZ, 0, 0, 0⟩
def hd4 : PL := ⟨[⟨1, ⟨#[97, 114, 114, 97, 121]⟩⟩, ⟨1, ⟨#[116]⟩⟩, ⟨2, ⟨#[52]⟩⟩], fT, 0, 0, 0⟩
def hd5 : PL := ⟨[⟨1, ⟨#[112, 114, 111, 99]⟩⟩, ⟨1, ⟨#[102]⟩⟩, ⟨1, ⟨#[112]⟩⟩, ⟨1, ⟨#[113]⟩⟩], fF, 0, 0, 0⟩
def mn : PL := ⟨[⟨1, ⟨#[112, 114, 111, 99]⟩⟩, ⟨1, ⟨#[109, 97, 105, 110]⟩⟩], fM, 0, 0, 0⟩
def enP : PL := ⟨[⟨1, ⟨#[101, 110, 100]⟩⟩], ⟨4, ⟨#[]⟩, 0, [], [], []⟩, 0, 0, 0⟩
theorem head_read : headT.map rdLine = [hd1, hd2, hd3, hd4, hd5].map some := by kernel_rfl
theorem main_read : rdLine mainT = some mn := by kernel_rfl
theorem end_read : rdLine enT = some enP := by kernel_rfl
theorem empty_read : rdLine ⟨#[]⟩ = some zPL := by kernel_rfl

/-- A source's lines: the first ones, f's, main's. -/
structure Made (pls : List PL) (fb mb : List PL) : Prop where
  list : pls = zPL :: hd1 :: hd2 :: hd3 :: hd4 :: hd5 :: (fb ++ (⟨enP.toks, enP.form, 0, 5, 5⟩ :: mn :: (mb ++ [⟨enP.toks, enP.form, 0, fb.length + 7, fb.length + 7⟩, zPL])))
  inf : ∀ q ∈ fb, InP 5 parsF q
  inm : ∀ q ∈ mb, InP (fb.length + 7) [] q

theorem good_nodecl {pars : List ByteArray} {fm : PForm} (h : fmGood pars fm = true) : 4 ≤ fm.kind ∧ fm.kind ≤ 12 := by
  unfold fmGood at h
  simp only [Bool.and_eq_true] at h
  have h2 := h.2
  split at h2
  · omega
  · split at h2
    · omega
    · split at h2
      · omega
      · simp at h2; omega
theorem declFrom_skip : ∀ (a b : List PL) (n : Nat) (x : ByteArray), (∀ q ∈ a, isDecl q x = false) → declFrom n (a ++ b) x = declFrom (n + a.length) b x
  | [], b, n, x, _ => by simp
  | q :: a, b, n, x, h => by
    rw [List.cons_append, declFrom, if_neg (by rw [h q (List.mem_cons_self ..)]; simp), declFrom_skip a b (n + 1) x (fun r hr => h r (List.mem_cons_of_mem _ hr))]
    simp only [List.length_cons]
    rw [show n + 1 + a.length = n + (a.length + 1) by omega]
theorem isDecl_not {q : PL} {x : ByteArray} (h : 4 ≤ q.form.kind) : isDecl q x = false := by
  unfold isDecl
  rw [decide_eq_false (by omega), decide_eq_false (by omega), decide_eq_false (by omega)]
  rfl
section
variable {pls fb mb : List PL} (M : Made pls fb mb)
include M
theorem Made.declX : declP pls ⟨#[120]⟩ = 1 := by rw [M.list]; rfl
theorem Made.declY : declP pls ⟨#[121]⟩ = 2 := by rw [M.list]; rfl
theorem Made.declZ : declP pls ⟨#[122]⟩ = 3 := by rw [M.list]; rfl
theorem Made.declT : declP pls ⟨#[116]⟩ = 4 := by rw [M.list]; rfl
theorem Made.declF : declP pls ⟨#[102]⟩ = 5 := by rw [M.list]; rfl
theorem Made.declM : declP pls ⟨#[109, 97, 105, 110]⟩ = fb.length + 7 := by
  rw [M.list, declP]
  show declFrom 1 ([hd1, hd2, hd3, hd4, hd5] ++ (fb ++ _)) _ = _
  rw [declFrom_skip [hd1, hd2, hd3, hd4, hd5] _ 1 _ (by
    intro q hq
    simp only [List.mem_cons, List.not_mem_nil, or_false] at hq
    rcases hq with rfl | rfl | rfl | rfl | rfl <;> rfl)]
  rw [declFrom_skip fb _ _ _ (fun q hq => isDecl_not (good_nodecl (M.inf q hq).1).1)]
  show declFrom (1 + 5 + fb.length) (_ :: mn :: _) _ = _
  rw [declFrom, if_neg (by rw [isDecl_not (by decide)]; simp), declFrom, if_pos (by rfl)]
  omega
theorem Made.formX : formAt pls 1 = fX := by rw [M.list]; rfl
theorem Made.formY : formAt pls 2 = fY := by rw [M.list]; rfl
theorem Made.formZ : formAt pls 3 = fZ := by rw [M.list]; rfl
theorem Made.formT : formAt pls 4 = fT := by rw [M.list]; rfl
theorem Made.formF : formAt pls 5 = fF := by rw [M.list]; rfl
theorem Made.formM : formAt pls ((fb.length + 7 : Nat) : Int) = fM := by
  rw [M.list, formAt, if_neg (by omega)]
  have : ((fb.length + 7 : Nat) : Int).toNat = fb.length + 7 := by omega
  rw [this]
  simp only [List.getElem?_cons_succ]
  rw [List.getElem?_append_right (by omega)]
  simp
  rfl
theorem Made.var (P : Nat) (pars : List ByteArray) (hP : (formAt pls P).params = pars) {x : ByteArray} (h : vName pars x = true) : isVar pls P x = true := by
  unfold vName at h
  unfold isVar isPar
  rw [hP]
  cases hp : pars.any (fun y => decide (y = x)) with
  | true => rfl
  | false =>
    rw [hp] at h
    simp only [Bool.false_or] at h
    obtain ⟨y, hy, e⟩ := List.any_eq_true.mp h
    have e' := of_decide_eq_true e
    subst e'
    simp only [varsM, List.mem_cons, List.not_mem_nil, or_false] at hy
    simp only [Bool.false_or, decide_eq_true_eq]
    unfold declForm
    rcases hy with rfl | rfl | rfl
    · rw [M.declX]; exact congrArg PForm.kind M.formX
    · rw [M.declY]; exact congrArg PForm.kind M.formY
    · rw [M.declZ]; exact congrArg PForm.kind M.formZ
theorem Made.arr (P : Nat) (pars : List ByteArray) (hP : (formAt pls P).params = pars) (hn : pars.any (fun y => decide (y = tName)) = false) : isArr pls P tName = true := by
  unfold isArr isPar declForm
  rw [hP, hn]
  have : declP pls tName = 4 := M.declT
  rw [this]
  exact decide_eq_true (congrArg PForm.kind M.formT)
theorem Made.ops (P : Nat) (pars : List ByteArray) (hP : (formAt pls P).params = pars) (hn : pars.any (fun y => decide (y = tName)) = false) {e : List Pop} (h : e.all (opGood pars) = true) : exFit pls P e = true := by
  refine List.all_eq_true.mpr (fun o ho => ?_)
  have := List.all_eq_true.mp h o ho
  unfold opGood at this
  unfold opFit
  by_cases h2 : o.code = 2
  · rw [if_pos h2] at this ⊢; exact M.var P pars hP this
  · rw [if_neg h2] at this ⊢
    by_cases h3 : o.code = 3
    · rw [if_pos h3] at this ⊢
      rw [of_decide_eq_true this]
      exact M.arr P pars hP hn
    · rw [if_neg h3]
theorem Made.fit (P : Nat) (pars : List ByteArray) (hP : (formAt pls P).params = pars) (hn : pars.any (fun y => decide (y = tName)) = false) {q : PL} (h : InP P pars q) (n : Nat) : namFit pls n q = true := by
  obtain ⟨hg, hpr⟩ := h
  obtain ⟨k1, k2⟩ := good_nodecl hg
  unfold fmGood at hg
  simp only [Bool.and_eq_true] at hg
  obtain ⟨⟨g1, g2⟩, g3⟩ := hg
  have hex : exsFit pls q = true := by
    unfold exsFit
    rw [hpr, M.ops P pars hP hn g1]
    simp only [Bool.true_and]
    exact List.all_eq_true.mpr (fun e he => M.ops P pars hP hn (List.all_eq_true.mp g2 e he))
  unfold namFit
  rw [if_neg (by omega), if_neg (by omega)]
  by_cases h8 : q.form.kind = 8 ∨ q.form.kind = 11
  · rw [if_pos h8] at g3 ⊢
    rw [hpr, M.var P pars hP g3, hex]
    rfl
  rw [if_neg h8] at g3 ⊢
  by_cases h9 : q.form.kind = 9
  · rw [if_pos h9] at g3 ⊢
    rw [hpr, of_decide_eq_true g3, M.arr P pars hP hn, hex]
    rfl
  rw [if_neg h9] at g3 ⊢
  by_cases h12 : q.form.kind = 12
  · rw [if_pos h12] at g3 ⊢
    simp only [Bool.and_eq_true, decide_eq_true_eq] at g3
    rw [hex]
    unfold callFit declForm
    rw [g3.1]
    have : declP pls fName = 5 := M.declF
    rw [this]
    have h5 : formAt pls ((5 : Nat) : Int) = fF := M.formF
    rw [h5, g3.2]
    rfl
  rw [if_neg h12]
  exact hex
end
theorem fitEnd (pls : List PL) (P : Nat) (n : Nat) (d o : Int) : namFit pls n ⟨enP.toks, enP.form, d, o, P⟩ = true := rfl
theorem nameErr_all (pls : List PL) : ∀ (l : List PL) (n : Nat), (∀ i (h : i < l.length), namFit pls (n + i) l[i] = true) → nameErr pls n l = 0
  | [], _, _ => rfl
  | p :: r, n, h => by
    have h0 := h 0 (by simp)
    simp at h0
    rw [nameErr, if_pos h0]
    exact nameErr_all pls r (n + 1) (fun i hi => by have := h (i + 1) (by simpa using hi); rw [show n + 1 + i = n + (i + 1) by omega]; simpa using this)
theorem nameErr_app (pls : List PL) : ∀ (a b : List PL) (n : Nat), (∀ i (h : i < a.length), namFit pls (n + i) a[i] = true) → nameErr pls n (a ++ b) = nameErr pls (n + a.length) b
  | [], b, n, _ => by simp
  | p :: r, b, n, h => by
    have h0 := h 0 (by simp)
    simp at h0
    rw [List.cons_append, nameErr, if_pos h0, nameErr_app pls r b (n + 1) (fun i hi => by have := h (i + 1) (by simpa using hi); rw [show n + 1 + i = n + (i + 1) by omega]; simpa using this)]
    simp only [List.length_cons]
    rw [show n + 1 + r.length = n + (r.length + 1) by omega]
theorem nodup_pq : NoDup parsF parsF.length := by
  intro i j h1 h2 _
  have hi : i = 1 := by simp [parsF] at h2; omega
  have hj : j = 0 := by omega
  subst hi; subst hj
  simp [parsF]
theorem Made.names {pls fb mb : List PL} (M : Made pls fb mb) : readNames pls = (0, 0, pls) := by
  have hF : (formAt pls ((5 : Nat) : Int)).params = parsF := congrArg PForm.params M.formF
  have hM : (formAt pls ((fb.length + 7 : Nat) : Int)).params = [] := congrArg PForm.params M.formM
  have e1 : namFit pls 1 hd1 = true := by
    show decide (declP pls ⟨#[120]⟩ = 1) = true
    rw [M.declX]; rfl
  have e2 : namFit pls 2 hd2 = true := by
    show decide (declP pls ⟨#[121]⟩ = 2) = true
    rw [M.declY]; rfl
  have e3 : namFit pls 3 hd3 = true := by
    show decide (declP pls ⟨#[122]⟩ = 3) = true
    rw [M.declZ]; rfl
  have e4 : namFit pls 4 hd4 = true := by
    show decide (declP pls ⟨#[116]⟩ = 4) = true
    rw [M.declT]; rfl
  have e5 : namFit pls 5 hd5 = true := by
    show (decide (declP pls ⟨#[102]⟩ = 5) && parFit fF) = true
    rw [M.declF]
    have : parFit fF = true := by
      unfold parFit
      have h1 : (fF.name.toList == mainWord) = false := by kernel_rfl
      rw [h1]
      have h2 : NoDup fF.params fF.params.length := nodup_pq
      simp [h2]
    rw [this]; rfl
  have e6 : namFit pls (fb.length + 7) mn = true := by
    show (decide (declP pls ⟨#[109, 97, 105, 110]⟩ = fb.length + 7) && parFit fM) = true
    rw [M.declM]
    have : parFit fM = true := by
      unfold parFit
      have h1 : decide (0 < fM.params.length) = false := rfl
      rw [h1]
      have h2 : NoDup fM.params fM.params.length := fun i j _ h => by simp [fM] at h
      simp [h2]
    rw [this]; simp
  have hz : nameErr pls 1 (pls.drop 1) = 0 := by
    have hl : pls.drop 1 = [hd1, hd2, hd3, hd4, hd5] ++ (fb ++ ([⟨enP.toks, enP.form, 0, 5, 5⟩, mn] ++ (mb ++ [⟨enP.toks, enP.form, 0, fb.length + 7, fb.length + 7⟩, zPL]))) := by rw [M.list]; rfl
    rw [hl]
    rw [nameErr_app pls [hd1, hd2, hd3, hd4, hd5] _ 1 (by
      intro i hi
      simp at hi
      have : i = 0 ∨ i = 1 ∨ i = 2 ∨ i = 3 ∨ i = 4 := by omega
      rcases this with rfl | rfl | rfl | rfl | rfl
      · exact e1
      · exact e2
      · exact e3
      · exact e4
      · exact e5)]
    rw [nameErr_app pls fb _ _ (fun i hi => M.fit 5 parsF hF (by kernel_rfl) (M.inf _ (List.getElem_mem hi)) _)]
    rw [nameErr_app pls [⟨enP.toks, enP.form, 0, 5, 5⟩, mn] _ _ (by
      intro i hi
      simp at hi
      have : i = 0 ∨ i = 1 := by omega
      rcases this with rfl | rfl
      · exact fitEnd pls 5 _ 0 5
      · have h7 : 1 + [hd1, hd2, hd3, hd4, hd5].length + fb.length + 1 = fb.length + 7 := by simp; omega
        rw [h7]
        exact e6)]
    rw [nameErr_app pls mb _ _ (fun i hi => M.fit (fb.length + 7) [] hM rfl (M.inm _ (List.getElem_mem hi)) _)]
    refine nameErr_all pls _ _ (fun i hi => ?_)
    simp at hi
    have : i = 0 ∨ i = 1 := by omega
    rcases this with rfl | rfl
    · exact fitEnd pls (fb.length + 7) _ 0 _
    · rfl
  unfold readNames
  rw [if_neg (by rw [hz]; simp)]
  have : (declForm pls mainName).kind = 3 := by
    unfold declForm
    have h := M.declM
    have h2 : declP pls mainName = fb.length + 7 := h
    rw [h2]
    exact congrArg PForm.kind M.formM
  rw [if_neg (by rw [this]; simp)]

theorem stopsFrom_len (pls : List PL) : ∀ (l : List PL) (n : Nat) (acc : List Int), (stopsFrom pls n l acc).length = acc.length + (l.filter (isStopP pls)).length
  | [], _, _ => by simp [stopsFrom]
  | p :: r, n, acc => by
    rw [stopsFrom, stopsFrom_len pls r]
    cases h : isStopP pls p with
    | true => simp [h]; omega
    | false => simp [h]
theorem Made.stops {pls fb mb : List PL} (M : Made pls fb mb) : 2 ≤ (stopsP pls).length := by
  rw [stopsP, stopsFrom_len]
  have hl : pls.drop 1 = [hd1, hd2, hd3, hd4, hd5] ++ (fb ++ ([⟨enP.toks, enP.form, 0, 5, 5⟩] ++ ([mn] ++ (mb ++ ([⟨enP.toks, enP.form, 0, fb.length + 7, fb.length + 7⟩] ++ [zPL]))))) := by rw [M.list]; rfl
  have s1 : isStopP pls ⟨enP.toks, enP.form, 0, 5, 5⟩ = true := by
    show decide ((formAt pls 5).kind = 3) = true
    rw [M.formF]; rfl
  have s2 : isStopP pls ⟨enP.toks, enP.form, 0, fb.length + 7, fb.length + 7⟩ = true := by
    have h : (formAt pls ((fb.length : Int) + 7)).kind = 3 := by
      have := M.formM
      simp only [Int.natCast_add] at this
      exact congrArg PForm.kind this
    show decide ((formAt pls ((fb.length : Int) + 7)).kind = 3) = true
    rw [h]; rfl
  rw [hl]
  simp only [List.filter_append, List.length_append, List.filter_cons, s1, s2, if_true, List.filter_nil, List.length_cons, List.length_nil]
  omega

/-- The source that numbers make: it is read. -/
theorem src_read (code : List Int) : ∃ pls fb mb, readS (srcB code) = (0, 0, pls) ∧ Made pls fb mb ∧ (lines (srcB code)).length ≤ 100 ∧ (∀ x ∈ lines (srcB code), x.size ≤ 40) ∧ (srcB code).size ≤ 4100 ∧ tooLong (srcB code) = false := by
  obtain ⟨ef, lf⟩ := inner_emit goodsF (by decide) (code.take (code.length / 2))
  obtain ⟨em, lm⟩ := inner_emit goodsM (by decide) (code.drop (code.length / 2))
  obtain ⟨fs, f1, f2, f3, f4, f5⟩ := emit_nest ef 6 [⟨5, 3, false⟩] (P := 5) ⟨[], rfl, trivial⟩
  have hlf : fs.length = (innerL varsF (code.take (code.length / 2))).length := by have := congrArg List.length f1; simpa using this.symm
  obtain ⟨ms, m1, m2, m3, m4, m5⟩ := emit_nest em (fs.length + 8) [⟨fs.length + 7, 3, false⟩] (P := fs.length + 7) ⟨[], rfl, trivial⟩
  have hlm : ms.length = (innerL varsM (code.drop (code.length / 2))).length := by have := congrArg List.length m1; simpa using this.symm
  have hsrc : srcL code = headT ++ (innerL varsF (code.take (code.length / 2)) ++ ([enT, mainT] ++ (innerL varsM (code.drop (code.length / 2)) ++ [enT]))) := by
    unfold srcL
    rw [bodyL_inner, bodyL_inner]
    simp
  have hrd : (srcL code).map rdLine = ([hd1, hd2, hd3, hd4, hd5] ++ (fs ++ ([enP, mn] ++ (ms ++ [enP])))).map some := by
    rw [hsrc]
    simp only [List.map_append, f1, m1, head_read]
    rw [show List.map rdLine [enT, mainT] = List.map some [enP, mn] by simp [end_read, main_read], show List.map rdLine [enT] = List.map some [enP] by simp [end_read]]
  have hlines : lines (srcB code) = srcL code ++ [⟨#[]⟩] := lines_unl hrd
  have hlen : (lines (srcB code)).length ≤ 100 := by
    rw [hlines, hsrc]
    simp only [List.length_append, List.length_cons, List.length_nil, show headT.length = 5 from rfl]
    omega
  have hsize : ∀ x ∈ lines (srcB code), x.size ≤ 40 := by
    intro x hx
    rw [hlines, hsrc] at hx
    simp only [List.mem_append, List.mem_cons, List.not_mem_nil, or_false] at hx
    rcases hx with (hx | hx | (rfl | rfl) | hx | rfl) | rfl
    · simp only [headT, List.mem_cons, List.not_mem_nil, or_false] at hx
      rcases hx with rfl | rfl | rfl | rfl | rfl <;> decide
    · exact f5 x hx
    · decide
    · decide
    · exact m5 x hx
    · decide
    · decide
  have hsz : (srcB code).size ≤ 4100 := by
    rw [← bytes_size, ← joinL_split (bytes (srcB code)), ← lines_split]
    have := joinL_len 40 ((lines (srcB code)).map bytes) (by
      intro y hy
      obtain ⟨x, hx, rfl⟩ := List.mem_map.mp hy
      rw [bytes_size]
      exact hsize x hx)
    simp only [List.length_map] at this
    have h2 : (lines (srcB code)).length * (40 + 1) ≤ 100 * 41 := Nat.mul_le_mul_right _ hlen
    omega
  have htl := tooLong_not (by omega : (srcB code).size ≤ 40000) hlen
  have hall : (lines (srcB code)).map rdLine = ([hd1, hd2, hd3, hd4, hd5] ++ (fs ++ ([enP, mn] ++ (ms ++ [enP, zPL])))).map some := by
    rw [hlines, List.map_append, hrd]
    simp [empty_read]
  have hforms := rForms_mk _ _ 0 [zPL] hall
  have hMt1 : passAll fs 6 [⟨5, 3, false⟩] = [⟨5, 3, false⟩] := by
    obtain ⟨b, e, h⟩ := f3
    rw [e, All2.nilr h]
  have hMt2 : passAll ms (fs.length + 8) [⟨fs.length + 7, 3, false⟩] = [⟨fs.length + 7, 3, false⟩] := by
    obtain ⟨b, e, h⟩ := m3
    rw [e, All2.nilr h]
  have hnest : nestFrom ([hd1, hd2, hd3, hd4, hd5] ++ (fs ++ ([enP, mn] ++ (ms ++ [enP, zPL])))) 1 [] [zPL] = (0, [zPL] ++ [hd1, hd2, hd3, hd4, hd5] ++ placeAll fs 6 [⟨5, 3, false⟩] ++ [⟨enP.toks, enP.form, 0, 5, 5⟩, mn] ++ placeAll ms (fs.length + 8) [⟨fs.length + 7, 3, false⟩] ++ [⟨enP.toks, enP.form, 0, fs.length + 7, fs.length + 7⟩, zPL], []) := by
    rw [nestFrom_all [hd1, hd2, hd3, hd4, hd5] 1 [] [zPL] _ ⟨rfl, rfl, rfl, rfl, rfl, trivial⟩]
    rw [show passAll [hd1, hd2, hd3, hd4, hd5] 1 [] = [⟨5, 3, false⟩] from rfl, show placeAll [hd1, hd2, hd3, hd4, hd5] 1 [] = [hd1, hd2, hd3, hd4, hd5] from rfl]
    rw [show 1 + [hd1, hd2, hd3, hd4, hd5].length = 6 from rfl]
    rw [nestFrom_all fs 6 [⟨5, 3, false⟩] _ _ f2, hMt1]
    rw [nestFrom_all [enP, mn] (6 + fs.length) [⟨5, 3, false⟩] _ _ ⟨rfl, rfl, trivial⟩]
    have e1 : passAll [enP, mn] (6 + fs.length) [⟨5, 3, false⟩] = [⟨fs.length + 7, 3, false⟩] := by
      show [(⟨6 + fs.length + 1, 3, false⟩ : Blk)] = _
      rw [show 6 + fs.length + 1 = fs.length + 7 by omega]
    have e2 : placeAll [enP, mn] (6 + fs.length) [⟨5, 3, false⟩] = [⟨enP.toks, enP.form, 0, 5, 5⟩, mn] := rfl
    rw [e1, e2, show 6 + fs.length + [enP, mn].length = fs.length + 8 by simp; omega]
    rw [nestFrom_all ms (fs.length + 8) [⟨fs.length + 7, 3, false⟩] _ _ m2, hMt2]
    have e3 := nestFrom_all [enP, zPL] (fs.length + 8 + ms.length) [⟨fs.length + 7, 3, false⟩] ([zPL] ++ [hd1, hd2, hd3, hd4, hd5] ++ placeAll fs 6 [⟨5, 3, false⟩] ++ [⟨enP.toks, enP.form, 0, 5, 5⟩, mn] ++ placeAll ms (fs.length + 8) [⟨fs.length + 7, 3, false⟩]) [] ⟨rfl, rfl, trivial⟩
    rw [List.append_nil] at e3
    rw [e3]
    have e4 : placeAll [enP, zPL] (fs.length + 8 + ms.length) [⟨fs.length + 7, 3, false⟩] = [⟨enP.toks, enP.form, 0, fs.length + 7, fs.length + 7⟩, zPL] := rfl
    rw [e4]
    rfl
  have M : Made ([zPL] ++ [hd1, hd2, hd3, hd4, hd5] ++ placeAll fs 6 [⟨5, 3, false⟩] ++ [⟨enP.toks, enP.form, 0, 5, 5⟩, mn] ++ placeAll ms (fs.length + 8) [⟨fs.length + 7, 3, false⟩] ++ [⟨enP.toks, enP.form, 0, fs.length + 7, fs.length + 7⟩, zPL]) (placeAll fs 6 [⟨5, 3, false⟩]) (placeAll ms (fs.length + 8) [⟨fs.length + 7, 3, false⟩]) := by
    refine ⟨?_, f4, ?_⟩
    · rw [placeAll_len]
      simp
    · rw [placeAll_len]
      exact m4
  refine ⟨_, _, _, ?_, M, hlen, hsize, hsz, htl⟩
  unfold readS
  rw [if_neg (by rw [htl]; simp), hforms]
  unfold readForms
  rw [if_neg (by simp)]
  simp only [List.singleton_append, List.drop_one, List.tail_cons]
  rw [hnest]
  unfold readNest
  rw [if_neg (by simp), if_neg (by simp)]
  exact M.names

/-- What the statement Tidied asks, of the plain functions. -/
theorem tidied_plain (code : List Int) (t : ByteArray) (n : Nat) (m : List UInt8) (hn : n ≤ 1) (e : bytes t = List.replicate n 32 ++ m) (hm : Loose (bytes (srcB code)) m) :
    ∃ pls, readS (srcB code) = (0, 0, pls) ∧ readS t = (0, 0, pls) ∧ readS (tidyP pls) = (0, 0, pls) ∧ bareL (bytes (tidyP pls)) = bareL (bytes (srcB code)) ∧ 2 ≤ (stopsP pls).length ∧ (tidyP pls).size ≤ 40000 := by
  obtain ⟨pls, fb, mb, h1, M, hl, hsh, hsz, htl⟩ := src_read code
  have hts : t.size ≤ 40000 := by
    have h2 := hm.size
    rw [bytes_size] at h2
    rw [← bytes_size, e]
    simp only [List.length_append, List.length_replicate]
    omega
  obtain ⟨g1, g2, g3⟩ := read_tidy h1 htl hl (fun x hx => by have := hsh x hx; omega)
  exact ⟨pls, h1, read_wide h1 htl hl hts n m e hm, g1, g2, M.stops, g3⟩
end Rt
end Go.Proofs.YtbpajiljfppjcaaGreatDoor

namespace Go.Proofs.YtbpajiljfppjcaaGreatDoor

theorem Rt.made_src (code : List Int) : ∃ pls, Rt.readS (Rt.srcB code) = (0, 0, pls) ∧ (Rt.srcB code).size ≤ 4100 := by
  obtain ⟨pls, _, _, h1, _, _, _, h2, _⟩ := Rt.src_read code
  exact ⟨pls, h1, h2⟩
end Go.Proofs.YtbpajiljfppjcaaGreatDoor

namespace Go.Proofs.YtbpajiljfppjcaaGreatDoor
open Go.ChangeShapes Go.WideShapes Go.ChangeAt Go.RowKit

theorem Tryz.own : ownKnob Tryz.prog.godebug = none := by kernel_rfl
theorem Tryz.laidOut : laidOutB Tryz.prog = true := by kernel_rfl
theorem Tryz.cellsInt : Tryz.prog.cellsOf 3 = 1 := by kernel_rfl
theorem Tryz.bytesInt : Tryz.prog.bytesOf 3 = 8 := by kernel_rfl
/-- A list of whole numbers that is handed in. -/
theorem ints_arg {H : Type} {enc : TypeId × Value → H} {W : World} {a0 : Option Addr} {len cap : Nat} {d0 : DataW H} {p : List MemPlace} (h0 : DataW.Trod enc Tryz.prog W 0 (fun _ => true) true 22 (.slice a0 len cap) d0 p) : ∃ xs, IntsR W W.heap.size (.slice a0 len cap) xs ∧ (xs.length = 0 ∨ ∃ e s, d0 = .slice e s ∧ e.length = xs.length) := by
  obtain ⟨fuel, hf⟩ := h0
  rcases Go.Deep.open_slice1 Tryz.underlying22 Tryz.cellsInt hf with ⟨hcs, hx⟩ | ⟨a, len', cap', m, n, V, D, Pl, hcs, hA, hl, hm, hmm, hx, hcells⟩
  · simp [Value.cells] at hcs
    obtain ⟨rfl, rfl, rfl⟩ := hcs
    exact ⟨[], ⟨none, 0, rfl, by simp, by decide, by simp, Or.inl rfl⟩, Or.inl rfl⟩
  · simp [Value.cells] at hcs
    obtain ⟨rfl, rfl, rfl⟩ := hcs
    simp only [if_true] at hmm
    subst hmm
    obtain ⟨f, hfo⟩ := Go.Deep.choose_lt (α := Int) (n := m) (p := fun i k => W.cell? (a.add i) = some (.int .i64 k) ∧ -9223372036854775808 ≤ k ∧ k ≤ 9223372036854775807) (fun i hi => by
      obtain ⟨h1, h2⟩ := hcells i hi
      obtain ⟨k, hk, hk2, hk3⟩ := DataW.trod_int Tryz.underlying3 h2
      simp at hk
      rw [hk] at h1
      exact ⟨k, h1, bounds_i64 hk3⟩)
    injection hx with hx1 hx2
    refine ⟨(List.range len).map f, ⟨some a, m, by simp, by simpa using hl, hm, ?_, ?_⟩, Or.inr ⟨_, _, hx1, by simp⟩⟩
    · intro x hx
      simp at hx
      obtain ⟨i, hi, rfl⟩ := hx
      exact (hfo i (by omega)).2
    · by_cases hl0 : len = 0
      · subst hl0; exact Or.inl rfl
      · obtain ⟨b, off, spot⟩ := a
        have hspot : spot = none := by
          have := World.cell?_spot (hfo 0 (by omega)).1
          simpa [Addr.add] using this
        subst hspot
        have hblk : b < W.heap.size := by
          have hc0 := (hfo 0 (by omega)).1
          simp only [Addr.add] at hc0
          exact cellb_lt hc0
        refine Or.inr ⟨b, off, rfl, hblk, hblk, fun j hj => ?_⟩
        simp at hj
        simp only [List.getElem_map, List.getElem_range]
        have := (hfo j (by omega)).1
        rw [show (⟨b, off, none⟩ : Addr).add j = ⟨b, off + j, none⟩ by simp [Addr.add]] at this
        exact this
/-- How long a list may be. -/
theorem ints_len {H : Type} {ts : List TypeId} {ds : List (DataW H)} (hs : (DataW.weightsEach Tryz.prog ts ds).all (· ≤ reachBytes) = true) {j : Nat} {d : DataW H} {xs : List Int} (ht : ts[j]? = some 22) (hd : ds[j]? = some d) (h : xs.length = 0 ∨ ∃ e s, d = .slice e s ∧ e.length = xs.length) : xs.length ≤ 70368744177664 := by
  rcases h with h | ⟨e, s, rfl, h⟩
  · omega
  · have h1 := sized_slice hs ht hd Tryz.underlying22
    have h2 := reachBytes_lt
    rw [Tryz.bytesInt] at h1
    omega
section
variable {H : Type} {enc : TypeId × Value → H} {P : Program} {w : World} {base : Nat} {spare : Nat → Bool} {held : Bool}
theorem trodAll_five {t0 t1 t2 t3 t4 : TypeId} {args : Array Value} {ds : List (DataW H)} {ps : List MemPlace} (h : DataW.TrodAll enc P w base spare held [t0, t1, t2, t3, t4] args.toList ds ps) :
    ∃ v0 v1 v2 v3 v4 d0 d1 d2 d3 d4 p0 p1 p2 p3 p4, args = #[v0, v1, v2, v3, v4] ∧ ds = [d0, d1, d2, d3, d4] ∧ ps = p0 ++ p1 ++ p2 ++ p3 ++ p4 ∧ DataW.Trod enc P w base spare held t0 v0 d0 p0 ∧ DataW.Trod enc P w base spare held t1 v1 d1 p1 ∧ DataW.Trod enc P w base spare held t2 v2 d2 p2 ∧ DataW.Trod enc P w base spare held t3 v3 d3 p3 ∧ DataW.Trod enc P w base spare held t4 v4 d4 p4 := by
  obtain ⟨v0, vs0, d0, ds0, p0, q0, hargs, rfl, rfl, h0, r0⟩ := trodAll_cons h
  obtain ⟨v1, vs1, d1, ds1, p1, q1, rfl, rfl, rfl, h1, r1⟩ := trodAll_cons r0
  obtain ⟨v2, vs2, d2, ds2, p2, q2, rfl, rfl, rfl, h2, r2⟩ := trodAll_cons r1
  obtain ⟨v3, vs3, d3, ds3, p3, q3, rfl, rfl, rfl, h3, r3⟩ := trodAll_cons r2
  obtain ⟨v4, vs4, d4, ds4, p4, q4, rfl, rfl, rfl, h4, r4⟩ := trodAll_cons r3
  obtain ⟨rfl, rfl, rfl⟩ := trodAll_nil r4
  exact ⟨v0, v1, v2, v3, v4, d0, d1, d2, d3, d4, p0, p1, p2, p3, p4, by cases args; simp_all, rfl, by simp, h0, h1, h2, h3, h4⟩
theorem trodAll_seven {t0 t1 t2 t3 t4 t5 t6 : TypeId} {args : Array Value} {ds : List (DataW H)} {ps : List MemPlace} (h : DataW.TrodAll enc P w base spare held [t0, t1, t2, t3, t4, t5, t6] args.toList ds ps) :
    ∃ v0 v1 v2 v3 v4 v5 v6 d0 d1 d2 d3 d4 d5 d6 p0 p1 p2 p3 p4 p5 p6, args = #[v0, v1, v2, v3, v4, v5, v6] ∧ ds = [d0, d1, d2, d3, d4, d5, d6] ∧ ps = p0 ++ p1 ++ p2 ++ p3 ++ p4 ++ p5 ++ p6 ∧ DataW.Trod enc P w base spare held t0 v0 d0 p0 ∧ DataW.Trod enc P w base spare held t1 v1 d1 p1 ∧ DataW.Trod enc P w base spare held t2 v2 d2 p2 ∧ DataW.Trod enc P w base spare held t3 v3 d3 p3 ∧ DataW.Trod enc P w base spare held t4 v4 d4 p4 ∧ DataW.Trod enc P w base spare held t5 v5 d5 p5 ∧ DataW.Trod enc P w base spare held t6 v6 d6 p6 := by
  obtain ⟨v0, vs0, d0, ds0, p0, q0, hargs, rfl, rfl, h0, r0⟩ := trodAll_cons h
  obtain ⟨v1, vs1, d1, ds1, p1, q1, rfl, rfl, rfl, h1, r1⟩ := trodAll_cons r0
  obtain ⟨v2, vs2, d2, ds2, p2, q2, rfl, rfl, rfl, h2, r2⟩ := trodAll_cons r1
  obtain ⟨v3, vs3, d3, ds3, p3, q3, rfl, rfl, rfl, h3, r3⟩ := trodAll_cons r2
  obtain ⟨v4, vs4, d4, ds4, p4, q4, rfl, rfl, rfl, h4, r4⟩ := trodAll_cons r3
  obtain ⟨v5, vs5, d5, ds5, p5, q5, rfl, rfl, rfl, h5, r5⟩ := trodAll_cons r4
  obtain ⟨v6, vs6, d6, ds6, p6, q6, rfl, rfl, rfl, h6, r6⟩ := trodAll_cons r5
  obtain ⟨rfl, rfl, rfl⟩ := trodAll_nil r6
  exact ⟨v0, v1, v2, v3, v4, v5, v6, d0, d1, d2, d3, d4, d5, d6, p0, p1, p2, p3, p4, p5, p6, by cases args; simp_all, rfl, by simp, h0, h1, h2, h3, h4, h5, h6⟩
theorem trodAll_mk5 {t0 t1 t2 t3 t4 : TypeId} {v0 v1 v2 v3 v4 : Value} {d0 d1 d2 d3 d4 : DataW H} {p0 p1 p2 p3 p4 : List MemPlace} (h0 : DataW.Trod enc P w base spare held t0 v0 d0 p0) (h1 : DataW.Trod enc P w base spare held t1 v1 d1 p1) (h2 : DataW.Trod enc P w base spare held t2 v2 d2 p2) (h3 : DataW.Trod enc P w base spare held t3 v3 d3 p3) (h4 : DataW.Trod enc P w base spare held t4 v4 d4 p4) : DataW.TrodAll enc P w base spare held [t0, t1, t2, t3, t4] [v0, v1, v2, v3, v4] [d0, d1, d2, d3, d4] (p0 ++ (p1 ++ (p2 ++ (p3 ++ p4)))) := ⟨p0, _, h0, trodAll_mk4 h1 h2 h3 h4, rfl⟩
theorem trodAll_mk7 {t0 t1 t2 t3 t4 t5 t6 : TypeId} {v0 v1 v2 v3 v4 v5 v6 : Value} {d0 d1 d2 d3 d4 d5 d6 : DataW H} {p0 p1 p2 p3 p4 p5 p6 : List MemPlace} (h0 : DataW.Trod enc P w base spare held t0 v0 d0 p0) (h1 : DataW.Trod enc P w base spare held t1 v1 d1 p1) (h2 : DataW.Trod enc P w base spare held t2 v2 d2 p2) (h3 : DataW.Trod enc P w base spare held t3 v3 d3 p3) (h4 : DataW.Trod enc P w base spare held t4 v4 d4 p4) (h5 : DataW.Trod enc P w base spare held t5 v5 d5 p5) (h6 : DataW.Trod enc P w base spare held t6 v6 d6 p6) : DataW.TrodAll enc P w base spare held [t0, t1, t2, t3, t4, t5, t6] [v0, v1, v2, v3, v4, v5, v6] [d0, d1, d2, d3, d4, d5, d6] (p0 ++ (p1 ++ (p2 ++ (p3 ++ (p4 ++ (p5 ++ p6)))))) := ⟨p0, _, h0, ⟨p1, _, h1, trodAll_mk5 h2 h3 h4 h5 h6, rfl⟩, rfl⟩
end
end Go.Proofs.YtbpajiljfppjcaaGreatDoor

