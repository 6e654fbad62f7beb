/- The sources that are made out of numbers are right ones: their lines, their blocks. No program, no walk. -/
import Derived.Test.YtbpajiljfppjcaaGreatDoorTdA
import Derived.Test.YtbpajiljfppjcaaGreatDoorTdC
namespace Go.Proofs.YtbpajiljfppjcaaGreatDoor
namespace Rt

/-- All lines that a procedure's numbers can make are good ones. -/
structure Goods (pars vars : List ByteArray) : Prop where
  fi : ∀ a ∈ vars, ∀ n ∈ digs, lnGood pars 5 (ifT a n) = true
  wh : ∀ a ∈ vars, ∀ n ∈ digs, lnGood pars 7 (whT a n) = true
  inc : ∀ a ∈ vars, lnGood pars 8 (incT a) = true
  pr : ∀ a ∈ vars, ∀ n ∈ digs, lnGood pars 10 (prT a n) = true
  dv : ∀ a ∈ vars, ∀ n ∈ digs, lnGood pars 8 (dvT a n) = true
  pl : ∀ a ∈ vars, ∀ b ∈ vars, ∀ n ∈ digs, ∀ k : Int, 0 ≤ k → k < 8 → ∃ q : Int, 8 ≤ q ∧ q ≤ 12 ∧ lnGood pars q (plainE k a b n) = true
  el : lnGood pars 6 elT = true
  en : lnGood pars 4 enT = true

theorem all1 {α : Type} {A : List α} {f : α → Bool} (h : A.all f = true) {a : α} (ha : a ∈ A) : f a = true := List.all_eq_true.mp h a ha
theorem pl0 (a b n : ByteArray) : plainE 0 a b n = plainE 0 a ⟨#[]⟩ n := by simp [plainE]
theorem pl1 (a b n : ByteArray) : plainE 1 a b n = plainE 1 a b ⟨#[]⟩ := by simp [plainE]
theorem pl2 (a b n : ByteArray) : plainE 2 a b n = plainE 2 a b ⟨#[]⟩ := by simp [plainE]
theorem pl3 (a b n : ByteArray) : plainE 3 a b n = plainE 3 a ⟨#[]⟩ n := by simp [plainE]
theorem pl4 (a b n : ByteArray) : plainE 4 a b n = plainE 4 a ⟨#[]⟩ ⟨#[]⟩ := by simp [plainE]
theorem pl5 (a b n : ByteArray) : plainE 5 a b n = plainE 5 a ⟨#[]⟩ ⟨#[]⟩ := by simp [plainE]
theorem pl6 (a b n : ByteArray) : plainE 6 a b n = plainE 6 a ⟨#[]⟩ n := by simp [plainE]
theorem goods_of {pars vars names : List ByteArray} (hsub : ∀ a ∈ vars, a ∈ names)
    (g1 : (names.all fun a => digs.all fun n => lnGood pars 5 (ifT a n)) = true) (g2 : (names.all fun a => digs.all fun n => lnGood pars 7 (whT a n)) = true)
    (g3 : (names.all fun a => lnGood pars 8 (incT a)) = true) (g4 : (names.all fun a => digs.all fun n => lnGood pars 10 (prT a n)) = true) (g5 : (names.all fun a => digs.all fun n => lnGood pars 8 (dvT a n)) = true)
    (q0 : (names.all fun a => digs.all fun n => lnGood pars 8 (plainE 0 a ⟨#[]⟩ n)) = true) (q1 : (names.all fun a => names.all fun b => lnGood pars 8 (plainE 1 a b ⟨#[]⟩)) = true) (q2 : (names.all fun a => names.all fun b => lnGood pars 9 (plainE 2 a b ⟨#[]⟩)) = true)
    (q3 : (names.all fun a => digs.all fun n => lnGood pars 8 (plainE 3 a ⟨#[]⟩ n)) = true) (q4 : (names.all fun a => lnGood pars 10 (plainE 4 a ⟨#[]⟩ ⟨#[]⟩)) = true) (q5 : (names.all fun a => lnGood pars 11 (plainE 5 a ⟨#[]⟩ ⟨#[]⟩)) = true)
    (q6 : (names.all fun a => digs.all fun n => lnGood pars 12 (plainE 6 a ⟨#[]⟩ n)) = true) (q7 : (names.all fun a => names.all fun b => digs.all fun n => lnGood pars 8 (plainE 7 a b n)) = true)
    (g6 : lnGood pars 6 elT = true) (g7 : lnGood pars 4 enT = true) : Goods pars vars where
  fi a ha n hn := all1 (all1 g1 (hsub a ha)) hn
  wh a ha n hn := all1 (all1 g2 (hsub a ha)) hn
  inc a ha := all1 g3 (hsub a ha)
  pr a ha n hn := all1 (all1 g4 (hsub a ha)) hn
  dv a ha n hn := all1 (all1 g5 (hsub a ha)) hn
  pl a ha b hb n hn k h0 h8 := by
    have hk : k = 0 ∨ k = 1 ∨ k = 2 ∨ k = 3 ∨ k = 4 ∨ k = 5 ∨ k = 6 ∨ k = 7 := by omega
    rcases hk with rfl | rfl | rfl | rfl | rfl | rfl | rfl | rfl
    · exact ⟨8, by omega, by omega, by rw [pl0]; exact all1 (all1 q0 (hsub a ha)) hn⟩
    · exact ⟨8, by omega, by omega, by rw [pl1]; exact all1 (all1 q1 (hsub a ha)) (hsub b hb)⟩
    · exact ⟨9, by omega, by omega, by rw [pl2]; exact all1 (all1 q2 (hsub a ha)) (hsub b hb)⟩
    · exact ⟨8, by omega, by omega, by rw [pl3]; exact all1 (all1 q3 (hsub a ha)) hn⟩
    · exact ⟨10, by omega, by omega, by rw [pl4]; exact all1 q4 (hsub a ha)⟩
    · exact ⟨11, by omega, by omega, by rw [pl5]; exact all1 q5 (hsub a ha)⟩
    · exact ⟨12, by omega, by omega, by rw [pl6]; exact all1 (all1 q6 (hsub a ha)) hn⟩
    · exact ⟨8, by omega, by omega, all1 (all1 (all1 q7 (hsub a ha)) (hsub b hb)) hn⟩
  el := g6
  en := g7
theorem goodsM : Goods [] varsM := goods_of (fun _ h => h) good_if_m good_wh_m good_inc_m good_pr_m good_dv_m good_p0_m good_p1_m good_p2_m good_p3_m good_p4_m good_p5_m good_p6_m good_p7_m good_el_m good_en_m
theorem goodsF : Goods parsF varsF := goods_of (names := namesF) (fun a h => by
  simp only [varsF, namesF, List.mem_cons, List.not_mem_nil, or_false] at h ⊢
  rcases h with h | h | h | h | h <;> simp [h]) good_if_f good_wh_f good_inc_f good_pr_f good_dv_f good_p0_f good_p1_f good_p2_f good_p3_f good_p4_f good_p5_f good_p6_f good_p7_f good_el_f good_en_f

theorem digit_in (d : Int) (h0 : 0 ≤ d) (h1 : d < 10) : digitT d ∈ digs := by
  have hd : d = 0 ∨ d = 1 ∨ d = 2 ∨ d = 3 ∨ d = 4 ∨ d = 5 ∨ d = 6 ∨ d = 7 ∨ d = 8 ∨ d = 9 := by omega
  rcases hd with rfl | rfl | rfl | rfl | rfl | rfl | rfl | rfl | rfl | rfl <;> simp [digs, digitT]
theorem var_in (vars : List ByteArray) (i : Int) (h0 : 0 ≤ i) (h1 : i < vars.length) : varE vars i ∈ vars := by
  unfold varE
  rw [List.getElem?_eq_getElem (by omega)]
  exact List.getElem_mem _

/-- Lines that a procedure's numbers make, and the blocks that are open ahead of them and behind them. -/
inductive Emit (pars : List ByteArray) : List Int → List ByteArray → List Int → Prop
  | nil {o} : Emit pars o [] o
  | plain {o s ls o'} {k : Int} : lnGood pars k s = true → 8 ≤ k → k ≤ 12 → Emit pars o ls o' → Emit pars o (s :: ls) o'
  | fi {o s ls o'} : lnGood pars 5 s = true → Emit pars (o ++ [1]) ls o' → Emit pars o (s :: ls) o'
  | wh {o s ls o'} : lnGood pars 7 s = true → Emit pars (o ++ [3]) ls o' → Emit pars o (s :: ls) o'
  | el {o s ls o'} : lnGood pars 6 s = true → topE o = 1 → Emit pars (o.dropLast ++ [2]) ls o' → Emit pars o (s :: ls) o'
  | en {o s ls o'} : lnGood pars 4 s = true → o ≠ [] → Emit pars o.dropLast ls o' → Emit pars o (s :: ls) o'
theorem Emit.trans {pars : List ByteArray} {o a o1 b o2} (h : Emit pars o a o1) (h2 : Emit pars o1 b o2) : Emit pars o (a ++ b) o2 := by
  induction h with
  | nil => exact h2
  | plain a1 a2 a3 _ ih => exact Emit.plain a1 a2 a3 (ih h2)
  | fi a1 _ ih => exact Emit.fi a1 (ih h2)
  | wh a1 _ ih => exact Emit.wh a1 (ih h2)
  | el a1 a2 _ ih => exact Emit.el a1 a2 (ih h2)
  | en a1 a2 _ ih => exact Emit.en a1 a2 (ih h2)

theorem block_emit {pars vars : List ByteArray} (g : Goods pars vars) (o : List Int) (k : Int) (a n : ByteArray) (ha : a ∈ vars) (hn : n ∈ digs) : Emit pars o (blockE o k a n).1 (blockE o k a n).2 ∧ (blockE o k a n).1.length + (blockE o k a n).2.length ≤ o.length + 3 := by
  unfold blockE
  split
  · exact ⟨Emit.fi (g.fi a ha n hn) Emit.nil, by simp; omega⟩
  · split
    · exact ⟨Emit.wh (g.wh a ha n hn) (Emit.plain (g.inc a ha) (by omega) (by omega) Emit.nil), by simp; omega⟩
    · split
      · next h => exact ⟨Emit.el g.el h.2 Emit.nil, by simp; omega⟩
      · split
        · next h =>
          refine ⟨Emit.en g.en ?_ Emit.nil, by simp; omega⟩
          intro e
          rw [e] at h
          simp [topE] at h
        · split
          · exact ⟨Emit.plain (g.pr a ha n hn) (by omega) (by omega) Emit.nil, by simp; omega⟩
          · exact ⟨Emit.plain (g.dv a ha n hn) (by omega) (by omega) Emit.nil, by simp; omega⟩
theorem step_emit {pars vars : List ByteArray} (g : Goods pars vars) (hv : 0 < vars.length) (c : Int) (o : List Int) : Emit pars o (stepE vars c o).1 (stepE vars c o).2 ∧ (stepE vars c o).1.length + (stepE vars c o).2.length ≤ o.length + 3 := by
  have hlen : (0 : Int) < vars.length := by omega
  unfold stepE
  simp only
  have hv0 : 0 ≤ pickP c 1099511627776 := Int.emod_nonneg _ (by decide)
  generalize pickP c 1099511627776 = v at hv0
  have ha := var_in vars (v / 12 % vars.length) (Int.emod_nonneg _ (by omega)) (Int.emod_lt_of_pos _ hlen)
  have hb := var_in vars (v / 60 % vars.length) (Int.emod_nonneg _ (by omega)) (Int.emod_lt_of_pos _ hlen)
  have hn := digit_in (v / 300 % 10) (Int.emod_nonneg _ (by decide)) (Int.emod_lt_of_pos _ (by decide))
  split
  · next h =>
    obtain ⟨q, q1, q2, q3⟩ := g.pl _ ha _ hb _ hn (v % 12) (Int.emod_nonneg _ (by decide)) h
    exact ⟨Emit.plain q3 q1 q2 Emit.nil, by simp; omega⟩
  · exact block_emit g o _ _ _ ha hn
theorem body_emit {pars vars : List ByteArray} (g : Goods pars vars) (hv : 0 < vars.length) : ∀ (code o : List Int), Emit pars o (bodyE vars code o).1 (bodyE vars code o).2 ∧ (bodyE vars code o).1.length + (bodyE vars code o).2.length ≤ o.length + 3 * code.length
  | [], o => ⟨Emit.nil, by simp [bodyE]⟩
  | c :: r, o => by
    obtain ⟨h1, h2⟩ := step_emit g hv c o
    obtain ⟨h3, h4⟩ := body_emit g hv r (stepE vars c o).2
    exact ⟨h1.trans h3, by simp only [bodyE, List.length_append, List.length_cons]; omega⟩
theorem ends_emit {pars : List ByteArray} (h : lnGood pars 4 enT = true) : ∀ (n : Nat) (o : List Int), o.length = n → Emit pars o (List.replicate n enT) []
  | 0, o, e => by rw [List.eq_nil_of_length_eq_zero e]; exact Emit.nil
  | n + 1, o, e => by
    rw [List.replicate_succ]
    exact Emit.en h (by intro x; rw [x] at e; simp at e) (ends_emit h n o.dropLast (by simp; omega))
/-- A procedure's lines but for its end. -/
def innerL (vars : List ByteArray) (code : List Int) : List ByteArray := (bodyE vars (code.take 14) []).1 ++ List.replicate (bodyE vars (code.take 14) []).2.length enT
theorem bodyL_inner (vars : List ByteArray) (code : List Int) : bodyL vars code = innerL vars code ++ [enT] := by
  unfold bodyL innerL
  rw [List.append_assoc, List.replicate_succ']
theorem inner_emit {pars vars : List ByteArray} (g : Goods pars vars) (hv : 0 < vars.length) (code : List Int) : Emit pars [] (innerL vars code) [] ∧ (innerL vars code).length ≤ 42 := by
  obtain ⟨h1, h2⟩ := body_emit g hv (code.take 14) []
  refine ⟨h1.trans (ends_emit g.en _ _ rfl), ?_⟩
  unfold innerL
  have : (code.take 14).length ≤ 14 := by simp; omega
  simp only [List.length_append, List.length_replicate, List.length_nil] at h2 ⊢
  omega

/-- Lines placed one after the other. -/
def placeAll : List PL → Nat → List Blk → List PL
  | [], _, _ => []
  | p :: r, n, bs => placed bs p :: placeAll r (n + 1) (passed bs n p.form.kind)
def passAll : List PL → Nat → List Blk → List Blk
  | [], _, bs => bs
  | p :: r, n, bs => passAll r (n + 1) (passed bs n p.form.kind)
def admAll : List PL → Nat → List Blk → Prop
  | [], _, _ => True
  | p :: r, n, bs => adm bs p.form.kind = true ∧ admAll r (n + 1) (passed bs n p.form.kind)
theorem nestFrom_all : ∀ (rem : List PL) (n : Nat) (bs : List Blk) (acc tail : List PL), admAll rem n bs → nestFrom (rem ++ tail) n bs acc = nestFrom tail (n + rem.length) (passAll rem n bs) (acc ++ placeAll rem n bs)
  | [], n, bs, acc, tail, _ => by simp [passAll, placeAll]
  | p :: r, n, bs, acc, tail, h => by
    rw [List.cons_append, nestFrom, if_pos h.1, nestFrom_all r (n + 1) _ _ tail h.2, passAll, placeAll]
    simp only [List.length_cons, List.append_assoc, List.singleton_append]
    rw [show n + 1 + r.length = n + (r.length + 1) by omega]
theorem placeAll_len : ∀ (rem : List PL) (n : Nat) (bs : List Blk), (placeAll rem n bs).length = rem.length
  | [], _, _ => rfl
  | p :: r, n, bs => by rw [placeAll]; simp [placeAll_len r]

theorem good_line {pars : List ByteArray} {k : Int} {s : ByteArray} (h : lnGood pars k s = true) : ∃ p, rdLine s = some p ∧ p.form.kind = k ∧ fmGood pars p.form = true ∧ s.size ≤ 40 ∧ p.depth = 0 ∧ p.opener = 0 ∧ p.proc = 0 := by
  unfold lnGood at h
  cases e : rdLine s with
  | none => rw [e] at h; cases h
  | some p =>
    rw [e] at h
    simp only [Bool.and_eq_true, decide_eq_true_eq] at h
    obtain ⟨⟨⟨⟨⟨h1, h2⟩, h3⟩, h4⟩, h5⟩, h6⟩ := h
    exact ⟨p, rfl, h1, h2, h3, h4, h5, h6⟩

/-- The blocks that are open in a procedure that begins at line P. -/
def Mt (P : Nat) (o : List Int) (bs : List Blk) : Prop := ∃ bs', bs = ⟨P, 3, false⟩ :: bs' ∧ All2 (fun (o : Int) (b : Blk) => o = 1 → b.kind = 5 ∧ b.els = false) o bs'
def InP (P : Nat) (pars : List ByteArray) (q : PL) : Prop := fmGood pars q.form = true ∧ q.proc = P
theorem All2.snoc {α β : Type} {R : α → β → Prop} {x : α} {y : β} (h : R x y) : ∀ (a : List α) (b : List β), All2 R a b → All2 R (a ++ [x]) (b ++ [y])
  | [], [], _ => ⟨h, trivial⟩
  | [], _ :: _, h => h.elim
  | _ :: _, [], h => h.elim
  | _ :: a, _ :: b, h' => ⟨h'.1, All2.snoc h a b h'.2⟩
theorem All2.drop {α β : Type} {R : α → β → Prop} : ∀ (a : List α) (b : List β), All2 R a b → All2 R a.dropLast b.dropLast
  | [], [], _ => trivial
  | [], _ :: _, h => h.elim
  | _ :: _, [], h => h.elim
  | [_], [_], _ => trivial
  | [_], _ :: _ :: _, h => h.2.elim
  | _ :: _ :: _, [_], h => h.2.elim
  | _ :: x2 :: a, _ :: y2 :: b, h => ⟨h.1, All2.drop (x2 :: a) (y2 :: b) h.2⟩
theorem All2.last {α β : Type} {R : α → β → Prop} (d : α) (e : β) : ∀ (a : List α) (b : List β), All2 R a b → a ≠ [] → b ≠ [] ∧ R (a.getLastD d) (b.getLastD e)
  | [], _, _, h => absurd rfl h
  | _ :: _, [], h, _ => h.elim
  | [x], [y], h, _ => ⟨by simp, by simpa using h.1⟩
  | [_], _ :: _ :: _, h, _ => h.2.elim
  | _ :: _ :: _, [_], h, _ => h.2.elim
  | _ :: x2 :: a, _ :: y2 :: b, h, _ => by
    have := All2.last d e (x2 :: a) (y2 :: b) h.2 (by simp)
    refine ⟨by simp, ?_⟩
    simpa using this.2
theorem All2.nilr {α β : Type} {R : α → β → Prop} {b : List β} (h : All2 R [] b) : b = [] := by
  cases b with
  | nil => rfl
  | cons _ _ => exact h.elim
theorem drop_cons {α : Type} (x : α) (l : List α) (h : l ≠ []) : (x :: l).dropLast = x :: l.dropLast := by
  cases l with
  | nil => exact absurd rfl h
  | cons _ _ => rfl
theorem placed_in {P : Nat} {pars : List ByteArray} {o : List Int} {bs : List Blk} {p : PL} (hm : Mt P o bs) (h : fmGood pars p.form = true) : InP P pars (placed bs p) := by
  obtain ⟨bs', rfl, _⟩ := hm
  refine ⟨by rw [(placed_same _ p).2]; exact h, ?_⟩
  unfold placed
  rw [if_neg (by simp)]
  split <;> rfl
theorem adm_in {P : Nat} {o : List Int} {bs : List Blk} {k : Int} (hm : Mt P o bs) (h4 : 4 ≤ k) (h6 : k = 6 → topE o = 1) : adm bs k = true := by
  obtain ⟨bs', rfl, h2⟩ := hm
  unfold adm
  rw [if_neg (by omega), if_neg (by omega), if_neg (by simp)]
  by_cases hk : k = 6
  · rw [if_pos hk]
    have ht := h6 hk
    have hne : o ≠ [] := by intro e; rw [e] at ht; simp [topE] at ht
    obtain ⟨hb, hl⟩ := All2.last 0 (⟨0, 0, false⟩ : Blk) _ _ h2 hne
    have hl' := hl ht
    have e : lastOr (⟨P, 3, false⟩ :: bs') = bs'.getLastD ⟨0, 0, false⟩ := by
      unfold lastOr
      cases bs' with
      | nil => exact absurd rfl hb
      | cons x r => simp
    rw [e, hl'.1, hl'.2]
    rfl
  · rw [if_neg hk]

theorem emit_nest {P : Nat} {pars : List ByteArray} {o : List Int} {ls : List ByteArray} {o' : List Int} (h : Emit pars o ls o') : ∀ (n : Nat) (bs : List Blk), Mt P o bs → ∃ ps, ls.map rdLine = ps.map some ∧ admAll ps n bs ∧ Mt P o' (passAll ps n bs) ∧ (∀ q ∈ placeAll ps n bs, InP P pars q) ∧ ∀ s ∈ ls, s.size ≤ 40 := by
  have cons : ∀ {s : ByteArray} {ls : List ByteArray} {k : Int} {o o1 o' : List Int} (n : Nat) (bs : List Blk), lnGood pars k s = true → Mt P o bs → 4 ≤ k → (k = 6 → topE o = 1) → Mt P o1 (passed bs n k) →
      (∀ (n : Nat) (bs : List Blk), Mt P o1 bs → ∃ ps, ls.map rdLine = ps.map some ∧ admAll ps n bs ∧ Mt P o' (passAll ps n bs) ∧ (∀ q ∈ placeAll ps n bs, InP P pars q) ∧ ∀ s ∈ ls, s.size ≤ 40) →
      ∃ ps, (s :: ls).map rdLine = ps.map some ∧ admAll ps n bs ∧ Mt P o' (passAll ps n bs) ∧ (∀ q ∈ placeAll ps n bs, InP P pars q) ∧ ∀ x ∈ s :: ls, x.size ≤ 40 := by
    intro s ls k o o1 o' n bs hg hm h4 h6 hm1 ih
    obtain ⟨p, hp, hk, hf, hsz, _⟩ := good_line hg
    obtain ⟨ps, i1, i2, i3, i4, i5⟩ := ih (n + 1) _ hm1
    refine ⟨p :: ps, by simp [hp, i1], ⟨by rw [hk]; exact adm_in hm h4 h6, by rw [hk]; exact i2⟩, by rw [passAll, hk]; exact i3, ?_, ?_⟩
    · intro q hq
      rw [placeAll, hk] at hq
      rcases List.mem_cons.mp hq with rfl | hq
      · exact placed_in hm hf
      · exact i4 q hq
    · intro x hx
      rcases List.mem_cons.mp hx with rfl | hx
      · exact hsz
      · exact i5 x hx
  induction h with
  | nil => intro n bs hm; exact ⟨[], rfl, trivial, hm, by simp [placeAll], by simp⟩
  | @plain o s ls o' k a1 a2 a3 _ ih =>
    intro n bs hm
    refine cons n bs a1 hm (by omega) (by omega) ?_ ih
    unfold passed
    rw [if_neg (by omega), if_neg (by omega), if_neg (by omega)]
    exact hm
  | @fi o s ls o' a1 _ ih =>
    intro n bs hm
    refine cons n bs a1 hm (by omega) (by omega) ?_ ih
    obtain ⟨bs', rfl, h2⟩ := hm
    exact ⟨bs' ++ [⟨n, 5, false⟩], by simp [passed], All2.snoc (fun _ => ⟨rfl, rfl⟩) _ _ h2⟩
  | @wh o s ls o' a1 _ ih =>
    intro n bs hm
    refine cons n bs a1 hm (by omega) (by omega) ?_ ih
    obtain ⟨bs', rfl, h2⟩ := hm
    exact ⟨bs' ++ [⟨n, 7, false⟩], by simp [passed], All2.snoc (fun h => absurd h (by decide)) _ _ h2⟩
  | @el o s ls o' a1 a2 _ ih =>
    intro n bs hm
    refine cons n bs a1 hm (by omega) (fun _ => a2) ?_ ih
    obtain ⟨bs', rfl, h2⟩ := hm
    have hne : o ≠ [] := by intro e; rw [e] at a2; simp [topE] at a2
    obtain ⟨hb, _⟩ := All2.last 0 (⟨0, 0, false⟩ : Blk) _ _ h2 hne
    refine ⟨bs'.dropLast ++ [⟨(lastOr (⟨P, 3, false⟩ :: bs')).line, (lastOr (⟨P, 3, false⟩ :: bs')).kind, true⟩], ?_, All2.snoc (fun h => absurd h (by decide)) _ _ (All2.drop _ _ h2)⟩
    unfold passed
    rw [if_neg (by omega), if_pos rfl, if_neg (by simp), drop_cons _ _ hb]
    rfl
  | @en o s ls o' a1 a2 _ ih =>
    intro n bs hm
    refine cons n bs a1 hm (by omega) (by omega) ?_ ih
    obtain ⟨bs', rfl, h2⟩ := hm
    obtain ⟨hb, _⟩ := All2.last 0 (⟨0, 0, false⟩ : Blk) _ _ h2 a2
    refine ⟨bs'.dropLast, ?_, All2.drop _ _ h2⟩
    unfold passed
    rw [if_neg (by omega), if_neg (by omega), if_pos rfl, drop_cons _ _ hb]
end Rt
end Go.Proofs.YtbpajiljfppjcaaGreatDoor

