/- The program's reader of expressions takes all that the grammar makes. -/
import Derived.Test.YthleadfkfnnadaaGreatRowA
import Derived.Test.YthleadfkfnnadaaGreatEqv2
namespace Go.Proofs.YthleadfkfnnadaaGreat
namespace Rf
open Rt
structure TkOK (t : Tk) : Prop where
  num : t.kind = 2 ↔ numberB t.text = true
  nam : (t.kind = 1 ∧ resv t.text = false) ↔ nameB t.text = true
def AllOK (ts : List Tk) : Prop := ∀ t ∈ ts, TkOK t
theorem AllOK.right {a b : List Tk} (h : AllOK (a ++ b)) : AllOK b := fun t ht => h t (by simp [ht])
theorem AllOK.tail {t : Tk} {b : List Tk} (h : AllOK (t :: b)) : AllOK b := fun u hu => h u (by simp [hu])
theorem AllOK.head {t : Tk} {b : List Tk} (h : AllOK (t :: b)) : TkOK t := h t (by simp)
theorem tx_app (a b : List Tk) : tx (a ++ b) = tx a ++ tx b := by simp [tx]
theorem tx_cons (t : Tk) (b : List Tk) : tx (t :: b) = t.text :: tx b := rfl
theorem tx_len (a : List Tk) : (tx a).length = a.length := by simp [tx]
def toksOK (V A : ByteArray → Bool) : List ByteArray → Bool
  | [] => true
  | x :: r => (if nameB x = true then (if first r = lbrW then A x else V x) else true) && toksOK V A r
def opsOK (V A : ByteArray → Bool) (e : List Pop) : Bool := e.all (fun o => if o.code = 2 then V o.name else if o.code = 3 then A o.name else true)
theorem opsOK_app (V A : ByteArray → Bool) (a b : List Pop) : opsOK V A (a ++ b) = (opsOK V A a && opsOK V A b) := by simp [opsOK]
theorem first_app {p q : List ByteArray} (h : 0 < p.length) : first (p ++ q) = first p := at_app_l h
theorem toksOK_app (V A : ByteArray → Bool) {q : List ByteArray} (h : ¬ first q = lbrW) : ∀ p : List ByteArray, toksOK V A (p ++ q) = (toksOK V A p && toksOK V A q)
  | [] => by simp [toksOK]
  | x :: r => by
    rw [List.cons_append, toksOK, toksOK, toksOK_app V A h r, Bool.and_assoc]
    cases r with
    | nil => rw [List.nil_append, if_neg h, if_neg (show ¬ first [] = lbrW by simp [first, at', lbrW])]
    | cons y s => rw [first_app (by simp)]
theorem div_code (x : ByteArray) : (7 ≤ opCode x ∧ opCode x ≤ 9) ↔ inB divW x = true := by
  simp only [opCode, str_lit, inB, divW, decide_eq_true_eq]
  by_cases h1 : x = ⟨#[43]⟩
  · subst h1; simp
  by_cases h2 : x = ⟨#[45]⟩
  · subst h2; simp
  by_cases h3 : x = ⟨#[42]⟩
  · subst h3; simp
  by_cases h4 : x = ⟨#[47]⟩
  · subst h4; simp
  by_cases h5 : x = ⟨#[37]⟩
  · subst h5; simp
  by_cases h6 : x = ⟨#[60]⟩
  · subst h6; simp
  by_cases h7 : x = ⟨#[61]⟩
  · subst h7; simp
  simp [h1, h2, h3, h4, h5, h6, h7, eq_comm]
theorem add_code (x : ByteArray) : (5 ≤ opCode x ∧ opCode x ≤ 6) ↔ inB addW x = true := by
  simp only [opCode, str_lit, inB, addW, decide_eq_true_eq]
  by_cases h1 : x = ⟨#[43]⟩
  · subst h1; simp
  by_cases h2 : x = ⟨#[45]⟩
  · subst h2; simp
  by_cases h3 : x = ⟨#[42]⟩
  · subst h3; simp
  by_cases h4 : x = ⟨#[47]⟩
  · subst h4; simp
  by_cases h5 : x = ⟨#[37]⟩
  · subst h5; simp
  by_cases h6 : x = ⟨#[60]⟩
  · subst h6; simp
  by_cases h7 : x = ⟨#[61]⟩
  · subst h7; simp
  simp [h1, h2, h3, h4, h5, h6, h7, eq_comm]
theorem cmp_code (x : ByteArray) : (10 ≤ opCode x ∧ opCode x ≤ 11) ↔ inB cmpW x = true := by
  simp only [opCode, str_lit, inB, cmpW, decide_eq_true_eq]
  by_cases h1 : x = ⟨#[43]⟩
  · subst h1; simp
  by_cases h2 : x = ⟨#[45]⟩
  · subst h2; simp
  by_cases h3 : x = ⟨#[42]⟩
  · subst h3; simp
  by_cases h4 : x = ⟨#[47]⟩
  · subst h4; simp
  by_cases h5 : x = ⟨#[37]⟩
  · subst h5; simp
  by_cases h6 : x = ⟨#[60]⟩
  · subst h6; simp
  by_cases h7 : x = ⟨#[61]⟩
  · subst h7; simp
  simp [h1, h2, h3, h4, h5, h6, h7, eq_comm]
inductive Cm : Nat → List ByteArray → List Pop → Prop
  | num (x : ByteArray) : numberB x = true → Cm 3 [x] [⟨1, val x, ⟨#[]⟩⟩]
  | nam (x : ByteArray) : nameB x = true → Cm 3 [x] [⟨2, 0, x⟩]
  | neg (p : List ByteArray) (e : List Pop) : Cm 3 p e → Cm 3 (minusW :: p) (e ++ [⟨4, 0, ⟨#[]⟩⟩])
  | par (p : List ByteArray) (e : List Pop) : Cm 0 p e → Cm 3 (lparW :: (p ++ [rparW])) e
  | cel (x : ByteArray) (p : List ByteArray) (e : List Pop) : nameB x = true → Cm 0 p e → Cm 3 (x :: lbrW :: (p ++ [rbrW])) (e ++ [⟨3, 0, x⟩])
  | t1 (p : List ByteArray) (e : List Pop) : Cm 3 p e → Cm 2 p e
  | t2 (p : List ByteArray) (o : ByteArray) (q : List ByteArray) (e f : List Pop) : Cm 2 p e → inB divW o = true → Cm 3 q f → Cm 2 (p ++ o :: q) (e ++ f ++ [⟨opCode o, 0, ⟨#[]⟩⟩])
  | s1 (p : List ByteArray) (e : List Pop) : Cm 2 p e → Cm 1 p e
  | s2 (p : List ByteArray) (o : ByteArray) (q : List ByteArray) (e f : List Pop) : Cm 1 p e → inB addW o = true → Cm 2 q f → Cm 1 (p ++ o :: q) (e ++ f ++ [⟨opCode o, 0, ⟨#[]⟩⟩])
  | e1 (p : List ByteArray) (e : List Pop) : Cm 1 p e → Cm 0 p e
  | e2 (p : List ByteArray) (o : ByteArray) (q : List ByteArray) (e f : List Pop) : Cm 1 p e → inB cmpW o = true → Cm 1 q f → Cm 0 (p ++ o :: q) (e ++ f ++ [⟨opCode o, 0, ⟨#[]⟩⟩])
structure Level (sg : List ByteArray) (lo hi : Int) (k K : Nat) : Prop where
  code : ∀ x, (lo ≤ opCode x ∧ opCode x ≤ hi) ↔ inB sg x = true
  base : ∀ p, Is k p → Is K p
  up : ∀ p o q, Is K p → inB sg o = true → Is k q → Is K (p ++ o :: q)
  sgn : ∀ o, inB sg o = true → Sgn o
  nob : ∀ o, inB sg o = true → ¬ o = lbrW
  cbase : ∀ p e, Cm k p e → Cm K p e
  cup : ∀ p o q e f, Cm K p e → inB sg o = true → Cm k q f → Cm K (p ++ o :: q) (e ++ f ++ [⟨opCode o, 0, ⟨#[]⟩⟩])
theorem div_level : Level divW 7 9 3 2 := ⟨div_code, .t1, fun p o q => .t2 p o q, fun _ => div_sgn, fun o h => by rcases div_cases h with rfl | rfl | rfl <;> simp [lbrW], .t1, .t2⟩
theorem add_level : Level addW 5 6 2 1 := ⟨add_code, .s1, fun p o q => .s2 p o q, fun _ => add_sgn, fun o h => by rcases add_cases h with rfl | rfl <;> simp [lbrW], .s1, .s2⟩
theorem cmp_nob {o : ByteArray} (h : inB cmpW o = true) : ¬ o = lbrW := by rcases cmp_cases h with rfl | rfl <;> simp [lbrW]
theorem Sgn.noname {o : ByteArray} (h : Sgn o) : nameB o = false := by
  have := h.opd
  simp [opdB] at this
  exact this.1.1.1
theorem toksOK_sign (V A : ByteArray → Bool) {o : ByteArray} (h : nameB o = false) (q : List ByteArray) : toksOK V A (o :: q) = toksOK V A q := by
  rw [toksOK, if_neg (by rw [h]; simp)]; rfl
def Sound (pf : List Tk → Got) (k : Nat) : Prop := ∀ ts e r, AllOK ts → pf ts = some (e, r) → ∃ p, ts = p ++ r ∧ Is k (tx p) ∧ (∀ V A, opsOK V A e = toksOK V A (tx p)) ∧ Cm k (tx p) e
theorem loop_sound {pf : List Tk → Got} {sg : List ByteArray} {lo hi : Int} {k K : Nat} (L : Level sg lo hi k K) (h : Sound pf k) : ∀ (g : Nat) (a : List ByteArray) (ea : List Pop) (ts : List Tk) (e : List Pop) (r : List Tk), AllOK ts → Is K a → Cm K a ea → pLoop pf lo hi g ts = some (e, r) →
    ∃ p, ts = p ++ r ∧ Is K (a ++ tx p) ∧ (¬ first (tx p) = lbrW) ∧ (∀ V A, opsOK V A e = toksOK V A (tx p)) ∧ Cm K (a ++ tx p) (ea ++ e)
  | 0, _, _, _, _, _, _, _, _, h' => by simp [pLoop] at h'
  | g + 1, a, ea, [], e, r, _, ha, hca, h' => by
    simp [pLoop] at h'
    obtain ⟨rfl, rfl⟩ := h'
    exact ⟨[], rfl, by simpa [tx] using ha, by simp [tx, first, at', lbrW], fun V A => rfl, by simpa [tx] using hca⟩
  | g + 1, a, ea, t :: ts, e, r, hok, ha, hca, h' => by
    rw [pLoop] at h'
    split at h'
    · rename_i hc
      have hs := (L.code _).mp hc
      cases h1 : pf ts with
      | none => rw [h1] at h'; cases h'
      | some x =>
        obtain ⟨e1, r1⟩ := x
        rw [h1] at h'
        simp only at h'
        obtain ⟨p1, e1', i1, o1, k1⟩ := h ts e1 r1 hok.tail h1
        cases h2 : pLoop pf lo hi g r1 with
        | none => rw [h2] at h'; cases h'
        | some y =>
          obtain ⟨e2, r2⟩ := y
          rw [h2] at h'
          simp only [Option.some.injEq, Prod.mk.injEq] at h'
          obtain ⟨rfl, rfl⟩ := h'
          have hok1 : AllOK r1 := by rw [e1'] at hok; exact hok.tail.right
          have ha2 := L.up a t.text (tx p1) ha hs i1
          have hca2 := L.cup a t.text (tx p1) ea e1 hca hs k1
          obtain ⟨p2, e2', i2, n2, o2, k2⟩ := loop_sound L h g _ _ r1 e2 r2 hok1 ha2 hca2 h2
          refine ⟨t :: (p1 ++ p2), by rw [e1', e2']; simp, ?_, ?_, fun V A => ?_, by rw [tx_cons, tx_app]; simpa using k2⟩
          · rw [tx_cons, tx_app]
            simpa using i2
          · rw [tx_cons]; exact L.nob _ hs
          · rw [tx_cons, toksOK_sign V A (L.sgn _ hs).noname, tx_app, toksOK_app V A n2, opsOK_app, o1 V A]
            congr 1
            show ((if opCode t.text = 2 then _ else if opCode t.text = 3 then _ else true) && opsOK V A e2) = _
            have hop : ¬ opCode t.text = 2 ∧ ¬ opCode t.text = 3 := by
              unfold opCode
              repeat' split
              all_goals omega
            rw [if_neg hop.1, if_neg hop.2, o2 V A]; rfl
    · simp only [Option.some.injEq, Prod.mk.injEq] at h'
      obtain ⟨rfl, rfl⟩ := h'
      exact ⟨[], rfl, by simpa [tx] using ha, by simp [tx, first, at', lbrW], fun V A => rfl, by simpa [tx] using hca⟩
theorem chain_sound {pf : List Tk → Got} {sg : List ByteArray} {lo hi : Int} {k K : Nat} (L : Level sg lo hi k K) (h : Sound pf k) : Sound (pChain pf lo hi) K := by
  intro ts e r hok h'
  unfold pChain at h'
  cases h1 : pf ts with
  | none => rw [h1] at h'; cases h'
  | some x =>
    obtain ⟨e1, r1⟩ := x
    rw [h1] at h'
    simp only at h'
    obtain ⟨p1, e1', i1, o1, k1⟩ := h ts e1 r1 hok h1
    cases h2 : pLoop pf lo hi 25 r1 with
    | none => rw [h2] at h'; simp [joinE] at h'
    | some y =>
      obtain ⟨e2, r2⟩ := y
      rw [h2] at h'
      simp only [joinE, Option.some.injEq, Prod.mk.injEq] at h'
      obtain ⟨rfl, rfl⟩ := h'
      have hok1 : AllOK r1 := by rw [e1'] at hok; exact hok.right
      obtain ⟨p2, e2', i2, n2, o2, k2⟩ := loop_sound L h 25 _ _ r1 e2 r2 hok1 (L.base _ i1) (L.cbase _ _ k1) h2
      refine ⟨p1 ++ p2, by rw [e1', e2']; simp, by rw [tx_app]; exact i2, fun V A => ?_, by rw [tx_app]; exact k2⟩
      rw [tx_app, toksOK_app V A n2, opsOK_app, o1 V A, o2 V A]
theorem comp_sound {pf : List Tk → Got} (h : Sound pf 3) : Sound (pComp pf) 0 := by
  have hs : Sound (pSum pf) 1 := chain_sound add_level (chain_sound div_level h)
  intro ts e r hok h'
  unfold pComp at h'
  cases h1 : pSum pf ts with
  | none => rw [h1] at h'; cases h'
  | some x =>
    obtain ⟨e1, r1⟩ := x
    rw [h1] at h'
    obtain ⟨p1, e1', i1, o1, k1⟩ := hs ts e1 r1 hok h1
    cases r1 with
    | nil =>
      simp only [Option.some.injEq, Prod.mk.injEq] at h'
      obtain ⟨rfl, rfl⟩ := h'
      exact ⟨p1, e1', .e1 _ i1, o1, .e1 _ _ k1⟩
    | cons t r1 =>
      simp only at h'
      split at h'
      · rename_i hc
        have hsg := (cmp_code _).mp hc
        cases h2 : pSum pf r1 with
        | none => rw [h2] at h'; cases h'
        | some y =>
          obtain ⟨e2, r2⟩ := y
          rw [h2] at h'
          simp only [Option.some.injEq, Prod.mk.injEq] at h'
          obtain ⟨rfl, rfl⟩ := h'
          have hok1 : AllOK r1 := by rw [e1'] at hok; exact hok.right.tail
          obtain ⟨p2, e2', i2, o2, k2⟩ := hs r1 e2 r2 hok1 h2
          refine ⟨p1 ++ t :: p2, by rw [e1', e2']; simp, by rw [tx_app, tx_cons]; exact .e2 _ _ _ i1 hsg i2, fun V A => ?_, by rw [tx_app, tx_cons]; exact .e2 _ _ _ _ _ k1 hsg k2⟩
          rw [tx_app, tx_cons, toksOK_app V A (by exact cmp_nob hsg), toksOK_sign V A (cmp_sgn hsg).noname, opsOK_app, opsOK_app, o1 V A, o2 V A]
          have hop : ¬ opCode t.text = 2 ∧ ¬ opCode t.text = 3 := by omega
          show (_ && ((if opCode t.text = 2 then _ else if opCode t.text = 3 then _ else true) && true)) = _
          rw [if_neg hop.1, if_neg hop.2]; simp
      · simp only [Option.some.injEq, Prod.mk.injEq] at h'
        obtain ⟨rfl, rfl⟩ := h'
        exact ⟨p1, e1', .e1 _ i1, o1, .e1 _ _ k1⟩
theorem noname_lit (b : UInt8) (h : letterB (b.toNat : Int) = false) : nameB ⟨#[b]⟩ = false := by
  have e : byteAt ⟨#[b]⟩ 0 = (b.toNat : Int) := by rw [byteAt_lt (by show 0 < 1; decide)]; rfl
  simp [nameB, e, h]
theorem closed_sound {x : ByteArray} {last : List Pop} {y : Got} {e : List Pop} {r : List Tk} (h : closed x last y = some (e, r)) : ∃ e1 t, y = some (e1, t :: r) ∧ t.text = x ∧ e = e1 ++ last := by
  unfold closed at h
  split at h
  · cases h
  · cases h
  · rename_i e1 t r1
    split at h
    · rename_i ht
      simp only [Option.some.injEq, Prod.mk.injEq] at h
      obtain ⟨rfl, rfl⟩ := h
      exact ⟨e1, t, rfl, ht, rfl⟩
    · cases h
theorem factor_sound : ∀ f, Sound (pFactor f) 3
  | 0 => by intro ts e r _ h; simp [pFactor] at h
  | f + 1 => by
    intro ts e r hok h
    have ih := factor_sound f
    cases ts with
    | nil => simp [pFactor] at h
    | cons t ts =>
      rw [pFactor] at h
      split at h
      · rename_i hm
        cases h1 : pFactor f ts with
        | none => rw [h1] at h; cases h
        | some x =>
          obtain ⟨e1, r1⟩ := x
          rw [h1] at h
          simp only [Option.some.injEq, Prod.mk.injEq] at h
          obtain ⟨rfl, rfl⟩ := h
          obtain ⟨p1, e1', i1, o1, k1⟩ := ih ts e1 r1 hok.tail h1
          refine ⟨t :: p1, by rw [e1']; rfl, by rw [tx_cons, hm]; exact .neg _ i1, fun V A => ?_, by rw [tx_cons, hm]; exact .neg _ _ k1⟩
          rw [tx_cons, hm, toksOK_sign V A (noname_lit 45 (by decide)), opsOK_app, o1 V A]
          simp [opsOK]
      · split at h
        · rename_i hm hp
          obtain ⟨e1, c, h1, hc, rfl⟩ := closed_sound h
          obtain ⟨p1, e1', i1, o1, k1⟩ := comp_sound ih ts e1 (c :: r) hok.tail h1
          refine ⟨t :: (p1 ++ [c]), by rw [e1']; simp, ?_, fun V A => ?_, ?_⟩
          · rw [tx_cons, tx_app, hp]
            show Is 3 (lparW :: (tx p1 ++ [c.text]))
            rw [hc]; exact .par _ i1
          · rw [tx_cons, hp, toksOK_sign V A (noname_lit 40 (by decide)), tx_app]
            show _ = toksOK V A (tx p1 ++ [c.text])
            rw [hc, toksOK_app V A (by show ¬ (⟨#[41]⟩ : ByteArray) = ⟨#[91]⟩; simp), toksOK_sign V A (noname_lit 41 (by decide)), opsOK_app, o1 V A]
            rfl
          · rw [tx_cons, tx_app, hp, List.append_nil]
            show Cm 3 (lparW :: (tx p1 ++ [c.text])) e1
            rw [hc]; exact .par _ _ k1
        · split at h
          · rename_i hm hp hk
            simp only [Option.some.injEq, Prod.mk.injEq] at h
            obtain ⟨rfl, rfl⟩ := h
            have hn := hok.head.num.mp hk
            refine ⟨[t], rfl, .num _ hn, fun V A => ?_, .num _ hn⟩
            have : nameB t.text = false := by
              cases hq : nameB t.text with
              | false => rfl
              | true => have := hok.head.nam.mpr hq; omega
            show _ = toksOK V A [t.text]
            rw [toksOK_sign V A this]; simp [opsOK, toksOK]
          · split at h
            · rename_i hm hp hk hn
              have hnm := hok.head.nam.mp hn
              cases ts with
              | nil =>
                simp only [pVar, Option.some.injEq, Prod.mk.injEq] at h
                obtain ⟨rfl, rfl⟩ := h
                refine ⟨[t], rfl, .nam _ hnm, fun V A => ?_, .nam _ hnm⟩
                show _ = toksOK V A [t.text]
                rw [toksOK, if_pos hnm, if_neg (by simp [first, at', lbrW])]
                simp [opsOK, toksOK]
              | cons u ts =>
                rw [pVar] at h
                split at h
                · rename_i hu
                  obtain ⟨e1, c, h1, hc, rfl⟩ := closed_sound h
                  obtain ⟨p1, e1', i1, o1, k1⟩ := comp_sound ih ts e1 (c :: r) hok.tail.tail h1
                  refine ⟨t :: u :: (p1 ++ [c]), by rw [e1']; simp, ?_, fun V A => ?_, ?_⟩
                  · rw [tx_cons, tx_cons, tx_app, hu]
                    show Is 3 (t.text :: lbrW :: (tx p1 ++ [c.text]))
                    rw [hc]; exact .cel _ _ hnm i1
                  · rw [tx_cons, tx_cons, hu, tx_app]
                    show _ = toksOK V A (t.text :: ⟨#[91]⟩ :: (tx p1 ++ [c.text]))
                    rw [toksOK, if_pos hnm, if_pos (show first (⟨#[91]⟩ :: (tx p1 ++ [c.text])) = lbrW from rfl), toksOK_sign V A (noname_lit 91 (by decide)), hc, toksOK_app V A (by show ¬ (⟨#[93]⟩ : ByteArray) = ⟨#[91]⟩; simp), toksOK_sign V A (noname_lit 93 (by decide)), opsOK_app, o1 V A]
                    simp [opsOK, toksOK, Bool.and_comm]
                  · rw [tx_cons, tx_cons, tx_app, hu]
                    show Cm 3 (t.text :: lbrW :: (tx p1 ++ [c.text])) _
                    rw [hc]; exact .cel _ _ _ hnm k1
                · rename_i hu
                  simp only [Option.some.injEq, Prod.mk.injEq] at h
                  obtain ⟨rfl, rfl⟩ := h
                  refine ⟨[t], rfl, .nam _ hnm, fun V A => ?_, .nam _ hnm⟩
                  show _ = toksOK V A [t.text]
                  rw [toksOK, if_pos hnm, if_neg (by simp [first, at', lbrW])]
                  simp [opsOK, toksOK]
            · cases h
theorem expr_sound : Sound pExpr 0 := comp_sound (factor_sound 24)
open Rt
inductive Tail (sg : List ByteArray) (k : Nat) : List ByteArray → Prop
  | nil : Tail sg k []
  | cons (o : ByteArray) (q r : List ByteArray) : inB sg o = true → Is k q → Tail sg k r → Tail sg k (o :: (q ++ r))
theorem Tail.snoc {sg : List ByteArray} {k : Nat} {t : List ByteArray} (h : Tail sg k t) (o : ByteArray) (q : List ByteArray) (ho : inB sg o = true) (hq : Is k q) : Tail sg k (t ++ o :: q) := by
  induction h with
  | nil => have := Tail.cons o q [] ho hq .nil; simpa using this
  | cons o' q' r' ho' hq' _ ih => have := Tail.cons o' q' _ ho' hq' ih; simpa using this
theorem term_tail {k : Nat} {p : List ByteArray} (h : Is k p) : k = 2 → ∃ a t, p = a ++ t ∧ Is 3 a ∧ Tail divW 3 t := by
  induction h with
  | t1 p hp _ => intro _; exact ⟨p, [], by simp, hp, .nil⟩
  | t2 p o q hp ho hq ih _ =>
    intro _
    obtain ⟨a, t, rfl, ha, ht⟩ := ih rfl
    exact ⟨a, t ++ o :: q, by simp, ha, ht.snoc o q ho hq⟩
  | _ => intro h; omega
theorem sum_tail {k : Nat} {p : List ByteArray} (h : Is k p) : k = 1 → ∃ a t, p = a ++ t ∧ Is 2 a ∧ Tail addW 2 t := by
  induction h with
  | s1 p hp _ => intro _; exact ⟨p, [], by simp, hp, .nil⟩
  | s2 p o q hp ho hq ih _ =>
    intro _
    obtain ⟨a, t, rfl, ha, ht⟩ := ih rfl
    exact ⟨a, t ++ o :: q, by simp, ha, ht.snoc o q ho hq⟩
  | _ => intro h; omega
theorem expr_parts {k : Nat} {p : List ByteArray} (h : Is k p) : k = 0 → Is 1 p ∨ ∃ a o b, p = a ++ o :: b ∧ Is 1 a ∧ inB cmpW o = true ∧ Is 1 b := by
  intro hk
  cases h with
  | e1 p hp => exact Or.inl hp
  | e2 p o q hp ho hq => exact Or.inr ⟨p, o, q, rfl, hp, ho, hq⟩
  | _ => omega
theorem factor_parts {k : Nat} {p : List ByteArray} (h : Is k p) : k = 3 → (∃ x, p = [x] ∧ numberB x = true) ∨ (∃ x, p = [x] ∧ nameB x = true) ∨ (∃ q, p = minusW :: q ∧ Is 3 q) ∨ (∃ q, p = lparW :: (q ++ [rparW]) ∧ Is 0 q) ∨ (∃ x q, p = x :: lbrW :: (q ++ [rbrW]) ∧ nameB x = true ∧ Is 0 q) := by
  intro hk
  cases h with
  | num x h => exact Or.inl ⟨x, rfl, h⟩
  | nam x h => exact Or.inr (Or.inl ⟨x, rfl, h⟩)
  | neg p h => exact Or.inr (Or.inr (Or.inl ⟨p, rfl, h⟩))
  | par p h => exact Or.inr (Or.inr (Or.inr (Or.inl ⟨p, rfl, h⟩)))
  | cel x p hx h => exact Or.inr (Or.inr (Or.inr (Or.inr ⟨x, p, rfl, hx, h⟩)))
  | _ => omega
def Ends (lo hi : Int) (r : List Tk) : Prop := (¬ first (tx r) = lbrW) ∧ ¬ (lo ≤ opCode (first (tx r)) ∧ opCode (first (tx r)) ≤ hi)
def Comp (pf : List Tk → Got) (k n : Nat) (lo hi : Int) : Prop := ∀ p r, AllOK (p ++ r) → Is k (tx p) → p.length ≤ n → Ends lo hi r → ∃ e, pf (p ++ r) = some (e, r)
theorem tx_split {p : List Tk} {a b : List ByteArray} (h : tx p = a ++ b) : ∃ p1 p2, p = p1 ++ p2 ∧ tx p1 = a ∧ tx p2 = b := by
  obtain ⟨p1, p2, h1, h2, h3⟩ := List.map_eq_append_iff.mp h
  exact ⟨p1, p2, h1, h2, h3⟩
theorem tx_uncons {p : List Tk} {x : ByteArray} {b : List ByteArray} (h : tx p = x :: b) : ∃ t p2, p = t :: p2 ∧ t.text = x ∧ tx p2 = b := by
  obtain ⟨t, p2, h1, h2, h3⟩ := List.map_eq_cons_iff.mp h
  exact ⟨t, p2, h1, h2, h3⟩
theorem tx_nil {p : List Tk} (h : tx p = []) : p = [] := by simpa [tx] using h
theorem opCode_nil : opCode (first []) = 0 := by
  simp [first, at', opCode]
theorem loop_comp {pf : List Tk → Got} {sg : List ByteArray} {lo hi : Int} {k K : Nat} {n : Nat} (L : Level sg lo hi k K) {l1 h1 : Int} (h : Comp pf k n l1 h1) (hin : ∀ o, inB sg o = true → ¬ (l1 ≤ opCode o ∧ opCode o ≤ h1)) :
    ∀ (g : Nat) (p r : List Tk), AllOK (p ++ r) → Tail sg k (tx p) → p.length ≤ n → p.length < g → Ends lo hi r → Ends l1 h1 r → ∃ e, pLoop pf lo hi g (p ++ r) = some (e, r) := by
  intro g
  induction g with
  | zero => intro p r _ _ _ hg; omega
  | succ g ih =>
    intro p r hok ht hn hg hr hr1
    generalize htx : tx p = l at ht
    cases ht with
    | nil =>
      have := tx_nil htx
      subst this
      cases r with
      | nil => exact ⟨_, rfl⟩
      | cons t r =>
        refine ⟨[], ?_⟩
        show pLoop pf lo hi (g + 1) (t :: r) = _
        rw [pLoop, if_neg (show ¬ (lo ≤ opCode t.text ∧ opCode t.text ≤ hi) from hr.2)]
    | cons o q rest ho hq hrest =>
      obtain ⟨t, p2, rfl, h1', h2'⟩ := tx_uncons htx
      obtain ⟨pq, pr, rfl, h3, h4⟩ := tx_split h2'
      simp only [List.length_cons, List.length_append] at hn hg
      have hend : Ends l1 h1 (pr ++ r) := by
        cases pr with
        | nil => simpa using hr1
        | cons u pr =>
          have hu : inB sg u.text = true := by
            rw [← h4] at hrest
            generalize hh : tx (u :: pr) = l2 at hrest
            cases hrest with
            | nil => simp [tx] at hh
            | cons o' q' r' ho' _ _ => rw [tx_cons] at hh; injection hh with hh; rw [hh]; exact ho'
          exact ⟨L.nob _ hu, hin _ hu⟩
      have hok2 : AllOK (pq ++ (pr ++ r)) := by
        have := hok
        simp only [List.cons_append, List.append_assoc] at this
        exact this.tail
      obtain ⟨e1, he1⟩ := h pq (pr ++ r) hok2 (by rw [h3]; exact hq) (by omega) hend
      obtain ⟨e2, he2⟩ := ih pr r hok2.right (by rw [h4]; exact hrest) (by omega) (by omega) hr hr1
      apply Exists.intro
      simp only [List.cons_append, List.append_assoc]
      rw [pLoop, if_pos ((L.code _).mpr (by rw [h1']; exact ho)), he1]
      simp only
      rw [he2]
theorem chain_comp {pf : List Tk → Got} {sg : List ByteArray} {lo hi : Int} {k K : Nat} {n : Nat} (L : Level sg lo hi k K) {l1 h1 : Int} (h : Comp pf k n l1 h1) (hin : ∀ o, inB sg o = true → ¬ (l1 ≤ opCode o ∧ opCode o ≤ h1))
    (hsp : ∀ p, Is K p → ∃ a t, p = a ++ t ∧ Is k a ∧ Tail sg k t) (hn : n ≤ 24) (p r : List Tk) (hok : AllOK (p ++ r)) (hp : Is K (tx p)) (hl : p.length ≤ n) (hr : Ends lo hi r) (hr1 : Ends l1 h1 r) : ∃ e, pChain pf lo hi (p ++ r) = some (e, r) := by
  obtain ⟨a, t, he, ha, ht⟩ := hsp _ hp
  obtain ⟨pa, pt, rfl, h3, h4⟩ := tx_split he
  simp only [List.length_append] at hl
  rw [List.append_assoc] at hok ⊢
  have hend : Ends l1 h1 (pt ++ r) := by
    cases pt with
    | nil => simpa using hr1
    | cons u pt =>
      have hu : inB sg u.text = true := by
        rw [← h4] at ht
        generalize hh : tx (u :: pt) = l2 at ht
        cases ht with
        | nil => simp [tx] at hh
        | cons o' q' r' ho' _ _ => rw [tx_cons] at hh; injection hh with hh; rw [hh]; exact ho'
      exact ⟨L.nob _ hu, hin _ hu⟩
  obtain ⟨e1, he1⟩ := h pa (pt ++ r) hok (by rw [h3]; exact ha) (by omega) hend
  obtain ⟨e2, he2⟩ := loop_comp L h hin 25 pt r hok.right (by rw [h4]; exact ht) (by omega) (by omega) hr hr1
  refine ⟨e1 ++ e2, ?_⟩
  unfold pChain
  rw [he1]
  simp only
  rw [he2]
  rfl
theorem Ends.sub {lo hi lo' hi' : Int} {r : List Tk} (h : Ends lo hi r) (h1 : lo ≤ lo') (h2 : hi' ≤ hi) : Ends lo' hi' r := ⟨h.1, fun ⟨a, b⟩ => h.2 ⟨by omega, by omega⟩⟩
theorem comp_comp {pf : List Tk → Got} {n : Nat} (hn : n ≤ 24) (h : Comp pf 3 n 100 0) : Comp (pComp pf) 0 n 5 11 := by
  have ht : Comp (pTerm pf) 2 n 7 9 := fun p r hok hp hl hr => chain_comp div_level h (fun o _ => by omega) (fun p hp => term_tail hp rfl) hn p r hok hp hl hr ⟨hr.1, by omega⟩
  have hadd : ∀ o, inB addW o = true → ¬ (7 ≤ opCode o ∧ opCode o ≤ 9) := fun o ho hc => by
    have h1 := (add_code o).mpr ho
    omega
  have hs : Comp (pSum pf) 1 n 5 9 := fun p r hok hp hl hr => chain_comp add_level ht hadd (fun p hp => sum_tail hp rfl) hn p r hok hp hl (hr.sub (by omega) (by omega)) (hr.sub (by omega) (by omega))
  intro p r hok hp hl hr
  rcases expr_parts hp rfl with hp | ⟨a, o, b, he, ha, ho, hb⟩
  · obtain ⟨e, he⟩ := hs p r hok hp hl (hr.sub (by omega) (by omega))
    refine ⟨e, ?_⟩
    unfold pComp
    rw [he]
    cases r with
    | nil => rfl
    | cons t r =>
      simp only
      rw [if_neg]
      intro hc
      exact hr.2 ⟨by show 5 ≤ opCode t.text; omega, by show opCode t.text ≤ 11; omega⟩
  · obtain ⟨pa, p2, rfl, h3, h4⟩ := tx_split he
    obtain ⟨t, pb, rfl, h5, h6⟩ := tx_uncons h4
    simp only [List.length_append, List.length_cons] at hl
    rw [List.append_assoc] at hok ⊢
    rw [List.cons_append] at hok ⊢
    have hc := (cmp_code o).mpr ho
    obtain ⟨e1, he1⟩ := hs pa (t :: (pb ++ r)) hok (by rw [h3]; exact ha) (by omega) ⟨by show ¬ t.text = lbrW; rw [h5]; exact cmp_nob ho, by
      show ¬ (5 ≤ opCode t.text ∧ opCode t.text ≤ 9)
      rw [h5]; omega⟩
    obtain ⟨e2, he2⟩ := hs pb r hok.right.tail (by rw [h6]; exact hb) (by omega) (hr.sub (by omega) (by omega))
    apply Exists.intro
    unfold pComp
    rw [he1]
    simp only
    rw [h5, if_pos hc, he2]
theorem lit_no {x : ByteArray} (h : nameB x = true ∨ numberB x = true) (b : UInt8) (hb : letterB (b.toNat : Int) = false) (hb' : digitB (b.toNat : Int) = false) : ¬ x = ⟨#[b]⟩ := by
  have := word_ne h b hb hb'
  rw [str_lit, decide_eq_false_iff_not] at this
  exact this
theorem closing (b : UInt8) (h : b = 41 ∨ b = 93) : (¬ (⟨#[b]⟩ : ByteArray) = lbrW) ∧ ¬ (5 ≤ opCode ⟨#[b]⟩ ∧ opCode ⟨#[b]⟩ ≤ 11) := by
  rcases h with rfl | rfl <;> simp [lbrW, opCode]
theorem factor_comp : ∀ n, n ≤ 24 → Comp (pFactor n) 3 n 100 0
  | 0, _ => by
    intro p r _ hp hl
    have := (is_bal hp).ne
    rw [tx_len] at this
    omega
  | n + 1, hn => by
    intro p r hok hp hl hr
    have ih := factor_comp n (by omega)
    have ihc := comp_comp (by omega) ih
    rcases factor_parts hp rfl with ⟨x, he, hx⟩ | ⟨x, he, hx⟩ | ⟨q, he, hq⟩ | ⟨q, he, hq⟩ | ⟨x, q, he, hx, hq⟩
    · obtain ⟨t, p2, rfl, h1, h2⟩ := tx_uncons he
      have := tx_nil h2
      subst this
      apply Exists.intro
      simp only [List.cons_append, List.nil_append]
      rw [pFactor, if_neg (by rw [h1]; exact lit_no (Or.inr hx) 45 (by decide) (by decide)), if_neg (by rw [h1]; exact lit_no (Or.inr hx) 40 (by decide) (by decide)), if_pos (hok.head.num.mpr (by rw [h1]; exact hx))]
    · obtain ⟨t, p2, rfl, h1, h2⟩ := tx_uncons he
      have := tx_nil h2
      subst this
      have hk := hok.head.nam.mpr (by rw [h1]; exact hx)
      simp only [List.cons_append, List.nil_append]
      rw [pFactor, if_neg (by rw [h1]; exact lit_no (Or.inl hx) 45 (by decide) (by decide)), if_neg (by rw [h1]; exact lit_no (Or.inl hx) 40 (by decide) (by decide)), if_neg (by omega), if_pos hk]
      cases r with
      | nil => exact ⟨_, rfl⟩
      | cons u r =>
        apply Exists.intro
        rw [pVar, if_neg (show ¬ u.text = ⟨#[91]⟩ from hr.1)]
    · obtain ⟨t, p2, rfl, h1, h2⟩ := tx_uncons he
      simp only [List.length_cons] at hl
      obtain ⟨e, he'⟩ := ih p2 r hok.tail (by rw [h2]; exact hq) (by omega) hr
      apply Exists.intro
      rw [List.cons_append, pFactor, if_pos (show t.text = ⟨#[45]⟩ from h1), he']
    · obtain ⟨t, p2, rfl, h1, h2⟩ := tx_uncons he
      obtain ⟨pq, pc, rfl, h3, h4⟩ := tx_split h2
      obtain ⟨c, p3, rfl, h5, h6⟩ := tx_uncons h4
      have := tx_nil h6
      subst this
      simp only [List.length_cons, List.length_append, List.length_nil] at hl
      simp only [List.cons_append, List.append_assoc, List.nil_append] at hok ⊢
      obtain ⟨e, he'⟩ := ihc pq (c :: r) hok.tail (by rw [h3]; exact hq) (by omega) (by
        have := closing 41 (Or.inl rfl)
        refine ⟨by show ¬ c.text = lbrW; rw [h5]; exact this.1, by show ¬ (5 ≤ opCode c.text ∧ opCode c.text ≤ 11); rw [h5]; exact this.2⟩)
      apply Exists.intro
      rw [pFactor, if_neg (by rw [h1]; show ¬ (⟨#[40]⟩ : ByteArray) = ⟨#[45]⟩; simp), if_pos (show t.text = ⟨#[40]⟩ from h1), he', closed, if_pos (show c.text = ⟨#[41]⟩ from h5)]
    · obtain ⟨t, p2, rfl, h1, h2⟩ := tx_uncons he
      obtain ⟨u, p2, rfl, h1', h2⟩ := tx_uncons h2
      obtain ⟨pq, pc, rfl, h3, h4⟩ := tx_split h2
      obtain ⟨c, p3, rfl, h5, h6⟩ := tx_uncons h4
      have := tx_nil h6
      subst this
      simp only [List.length_cons, List.length_append, List.length_nil] at hl
      simp only [List.cons_append, List.append_assoc, List.nil_append] at hok ⊢
      have hk := hok.head.nam.mpr (by rw [h1]; exact hx)
      obtain ⟨e, he'⟩ := ihc pq (c :: r) hok.tail.tail (by rw [h3]; exact hq) (by omega) (by
        have := closing 93 (Or.inr rfl)
        refine ⟨by show ¬ c.text = lbrW; rw [h5]; exact this.1, by show ¬ (5 ≤ opCode c.text ∧ opCode c.text ≤ 11); rw [h5]; exact this.2⟩)
      apply Exists.intro
      rw [pFactor, if_neg (by rw [h1]; exact lit_no (Or.inl hx) 45 (by decide) (by decide)), if_neg (by rw [h1]; exact lit_no (Or.inl hx) 40 (by decide) (by decide)), if_neg (by omega), if_pos hk, pVar, if_pos (show u.text = ⟨#[91]⟩ from h1'), he', closed, if_pos (show c.text = ⟨#[93]⟩ from h5)]
theorem expr_comp : Comp pExpr 0 24 5 11 := comp_comp (Nat.le_refl _) (factor_comp 24 (Nat.le_refl _))
end Rf
end Go.Proofs.YthleadfkfnnadaaGreat
