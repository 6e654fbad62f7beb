/- Tokens of a list of bytes, as a relation: what a line is spelt of. No program, no walk. -/
import Derived.Test.YtbpajiljfppjcaaGreatDoorMkC
import Derived.Test.YtbpajiljfppjcaaGreatDoorRtTidy
namespace Go.Proofs.YtbpajiljfppjcaaGreatDoor
namespace Rt

def namesF : List ByteArray := [⟨#[112]⟩, ⟨#[113]⟩, ⟨#[120]⟩, ⟨#[122]⟩]
theorem good_if_f : (namesF.all fun a => digs.all fun n => lnGood parsF 5 (ifT a n)) = true := by kernel_rfl
theorem good_wh_f : (namesF.all fun a => digs.all fun n => lnGood parsF 7 (whT a n)) = true := by kernel_rfl
theorem good_inc_f : (namesF.all fun a => lnGood parsF 8 (incT a)) = true := by kernel_rfl
theorem good_pr_f : (namesF.all fun a => digs.all fun n => lnGood parsF 10 (prT a n)) = true := by kernel_rfl
theorem good_dv_f : (namesF.all fun a => digs.all fun n => lnGood parsF 8 (dvT a n)) = true := by kernel_rfl
theorem good_p0_f : (namesF.all fun a => digs.all fun n => lnGood parsF 8 (plainE 0 a ⟨#[]⟩ n)) = true := by kernel_rfl
theorem good_p1_f : (namesF.all fun a => namesF.all fun b => lnGood parsF 8 (plainE 1 a b ⟨#[]⟩)) = true := by kernel_rfl
theorem good_p2_f : (namesF.all fun a => namesF.all fun b => lnGood parsF 9 (plainE 2 a b ⟨#[]⟩)) = true := by kernel_rfl
theorem good_p3_f : (namesF.all fun a => digs.all fun n => lnGood parsF 8 (plainE 3 a ⟨#[]⟩ n)) = true := by kernel_rfl
theorem good_p4_f : (namesF.all fun a => lnGood parsF 10 (plainE 4 a ⟨#[]⟩ ⟨#[]⟩)) = true := by kernel_rfl
theorem good_p5_f : (namesF.all fun a => lnGood parsF 11 (plainE 5 a ⟨#[]⟩ ⟨#[]⟩)) = true := by kernel_rfl
theorem good_p6_f : (namesF.all fun a => digs.all fun n => lnGood parsF 12 (plainE 6 a ⟨#[]⟩ n)) = true := by kernel_rfl
theorem good_p7_f : (namesF.all fun a => namesF.all fun b => digs.all fun n => lnGood parsF 8 (plainE 7 a b n)) = true := by kernel_rfl
theorem good_el_f : lnGood parsF 6 elT = true := by kernel_rfl
theorem good_en_f : lnGood parsF 4 enT = true := by kernel_rfl
theorem good_if_m : (varsM.all fun a => digs.all fun n => lnGood [] 5 (ifT a n)) = true := by kernel_rfl
theorem good_wh_m : (varsM.all fun a => digs.all fun n => lnGood [] 7 (whT a n)) = true := by kernel_rfl
theorem good_inc_m : (varsM.all fun a => lnGood [] 8 (incT a)) = true := by kernel_rfl
theorem good_pr_m : (varsM.all fun a => digs.all fun n => lnGood [] 10 (prT a n)) = true := by kernel_rfl
theorem good_dv_m : (varsM.all fun a => digs.all fun n => lnGood [] 8 (dvT a n)) = true := by kernel_rfl
theorem good_p0_m : (varsM.all fun a => digs.all fun n => lnGood [] 8 (plainE 0 a ⟨#[]⟩ n)) = true := by kernel_rfl
theorem good_p1_m : (varsM.all fun a => varsM.all fun b => lnGood [] 8 (plainE 1 a b ⟨#[]⟩)) = true := by kernel_rfl
theorem good_p2_m : (varsM.all fun a => varsM.all fun b => lnGood [] 9 (plainE 2 a b ⟨#[]⟩)) = true := by kernel_rfl
theorem good_p3_m : (varsM.all fun a => digs.all fun n => lnGood [] 8 (plainE 3 a ⟨#[]⟩ n)) = true := by kernel_rfl
theorem good_p4_m : (varsM.all fun a => lnGood [] 10 (plainE 4 a ⟨#[]⟩ ⟨#[]⟩)) = true := by kernel_rfl
theorem good_p5_m : (varsM.all fun a => lnGood [] 11 (plainE 5 a ⟨#[]⟩ ⟨#[]⟩)) = true := by kernel_rfl
theorem good_p6_m : (varsM.all fun a => digs.all fun n => lnGood [] 12 (plainE 6 a ⟨#[]⟩ n)) = true := by kernel_rfl
theorem good_p7_m : (varsM.all fun a => varsM.all fun b => digs.all fun n => lnGood [] 8 (plainE 7 a b n)) = true := by kernel_rfl
theorem good_el_m : lnGood [] 6 elT = true := by kernel_rfl
theorem good_en_m : lnGood [] 4 enT = true := by kernel_rfl
end Rt
end Go.Proofs.YtbpajiljfppjcaaGreatDoor

namespace Go.Proofs.YtbpajiljfppjcaaGreatDoor
namespace Rt

/-- The bytes of a text. -/
def bytes (s : ByteArray) : List UInt8 := s.data.toList
theorem bytes_size (s : ByteArray) : (bytes s).length = s.size := by simp [bytes]
theorem bytes_app (a b : ByteArray) : bytes (a ++ b) = bytes a ++ bytes b := by simp [bytes, ByteArray.data_append]
theorem bytes_ext {a b : ByteArray} (h : bytes a = bytes b) : a = b := by
  cases a; cases b
  simp [bytes] at h
  simp [h]
theorem bytes_mk (l : Array UInt8) : bytes ⟨l⟩ = l.toList := rfl
theorem byteAt_get (s : ByteArray) (a : Nat) (h : a < s.size) : byteAt s a = ((bytes s)[a]'(by rw [bytes_size]; exact h)).toNat := by
  rw [byteAt_lt h]
  rfl
theorem bytes_drop (s : ByteArray) (a : Nat) (h : a < s.size) : ∃ c, (bytes s).drop a = c :: (bytes s).drop (a + 1) ∧ byteAt s a = (c.toNat : Int) := by
  refine ⟨(bytes s)[a]'(by rw [bytes_size]; exact h), ?_, byteAt_get s a h⟩
  exact List.drop_eq_getElem_cons _

def isLetter (c : UInt8) : Bool := within 97 122 c
def isDigit (c : UInt8) : Bool := within 48 57 c
theorem letter_iff (c : UInt8) : isLetter c = true ↔ 97 ≤ c.toNat ∧ c.toNat ≤ 122 := by
  unfold isLetter within; simp; omega
theorem digit_iff (c : UInt8) : isDigit c = true ↔ 48 ≤ c.toNat ∧ c.toNat ≤ 57 := by
  unfold isDigit within; simp; omega
theorem not_both (c : UInt8) (h : isLetter c = true) : isDigit c = false := by
  rw [letter_iff] at h
  rw [Bool.eq_false_iff]
  intro h2
  rw [digit_iff] at h2
  omega
def isSign (c : UInt8) : Bool := sign (c.toNat : Int)
theorem sign_vals (c : UInt8) (h : isSign c = true) : c.toNat = 43 ∨ c.toNat = 45 ∨ c.toNat = 42 ∨ c.toNat = 47 ∨ c.toNat = 37 ∨ c.toNat = 60 ∨ c.toNat = 61 ∨ c.toNat = 40 ∨ c.toNat = 41 ∨ c.toNat = 91 ∨ c.toNat = 93 ∨ c.toNat = 44 := by
  unfold isSign sign at h
  simp at h
  omega

/-- A token's text: its kind. -/
def TokIs (x : List UInt8) (k : Int) : Prop :=
  (k = 1 ∧ x ≠ [] ∧ x.length ≤ 8 ∧ ∀ c ∈ x, isLetter c = true) ∨ (k = 2 ∧ x ≠ [] ∧ x.length ≤ 9 ∧ ∀ c ∈ x, isDigit c = true) ∨ (k = 3 ∧ ∃ c, x = [c] ∧ isSign c = true)
/-- What stands behind a token does not go on with it. -/
def Ends (k : Int) (l : List UInt8) : Prop := ∀ c r, l = c :: r → (k = 1 → isLetter c = false) ∧ (k = 2 → isDigit c = false)

/-- A line's bytes are these tokens, and blanks. -/
inductive Spell : List UInt8 → List Tk → Prop
  | nil : Spell [] []
  | blank {l ts} : Spell l ts → Spell (32 :: l) ts
  | tok {x l ts} {k : Int} {s : ByteArray} : TokIs x k → bytes s = x → Ends k l → Spell l ts → Spell (x ++ l) (⟨k, s⟩ :: ts)

theorem cw_drop (s : ByteArray) (lo hi : Int) (a : Nat) : cw s lo hi a = (((bytes s).drop a).takeWhile (within lo hi)).length := rfl

theorem tw_all {p : UInt8 → Bool} : ∀ (x l : List UInt8), (∀ c ∈ x, p c = true) → (∀ c r, l = c :: r → p c = false) → (x ++ l).takeWhile p = x
  | [], l, _, h => by
    cases l with
    | nil => rfl
    | cons c r => simp [h c r rfl]
  | c :: x, l, h1, h2 => by
    simp only [List.cons_append, List.takeWhile_cons]
    rw [if_pos (h1 c (List.mem_cons_self ..)), tw_all x l (fun d hd => h1 d (List.mem_cons_of_mem _ hd)) h2]
theorem tw_zero {p : UInt8 → Bool} {c : UInt8} {l : List UInt8} (h : p c = false) : ((c :: l).takeWhile p).length = 0 := by simp [h]

theorem meas_of {s : ByteArray} {a : Nat} {x l : List UInt8} {k : Int} (ha : (bytes s).drop a = x ++ l) (hx : TokIs x k) (he : Ends k l) : measK s a = k ∧ measN s a = x.length := by
  have hlt : x ≠ [] → a < s.size := by
    intro hne
    by_cases h : a < s.size
    · exact h
    · rw [List.drop_eq_nil_of_le (by rw [bytes_size]; omega)] at ha
      have := congrArg List.length ha
      simp at this
      exact absurd (List.eq_nil_of_length_eq_zero (by omega)) hne
  rcases hx with ⟨rfl, hne, hl, hall⟩ | ⟨rfl, hne, hl, hall⟩ | ⟨rfl, c, rfl, hs⟩
  · have h1 : cw s 97 122 a = x.length := by
      rw [cw_drop, ha]
      have := tw_all (p := within 97 122) x l hall (fun c r e => (he c r e).1 rfl)
      rw [this]
    have h0 : 0 < x.length := List.length_pos_iff.mpr hne
    unfold measK measN
    rw [h1]
    rw [if_neg (by omega), if_pos h0, if_neg (by omega), if_pos h0]
    exact ⟨rfl, rfl⟩
  · obtain ⟨c, x', rfl⟩ : ∃ c x', x = c :: x' := by
      cases x with
      | nil => exact absurd rfl hne
      | cons c x' => exact ⟨c, x', rfl⟩
    have hd := hall c (List.mem_cons_self ..)
    have hnl : isLetter c = false := by
      rw [Bool.eq_false_iff]
      intro h2
      have := not_both c h2
      rw [this] at hd
      cases hd
    have h0 : cw s 97 122 a = 0 := by
      rw [cw_drop, ha]
      exact tw_zero hnl
    have h1 : cw s 48 57 a = (c :: x').length := by
      rw [cw_drop, ha]
      have := tw_all (p := within 48 57) (c :: x') l hall (fun c r e => (he c r e).2 rfl)
      rw [this]
    unfold measK measN
    rw [h0, h1]
    simp at hl ⊢
    omega
  · have hv := sign_vals c hs
    have hnl : isLetter c = false := by rw [Bool.eq_false_iff]; intro h2; rw [letter_iff] at h2; omega
    have hnd : isDigit c = false := by rw [Bool.eq_false_iff]; intro h2; rw [digit_iff] at h2; omega
    have h0 : cw s 97 122 a = 0 := by rw [cw_drop, ha]; exact tw_zero hnl
    have h1 : cw s 48 57 a = 0 := by rw [cw_drop, ha]; exact tw_zero hnd
    have hlt' := hlt (by simp)
    obtain ⟨c', e1, e2⟩ := bytes_drop s a hlt'
    rw [ha] at e1
    simp at e1
    obtain ⟨rfl, _⟩ := e1
    have hsg : sign (byteAt s a) = true := by rw [e2]; exact hs
    unfold measK measN
    rw [h0, h1]
    simp [hlt', hsg]

theorem extract_bytes (s : ByteArray) (a b : Nat) : bytes (s.extract a b) = ((bytes s).drop a).take (b - a) := by
  simp [bytes, ByteArray.data_extract, List.take_drop]
  try rw [List.drop_take]

theorem toksFrom_spell (s : ByteArray) : ∀ {l : List UInt8} {ts : List Tk}, Spell l ts → ∀ (f a : Nat) (acc : List Tk), (bytes s).drop a = l → a ≤ s.size → s.size < f + a → acc.length + ts.length ≤ 24 → toksFrom s f a acc = some (acc ++ ts) := by
  intro l ts h
  induction h with
  | nil =>
    intro f a acc ha hle hf hn
    cases f with
    | zero => omega
    | succ f =>
      have : ¬ a < s.size := by
        intro h
        obtain ⟨c, e1, _⟩ := bytes_drop s a h
        rw [ha] at e1
        cases e1
      rw [toksFrom, if_neg this]
      simp
  | @blank l ts h ih =>
    intro f a acc ha hle hf hn
    have hlt : a < s.size := by
      by_cases h : a < s.size
      · exact h
      · rw [List.drop_eq_nil_of_le (by rw [bytes_size]; omega)] at ha; cases ha
    obtain ⟨c, e1, e2⟩ := bytes_drop s a hlt
    rw [ha] at e1
    injection e1 with e1 e3
    subst e1
    cases f with
    | zero => omega
    | succ f =>
      rw [toksFrom, if_pos hlt, if_pos (by rw [e2]; rfl)]
      exact ih f (a + 1) acc e3.symm (by omega) (by omega) hn
  | @tok x l ts k tx hx hb he h ih =>
    intro f a acc ha hle hf hn
    obtain ⟨m1, m2⟩ := meas_of ha hx he
    have hne : x ≠ [] := by
      rcases hx with ⟨_, h, _⟩ | ⟨_, h, _⟩ | ⟨_, c, rfl, _⟩
      · exact h
      · exact h
      · simp
    have h0 : 0 < x.length := List.length_pos_iff.mpr hne
    have hlt : a < s.size := by
      by_cases h : a < s.size
      · exact h
      · rw [List.drop_eq_nil_of_le (by rw [bytes_size]; omega)] at ha
        have := congrArg List.length ha
        simp at this
        omega
    have hsz : a + x.length ≤ s.size := by
      have := congrArg List.length ha
      simp [bytes_size] at this
      omega
    obtain ⟨c, e1, e2⟩ := bytes_drop s a hlt
    have h32 : ¬ byteAt s a = 32 := by
      rw [e2]
      obtain ⟨c', x', rfl⟩ : ∃ c x', x = c :: x' := by
        cases x with
        | nil => exact absurd rfl hne
        | cons c x' => exact ⟨c, x', rfl⟩
      rw [ha] at e1
      simp only [List.cons_append] at e1
      injection e1 with e1 _
      subst e1
      rcases hx with ⟨_, _, _, h⟩ | ⟨_, _, _, h⟩ | ⟨_, c, e, h⟩
      · have := (letter_iff _).mp (h c' (List.mem_cons_self ..)); omega
      · have := (digit_iff _).mp (h c' (List.mem_cons_self ..)); omega
      · injection e with e _
        subst e
        have := sign_vals _ h; omega
    cases f with
    | zero => omega
    | succ f =>
      simp only [List.length_cons] at hn
      rw [toksFrom, if_pos hlt, if_neg h32, if_neg (by rw [m2]; omega), m1, m2]
      have hext : s.extract a (a + x.length) = tx := by
        apply bytes_ext
        rw [extract_bytes, ha, hb, Nat.add_sub_cancel_left, List.take_left']
        rfl
      rw [hext]
      have hd : (bytes s).drop (a + x.length) = l := by
        rw [← List.drop_drop, ha]
        simp
      have q := ih f (a + x.length) (acc ++ [(⟨k, tx⟩ : Tk)]) hd hsz (by omega) (by simp; omega)
      rw [q]
      simp
theorem toks_spell {s : ByteArray} {ts : List Tk} (h : Spell (bytes s) ts) (hn : ts.length ≤ 24) : toks s = some ts := by
  have := toksFrom_spell s h (s.size + 1) 0 [] (by simp) (by omega) (by omega) (by simpa using hn)
  simpa [toks] using this

theorem tw_split (p : UInt8 → Bool) : ∀ l : List UInt8, ∃ r, l = l.takeWhile p ++ r ∧ (∀ c r', r = c :: r' → p c = false)
  | [] => ⟨[], rfl, fun _ _ h => by cases h⟩
  | c :: l => by
    cases hc : p c with
    | true =>
      obtain ⟨r, h1, h2⟩ := tw_split p l
      refine ⟨r, ?_, h2⟩
      rw [List.takeWhile_cons, if_pos hc, List.cons_append, ← h1]
    | false =>
      refine ⟨c :: l, ?_, fun c' r' e => by injection e with e _; rw [← e]; exact hc⟩
      rw [List.takeWhile_cons, if_neg (by rw [hc]; simp)]
      rfl
theorem tw_mem (p : UInt8 → Bool) : ∀ l : List UInt8, ∀ c ∈ l.takeWhile p, p c = true
  | [], c, h => by cases h
  | d :: l, c, h => by
    cases hd : p d with
    | true =>
      rw [List.takeWhile_cons, if_pos hd] at h
      rcases List.mem_cons.mp h with rfl | h
      · exact hd
      · exact tw_mem p l c h
    | false => rw [List.takeWhile_cons, if_neg (by rw [hd]; simp)] at h; cases h
/-- A token that can be measured is spelt there. -/
theorem meas_tok {s : ByteArray} {a : Nat} (ha : a < s.size) (hn : ¬ measN s a = 0) :
    ∃ x l, (bytes s).drop a = x ++ l ∧ x.length = measN s a ∧ TokIs x (measK s a) ∧ Ends (measK s a) l := by
  obtain ⟨l1, p1, p2⟩ := tw_split (within 97 122) ((bytes s).drop a)
  obtain ⟨l2, q1, q2⟩ := tw_split (within 48 57) ((bytes s).drop a)
  by_cases h1 : 8 < cw s 97 122 a
  · exact absurd (by unfold measN; rw [if_pos h1]) hn
  by_cases h2 : 0 < cw s 97 122 a
  · have hN : measN s a = cw s 97 122 a := by unfold measN; rw [if_neg h1, if_pos h2]
    have hK : measK s a = 1 := by unfold measK; rw [if_neg h1, if_pos h2]
    rw [hN, hK]
    refine ⟨_, l1, p1, rfl, Or.inl ⟨rfl, ?_, ?_, tw_mem _ _⟩, fun c r e => ⟨fun _ => p2 c r e, fun h => (by omega)⟩⟩
    · intro h; rw [cw_drop, h] at h2; simp at h2
    · rw [cw_drop] at h1; omega
  by_cases h3 : 9 < cw s 48 57 a
  · exact absurd (by unfold measN; rw [if_neg h1, if_neg h2, if_pos h3]) hn
  by_cases h4 : 0 < cw s 48 57 a
  · have hN : measN s a = cw s 48 57 a := by unfold measN; rw [if_neg h1, if_neg h2, if_neg h3, if_pos h4]
    have hK : measK s a = 2 := by unfold measK; rw [if_neg h1, if_neg h2, if_neg h3, if_pos h4]
    rw [hN, hK]
    refine ⟨_, l2, q1, rfl, Or.inr (Or.inl ⟨rfl, ?_, ?_, tw_mem _ _⟩), fun c r e => ⟨fun h => (by omega), fun _ => q2 c r e⟩⟩
    · intro h; rw [cw_drop, h] at h4; simp at h4
    · rw [cw_drop] at h3; omega
  by_cases h5 : a < s.size ∧ sign (byteAt s a) = true
  · have hN : measN s a = 1 := by unfold measN; rw [if_neg h1, if_neg h2, if_neg h3, if_neg h4, if_pos h5]
    have hK : measK s a = 3 := by unfold measK; rw [if_neg h1, if_neg h2, if_neg h3, if_neg h4, if_pos h5]
    rw [hN, hK]
    obtain ⟨c, e1, e2⟩ := bytes_drop s a ha
    refine ⟨[c], (bytes s).drop (a + 1), by rw [e1]; rfl, rfl, Or.inr (Or.inr ⟨rfl, c, rfl, ?_⟩), fun c r e => ⟨fun h => (by omega), fun h => (by omega)⟩⟩
    unfold isSign
    rw [← e2]
    exact h5.2
  · exact absurd (by unfold measN; rw [if_neg h1, if_neg h2, if_neg h3, if_neg h4, if_neg h5]) hn

theorem spell_of_from (s : ByteArray) : ∀ (f a : Nat) (acc res : List Tk), a ≤ s.size → toksFrom s f a acc = some res → acc.length ≤ 24 → ∃ ts, res = acc ++ ts ∧ Spell ((bytes s).drop a) ts ∧ res.length ≤ 24
  | 0, _, _, _, _, h, _ => by simp [toksFrom] at h
  | f + 1, a, acc, res, ha, h, h24 => by
    rw [toksFrom] at h
    by_cases hlt : a < s.size
    · rw [if_pos hlt] at h
      obtain ⟨c, e1, e2⟩ := bytes_drop s a hlt
      by_cases h32 : byteAt s a = 32
      · rw [if_pos h32] at h
        obtain ⟨ts, g1, g2, g3⟩ := spell_of_from s f (a + 1) acc res (by omega) h h24
        refine ⟨ts, g1, ?_, g3⟩
        rw [e1]
        have : c = 32 := by
          rw [e2] at h32
          apply UInt8.toNat_inj.mp
          show c.toNat = 32
          omega
        rw [this]
        exact Spell.blank g2
      · rw [if_neg h32] at h
        by_cases hm : measN s a = 0 ∨ 24 ≤ acc.length
        · rw [if_pos hm] at h; cases h
        · rw [if_neg hm] at h
          obtain ⟨x, l, m1, m2, m3, m4⟩ := meas_tok hlt (fun e => hm (Or.inl e))
          have hle := measN_le s a ha
          obtain ⟨ts, g1, g2, g3⟩ := spell_of_from s f (a + measN s a) _ res hle h (by simp; omega)
          refine ⟨⟨measK s a, s.extract a (a + measN s a)⟩ :: ts, by rw [g1]; simp, ?_, g3⟩
          rw [m1]
          have hl : (bytes s).drop (a + measN s a) = l := by
            rw [← m2, ← List.drop_drop, m1]
            simp
          rw [hl] at g2
          refine Spell.tok m3 ?_ m4 g2
          rw [extract_bytes, m1, ← m2, Nat.add_sub_cancel_left, List.take_left']
          rfl
    · rw [if_neg hlt] at h
      simp at h
      refine ⟨[], by simp [h], ?_, by rw [← h]; exact h24⟩
      rw [List.drop_eq_nil_of_le (by rw [bytes_size]; omega)]
      exact Spell.nil
theorem spell_of_toks {s : ByteArray} {ts : List Tk} (h : toks s = some ts) : Spell (bytes s) ts ∧ ts.length ≤ 24 := by
  obtain ⟨ts', h1, h2, h3⟩ := spell_of_from s _ 0 [] ts (by omega) h (by simp)
  simp at h1 h2
  subst h1
  exact ⟨h2, h3⟩

/-- The bytes without blanks. -/
def bareL (l : List UInt8) : List UInt8 := l.filter (fun c => c != 32)
theorem tok_bare {x : List UInt8} {k : Int} (h : TokIs x k) : (∀ c ∈ x, ¬ c.toNat = 32 ∧ ¬ c.toNat = 10) ∧ x ≠ [] := by
  rcases h with ⟨_, h0, _, h⟩ | ⟨_, h0, _, h⟩ | ⟨_, c, rfl, h⟩
  · exact ⟨fun c hc => by have := (letter_iff c).mp (h c hc); omega, h0⟩
  · exact ⟨fun c hc => by have := (digit_iff c).mp (h c hc); omega, h0⟩
  · exact ⟨fun d hd => by rw [List.mem_singleton.mp hd]; have := sign_vals c h; omega, by simp⟩
theorem ne32 {c : UInt8} (h : ¬ c.toNat = 32) : (c != 32) = true := by
  rw [bne_iff_ne]; intro e; subst e; exact h rfl
theorem bare_tok {x : List UInt8} {k : Int} (h : TokIs x k) : bareL x = x := by
  unfold bareL
  exact List.filter_eq_self.mpr (fun c hc => ne32 ((tok_bare h).1 c hc).1)
theorem spell_bare {l : List UInt8} {ts : List Tk} (h : Spell l ts) : bareL l = ts.flatMap (fun t => bytes t.text) := by
  induction h with
  | nil => rfl
  | blank _ ih => exact ih
  | tok hx hb _ _ ih =>
    have e : ∀ a b : List UInt8, bareL (a ++ b) = bareL a ++ bareL b := fun a b => by simp [bareL]
    rw [e, bare_tok hx, ih]
    simp [hb]
theorem spell_clean {l : List UInt8} {ts : List Tk} (h : Spell l ts) : ∀ c ∈ l, ¬ c.toNat = 10 := by
  induction h with
  | nil => intro c h; cases h
  | blank _ ih =>
    intro c hc
    rcases List.mem_cons.mp hc with rfl | hc
    · decide
    · exact ih c hc
  | tok hx _ _ _ ih =>
    intro c hc
    rcases List.mem_append.mp hc with hc | hc
    · exact ((tok_bare hx).1 c hc).2
    · exact ih c hc
end Rt
end Go.Proofs.YtbpajiljfppjcaaGreatDoor

