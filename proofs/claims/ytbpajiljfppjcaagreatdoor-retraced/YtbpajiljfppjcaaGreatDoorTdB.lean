/- Lines of a list of bytes; blanks put in; tidied lines. No program, no walk. -/
import Derived.Test.YtbpajiljfppjcaaGreatDoorRtTidy
namespace Go.Proofs.YtbpajiljfppjcaaGreatDoor
namespace Rt

/-- The bytes of a text. -/
def bytes (s : ByteArray) : List UInt8 := s.data.toList
theorem bytes_size (s : ByteArray) : (bytes s).length = s.size := by simp [bytes]
theorem bytes_app (a b : ByteArray) : bytes (a ++ b) = bytes a ++ bytes b := by simp [bytes, ByteArray.data_append]
theorem bytes_ext {a b : ByteArray} (h : bytes a = bytes b) : a = b := by
  cases a; cases b
  simp [bytes] at h
  simp [h]
theorem bytes_mk (l : Array UInt8) : bytes ⟨l⟩ = l.toList := rfl
theorem byteAt_get (s : ByteArray) (a : Nat) (h : a < s.size) : byteAt s a = ((bytes s)[a]'(by rw [bytes_size]; exact h)).toNat := by
  rw [byteAt_lt h]
  rfl
theorem bytes_drop (s : ByteArray) (a : Nat) (h : a < s.size) : ∃ c, (bytes s).drop a = c :: (bytes s).drop (a + 1) ∧ byteAt s a = (c.toNat : Int) := by
  refine ⟨(bytes s)[a]'(by rw [bytes_size]; exact h), ?_, byteAt_get s a h⟩
  exact List.drop_eq_getElem_cons _

def isLetter (c : UInt8) : Bool := within 97 122 c
def isDigit (c : UInt8) : Bool := within 48 57 c
theorem letter_iff (c : UInt8) : isLetter c = true ↔ 97 ≤ c.toNat ∧ c.toNat ≤ 122 := by
  unfold isLetter within; simp; omega
theorem digit_iff (c : UInt8) : isDigit c = true ↔ 48 ≤ c.toNat ∧ c.toNat ≤ 57 := by
  unfold isDigit within; simp; omega
theorem not_both (c : UInt8) (h : isLetter c = true) : isDigit c = false := by
  rw [letter_iff] at h
  rw [Bool.eq_false_iff]
  intro h2
  rw [digit_iff] at h2
  omega
def isSign (c : UInt8) : Bool := sign (c.toNat : Int)
theorem sign_vals (c : UInt8) (h : isSign c = true) : c.toNat = 43 ∨ c.toNat = 45 ∨ c.toNat = 42 ∨ c.toNat = 47 ∨ c.toNat = 37 ∨ c.toNat = 60 ∨ c.toNat = 61 ∨ c.toNat = 40 ∨ c.toNat = 41 ∨ c.toNat = 91 ∨ c.toNat = 93 ∨ c.toNat = 44 := by
  unfold isSign sign at h
  simp at h
  omega

/-- A token's text: its kind. -/
def TokIs (x : List UInt8) (k : Int) : Prop :=
  (k = 1 ∧ x ≠ [] ∧ x.length ≤ 8 ∧ ∀ c ∈ x, isLetter c = true) ∨ (k = 2 ∧ x ≠ [] ∧ x.length ≤ 9 ∧ ∀ c ∈ x, isDigit c = true) ∨ (k = 3 ∧ ∃ c, x = [c] ∧ isSign c = true)
/-- What stands behind a token does not go on with it. -/
def Ends (k : Int) (l : List UInt8) : Prop := ∀ c r, l = c :: r → (k = 1 → isLetter c = false) ∧ (k = 2 → isDigit c = false)

/-- A line's bytes are these tokens, and blanks. -/
inductive Spell : List UInt8 → List Tk → Prop
  | nil : Spell [] []
  | blank {l ts} : Spell l ts → Spell (32 :: l) ts
  | tok {x l ts} {k : Int} {s : ByteArray} : TokIs x k → bytes s = x → Ends k l → Spell l ts → Spell (x ++ l) (⟨k, s⟩ :: ts)

theorem cw_drop (s : ByteArray) (lo hi : Int) (a : Nat) : cw s lo hi a = (((bytes s).drop a).takeWhile (within lo hi)).length := rfl

theorem tw_all {p : UInt8 → Bool} : ∀ (x l : List UInt8), (∀ c ∈ x, p c = true) → (∀ c r, l = c :: r → p c = false) → (x ++ l).takeWhile p = x
  | [], l, _, h => by
    cases l with
    | nil => rfl
    | cons c r => simp [h c r rfl]
  | c :: x, l, h1, h2 => by
    simp only [List.cons_append, List.takeWhile_cons]
    rw [if_pos (h1 c (List.mem_cons_self ..)), tw_all x l (fun d hd => h1 d (List.mem_cons_of_mem _ hd)) h2]
theorem tw_zero {p : UInt8 → Bool} {c : UInt8} {l : List UInt8} (h : p c = false) : ((c :: l).takeWhile p).length = 0 := by simp [h]

theorem meas_of {s : ByteArray} {a : Nat} {x l : List UInt8} {k : Int} (ha : (bytes s).drop a = x ++ l) (hx : TokIs x k) (he : Ends k l) : measK s a = k ∧ measN s a = x.length := by
  have hlt : x ≠ [] → a < s.size := by
    intro hne
    by_cases h : a < s.size
    · exact h
    · rw [List.drop_eq_nil_of_le (by rw [bytes_size]; omega)] at ha
      have := congrArg List.length ha
      simp at this
      exact absurd (List.eq_nil_of_length_eq_zero (by omega)) hne
  rcases hx with ⟨rfl, hne, hl, hall⟩ | ⟨rfl, hne, hl, hall⟩ | ⟨rfl, c, rfl, hs⟩
  · have h1 : cw s 97 122 a = x.length := by
      rw [cw_drop, ha]
      have := tw_all (p := within 97 122) x l hall (fun c r e => (he c r e).1 rfl)
      rw [this]
    have h0 : 0 < x.length := List.length_pos_iff.mpr hne
    unfold measK measN
    rw [h1]
    rw [if_neg (by omega), if_pos h0, if_neg (by omega), if_pos h0]
    exact ⟨rfl, rfl⟩
  · obtain ⟨c, x', rfl⟩ : ∃ c x', x = c :: x' := by
      cases x with
      | nil => exact absurd rfl hne
      | cons c x' => exact ⟨c, x', rfl⟩
    have hd := hall c (List.mem_cons_self ..)
    have hnl : isLetter c = false := by
      rw [Bool.eq_false_iff]
      intro h2
      have := not_both c h2
      rw [this] at hd
      cases hd
    have h0 : cw s 97 122 a = 0 := by
      rw [cw_drop, ha]
      exact tw_zero hnl
    have h1 : cw s 48 57 a = (c :: x').length := by
      rw [cw_drop, ha]
      have := tw_all (p := within 48 57) (c :: x') l hall (fun c r e => (he c r e).2 rfl)
      rw [this]
    unfold measK measN
    rw [h0, h1]
    simp at hl ⊢
    omega
  · have hv := sign_vals c hs
    have hnl : isLetter c = false := by rw [Bool.eq_false_iff]; intro h2; rw [letter_iff] at h2; omega
    have hnd : isDigit c = false := by rw [Bool.eq_false_iff]; intro h2; rw [digit_iff] at h2; omega
    have h0 : cw s 97 122 a = 0 := by rw [cw_drop, ha]; exact tw_zero hnl
    have h1 : cw s 48 57 a = 0 := by rw [cw_drop, ha]; exact tw_zero hnd
    have hlt' := hlt (by simp)
    obtain ⟨c', e1, e2⟩ := bytes_drop s a hlt'
    rw [ha] at e1
    simp at e1
    obtain ⟨rfl, _⟩ := e1
    have hsg : sign (byteAt s a) = true := by rw [e2]; exact hs
    unfold measK measN
    rw [h0, h1]
    simp [hlt', hsg]

theorem extract_bytes (s : ByteArray) (a b : Nat) : bytes (s.extract a b) = ((bytes s).drop a).take (b - a) := by
  simp [bytes, ByteArray.data_extract, List.take_drop]
  try rw [List.drop_take]

theorem toksFrom_spell (s : ByteArray) : ∀ {l : List UInt8} {ts : List Tk}, Spell l ts → ∀ (f a : Nat) (acc : List Tk), (bytes s).drop a = l → a ≤ s.size → s.size < f + a → acc.length + ts.length ≤ 24 → toksFrom s f a acc = some (acc ++ ts) := by
  intro l ts h
  induction h with
  | nil =>
    intro f a acc ha hle hf hn
    cases f with
    | zero => omega
    | succ f =>
      have : ¬ a < s.size := by
        intro h
        obtain ⟨c, e1, _⟩ := bytes_drop s a h
        rw [ha] at e1
        cases e1
      rw [toksFrom, if_neg this]
      simp
  | @blank l ts h ih =>
    intro f a acc ha hle hf hn
    have hlt : a < s.size := by
      by_cases h : a < s.size
      · exact h
      · rw [List.drop_eq_nil_of_le (by rw [bytes_size]; omega)] at ha; cases ha
    obtain ⟨c, e1, e2⟩ := bytes_drop s a hlt
    rw [ha] at e1
    injection e1 with e1 e3
    subst e1
    cases f with
    | zero => omega
    | succ f =>
      rw [toksFrom, if_pos hlt, if_pos (by rw [e2]; rfl)]
      exact ih f (a + 1) acc e3.symm (by omega) (by omega) hn
  | @tok x l ts k tx hx hb he h ih =>
    intro f a acc ha hle hf hn
    obtain ⟨m1, m2⟩ := meas_of ha hx he
    have hne : x ≠ [] := by
      rcases hx with ⟨_, h, _⟩ | ⟨_, h, _⟩ | ⟨_, c, rfl, _⟩
      · exact h
      · exact h
      · simp
    have h0 : 0 < x.length := List.length_pos_iff.mpr hne
    have hlt : a < s.size := by
      by_cases h : a < s.size
      · exact h
      · rw [List.drop_eq_nil_of_le (by rw [bytes_size]; omega)] at ha
        have := congrArg List.length ha
        simp at this
        omega
    have hsz : a + x.length ≤ s.size := by
      have := congrArg List.length ha
      simp [bytes_size] at this
      omega
    obtain ⟨c, e1, e2⟩ := bytes_drop s a hlt
    have h32 : ¬ byteAt s a = 32 := by
      rw [e2]
      obtain ⟨c', x', rfl⟩ : ∃ c x', x = c :: x' := by
        cases x with
        | nil => exact absurd rfl hne
        | cons c x' => exact ⟨c, x', rfl⟩
      rw [ha] at e1
      simp only [List.cons_append] at e1
      injection e1 with e1 _
      subst e1
      rcases hx with ⟨_, _, _, h⟩ | ⟨_, _, _, h⟩ | ⟨_, c, e, h⟩
      · have := (letter_iff _).mp (h c' (List.mem_cons_self ..)); omega
      · have := (digit_iff _).mp (h c' (List.mem_cons_self ..)); omega
      · injection e with e _
        subst e
        have := sign_vals _ h; omega
    cases f with
    | zero => omega
    | succ f =>
      simp only [List.length_cons] at hn
      rw [toksFrom, if_pos hlt, if_neg h32, if_neg (by rw [m2]; omega), m1, m2]
      have hext : s.extract a (a + x.length) = tx := by
        apply bytes_ext
        rw [extract_bytes, ha, hb, Nat.add_sub_cancel_left, List.take_left']
        rfl
      rw [hext]
      have hd : (bytes s).drop (a + x.length) = l := by
        rw [← List.drop_drop, ha]
        simp
      have q := ih f (a + x.length) (acc ++ [(⟨k, tx⟩ : Tk)]) hd hsz (by omega) (by simp; omega)
      rw [q]
      simp
theorem toks_spell {s : ByteArray} {ts : List Tk} (h : Spell (bytes s) ts) (hn : ts.length ≤ 24) : toks s = some ts := by
  have := toksFrom_spell s h (s.size + 1) 0 [] (by simp) (by omega) (by omega) (by simpa using hn)
  simpa [toks] using this

theorem tw_split (p : UInt8 → Bool) : ∀ l : List UInt8, ∃ r, l = l.takeWhile p ++ r ∧ (∀ c r', r = c :: r' → p c = false)
  | [] => ⟨[], rfl, fun _ _ h => by cases h⟩
  | c :: l => by
    cases hc : p c with
    | true =>
      obtain ⟨r, h1, h2⟩ := tw_split p l
      refine ⟨r, ?_, h2⟩
      rw [List.takeWhile_cons, if_pos hc, List.cons_append, ← h1]
    | false =>
      refine ⟨c :: l, ?_, fun c' r' e => by injection e with e _; rw [← e]; exact hc⟩
      rw [List.takeWhile_cons, if_neg (by rw [hc]; simp)]
      rfl
theorem tw_mem (p : UInt8 → Bool) : ∀ l : List UInt8, ∀ c ∈ l.takeWhile p, p c = true
  | [], c, h => by cases h
  | d :: l, c, h => by
    cases hd : p d with
    | true =>
      rw [List.takeWhile_cons, if_pos hd] at h
      rcases List.mem_cons.mp h with rfl | h
      · exact hd
      · exact tw_mem p l c h
    | false => rw [List.takeWhile_cons, if_neg (by rw [hd]; simp)] at h; cases h
/-- A token that can be measured is spelt there. -/
theorem meas_tok {s : ByteArray} {a : Nat} (ha : a < s.size) (hn : ¬ measN s a = 0) :
    ∃ x l, (bytes s).drop a = x ++ l ∧ x.length = measN s a ∧ TokIs x (measK s a) ∧ Ends (measK s a) l := by
  obtain ⟨l1, p1, p2⟩ := tw_split (within 97 122) ((bytes s).drop a)
  obtain ⟨l2, q1, q2⟩ := tw_split (within 48 57) ((bytes s).drop a)
  by_cases h1 : 8 < cw s 97 122 a
  · exact absurd (by unfold measN; rw [if_pos h1]) hn
  by_cases h2 : 0 < cw s 97 122 a
  · have hN : measN s a = cw s 97 122 a := by unfold measN; rw [if_neg h1, if_pos h2]
    have hK : measK s a = 1 := by unfold measK; rw [if_neg h1, if_pos h2]
    rw [hN, hK]
    refine ⟨_, l1, p1, rfl, Or.inl ⟨rfl, ?_, ?_, tw_mem _ _⟩, fun c r e => ⟨fun _ => p2 c r e, fun h => (by omega)⟩⟩
    · intro h; rw [cw_drop, h] at h2; simp at h2
    · rw [cw_drop] at h1; omega
  by_cases h3 : 9 < cw s 48 57 a
  · exact absurd (by unfold measN; rw [if_neg h1, if_neg h2, if_pos h3]) hn
  by_cases h4 : 0 < cw s 48 57 a
  · have hN : measN s a = cw s 48 57 a := by unfold measN; rw [if_neg h1, if_neg h2, if_neg h3, if_pos h4]
    have hK : measK s a = 2 := by unfold measK; rw [if_neg h1, if_neg h2, if_neg h3, if_pos h4]
    rw [hN, hK]
    refine ⟨_, l2, q1, rfl, Or.inr (Or.inl ⟨rfl, ?_, ?_, tw_mem _ _⟩), fun c r e => ⟨fun h => (by omega), fun _ => q2 c r e⟩⟩
    · intro h; rw [cw_drop, h] at h4; simp at h4
    · rw [cw_drop] at h3; omega
  by_cases h5 : a < s.size ∧ sign (byteAt s a) = true
  · have hN : measN s a = 1 := by unfold measN; rw [if_neg h1, if_neg h2, if_neg h3, if_neg h4, if_pos h5]
    have hK : measK s a = 3 := by unfold measK; rw [if_neg h1, if_neg h2, if_neg h3, if_neg h4, if_pos h5]
    rw [hN, hK]
    obtain ⟨c, e1, e2⟩ := bytes_drop s a ha
    refine ⟨[c], (bytes s).drop (a + 1), by rw [e1]; rfl, rfl, Or.inr (Or.inr ⟨rfl, c, rfl, ?_⟩), fun c r e => ⟨fun h => (by omega), fun h => (by omega)⟩⟩
    unfold isSign
    rw [← e2]
    exact h5.2
  · exact absurd (by unfold measN; rw [if_neg h1, if_neg h2, if_neg h3, if_neg h4, if_neg h5]) hn

theorem spell_of_from (s : ByteArray) : ∀ (f a : Nat) (acc res : List Tk), a ≤ s.size → toksFrom s f a acc = some res → acc.length ≤ 24 → ∃ ts, res = acc ++ ts ∧ Spell ((bytes s).drop a) ts ∧ res.length ≤ 24
  | 0, _, _, _, _, h, _ => by simp [toksFrom] at h
  | f + 1, a, acc, res, ha, h, h24 => by
    rw [toksFrom] at h
    by_cases hlt : a < s.size
    · rw [if_pos hlt] at h
      obtain ⟨c, e1, e2⟩ := bytes_drop s a hlt
      by_cases h32 : byteAt s a = 32
      · rw [if_pos h32] at h
        obtain ⟨ts, g1, g2, g3⟩ := spell_of_from s f (a + 1) acc res (by omega) h h24
        refine ⟨ts, g1, ?_, g3⟩
        rw [e1]
        have : c = 32 := by
          rw [e2] at h32
          apply UInt8.toNat_inj.mp
          show c.toNat = 32
          omega
        rw [this]
        exact Spell.blank g2
      · rw [if_neg h32] at h
        by_cases hm : measN s a = 0 ∨ 24 ≤ acc.length
        · rw [if_pos hm] at h; cases h
        · rw [if_neg hm] at h
          obtain ⟨x, l, m1, m2, m3, m4⟩ := meas_tok hlt (fun e => hm (Or.inl e))
          have hle := measN_le s a ha
          obtain ⟨ts, g1, g2, g3⟩ := spell_of_from s f (a + measN s a) _ res hle h (by simp; omega)
          refine ⟨⟨measK s a, s.extract a (a + measN s a)⟩ :: ts, by rw [g1]; simp, ?_, g3⟩
          rw [m1]
          have hl : (bytes s).drop (a + measN s a) = l := by
            rw [← m2, ← List.drop_drop, m1]
            simp
          rw [hl] at g2
          refine Spell.tok m3 ?_ m4 g2
          rw [extract_bytes, m1, ← m2, Nat.add_sub_cancel_left, List.take_left']
          rfl
    · rw [if_neg hlt] at h
      simp at h
      refine ⟨[], by simp [h], ?_, by rw [← h]; exact h24⟩
      rw [List.drop_eq_nil_of_le (by rw [bytes_size]; omega)]
      exact Spell.nil
theorem spell_of_toks {s : ByteArray} {ts : List Tk} (h : toks s = some ts) : Spell (bytes s) ts ∧ ts.length ≤ 24 := by
  obtain ⟨ts', h1, h2, h3⟩ := spell_of_from s _ 0 [] ts (by omega) h (by simp)
  simp at h1 h2
  subst h1
  exact ⟨h2, h3⟩

/-- The bytes without blanks. -/
def bareL (l : List UInt8) : List UInt8 := l.filter (fun c => c != 32)
theorem tok_bare {x : List UInt8} {k : Int} (h : TokIs x k) : (∀ c ∈ x, ¬ c.toNat = 32 ∧ ¬ c.toNat = 10) ∧ x ≠ [] := by
  rcases h with ⟨_, h0, _, h⟩ | ⟨_, h0, _, h⟩ | ⟨_, c, rfl, h⟩
  · exact ⟨fun c hc => by have := (letter_iff c).mp (h c hc); omega, h0⟩
  · exact ⟨fun c hc => by have := (digit_iff c).mp (h c hc); omega, h0⟩
  · exact ⟨fun d hd => by rw [List.mem_singleton.mp hd]; have := sign_vals c h; omega, by simp⟩
theorem ne32 {c : UInt8} (h : ¬ c.toNat = 32) : (c != 32) = true := by
  rw [bne_iff_ne]; intro e; subst e; exact h rfl
theorem bare_tok {x : List UInt8} {k : Int} (h : TokIs x k) : bareL x = x := by
  unfold bareL
  exact List.filter_eq_self.mpr (fun c hc => ne32 ((tok_bare h).1 c hc).1)
theorem spell_bare {l : List UInt8} {ts : List Tk} (h : Spell l ts) : bareL l = ts.flatMap (fun t => bytes t.text) := by
  induction h with
  | nil => rfl
  | blank _ ih => exact ih
  | tok hx hb _ _ ih =>
    have e : ∀ a b : List UInt8, bareL (a ++ b) = bareL a ++ bareL b := fun a b => by simp [bareL]
    rw [e, bare_tok hx, ih]
    simp [hb]
theorem spell_clean {l : List UInt8} {ts : List Tk} (h : Spell l ts) : ∀ c ∈ l, ¬ c.toNat = 10 := by
  induction h with
  | nil => intro c h; cases h
  | blank _ ih =>
    intro c hc
    rcases List.mem_cons.mp hc with rfl | hc
    · decide
    · exact ih c hc
  | tok hx _ _ _ ih =>
    intro c hc
    rcases List.mem_append.mp hc with hc | hc
    · exact ((tok_bare hx).1 c hc).2
    · exact ih c hc
end Rt
end Go.Proofs.YtbpajiljfppjcaaGreatDoor

namespace Go.Proofs.YtbpajiljfppjcaaGreatDoor
namespace Rt

/-- Bytes ahead of the first line. -/
def onHead (p : List UInt8) : List (List UInt8) → List (List UInt8)
  | [] => [p]
  | x :: r => (p ++ x) :: r
/-- The lines of a list of bytes. -/
def splitL : List UInt8 → List (List UInt8)
  | [] => [[]]
  | c :: l => if c.toNat = 10 then [] :: splitL l else onHead [c] (splitL l)
theorem splitL_ne : ∀ l, ∃ x r, splitL l = x :: r
  | [] => ⟨[], [], rfl⟩
  | c :: l => by
    rw [splitL]
    split
    · exact ⟨_, _, rfl⟩
    · obtain ⟨x, r, h⟩ := splitL_ne l
      rw [h]
      exact ⟨_, _, rfl⟩
theorem onHead_two (p q : List UInt8) (ls : List (List UInt8)) (h : ∃ x r, ls = x :: r) : onHead p (onHead q ls) = onHead (p ++ q) ls := by
  obtain ⟨x, r, rfl⟩ := h
  simp [onHead]
theorem splitL_clean : ∀ (x l : List UInt8), (∀ c ∈ x, ¬ c.toNat = 10) → splitL (x ++ l) = onHead x (splitL l)
  | [], l, _ => by
    obtain ⟨y, r, h⟩ := splitL_ne l
    rw [List.nil_append, h]
    rfl
  | c :: x, l, h => by
    rw [List.cons_append, splitL, if_neg (h c (List.mem_cons_self ..)), splitL_clean x l (fun d hd => h d (List.mem_cons_of_mem _ hd)), onHead_two _ _ _ (splitL_ne l)]
    rfl
theorem splitL_one {x : List UInt8} (h : ∀ c ∈ x, ¬ c.toNat = 10) : splitL x = [x] := by
  have := splitL_clean x [] h
  simpa [splitL, onHead] using this
theorem splitL_app : ∀ (a b : List UInt8), splitL (a ++ 10 :: b) = splitL a ++ splitL b
  | [], b => by simp [splitL]
  | c :: a, b => by
    rw [List.cons_append, splitL, splitL_app a b, splitL]
    split
    · rfl
    · obtain ⟨x, r, h⟩ := splitL_ne a
      rw [h]
      rfl
/-- Lines, joined. -/
def joinL : List (List UInt8) → List UInt8
  | [] => []
  | [x] => x
  | x :: y :: r => x ++ 10 :: joinL (y :: r)
theorem joinL_onHead (p : List UInt8) : ∀ ls : List (List UInt8), ls ≠ [] → joinL (onHead p ls) = p ++ joinL ls
  | [], h => absurd rfl h
  | [x], _ => rfl
  | x :: y :: r, _ => by simp [onHead, joinL]
theorem joinL_split : ∀ l, joinL (splitL l) = l
  | [] => rfl
  | c :: l => by
    obtain ⟨x, r, h⟩ := splitL_ne l
    have ih := joinL_split l
    rw [splitL]
    split
    · next hc =>
      have : c = 10 := UInt8.toNat_inj.mp hc
      rw [h] at ih ⊢
      rw [joinL, ih, this]
      rfl
    · rw [joinL_onHead _ _ (by rw [h]; simp), ih]
      rfl
theorem bare_app (a b : List UInt8) : bareL (a ++ b) = bareL a ++ bareL b := by simp [bareL]
theorem bare_join : ∀ ls, bareL (joinL ls) = joinL (ls.map bareL)
  | [] => rfl
  | [x] => rfl
  | x :: y :: r => by
    have ih := bare_join (y :: r)
    rw [joinL, bare_app]
    have : bareL (10 :: joinL (y :: r)) = 10 :: bareL (joinL (y :: r)) := rfl
    rw [this, ih]
    rfl

theorem linesFrom_split (s : ByteArray) : ∀ (f a i : Nat) (acc : List ByteArray), a ≤ i → i ≤ s.size → s.size < f + i → (linesFrom s f a i acc).map bytes = acc.map bytes ++ onHead (((bytes s).drop a).take (i - a)) (splitL ((bytes s).drop i))
  | 0, _, _, _, _, h, h2 => by omega
  | f + 1, a, i, acc, ha, h, h2 => by
    rw [linesFrom]
    by_cases hlt : i < s.size
    · rw [if_pos hlt]
      obtain ⟨c, e1, e2⟩ := bytes_drop s i hlt
      rw [e1, splitL]
      by_cases h10 : byteAt s i = 10
      · rw [if_pos h10, if_pos (by rw [e2] at h10; omega)]
        rw [linesFrom_split s f (i + 1) (i + 1) _ (Nat.le_refl _) (by omega) (by omega)]
        simp only [Nat.sub_self, List.take_zero, List.map_append, List.map_cons, List.map_nil]
        rw [extract_bytes]
        obtain ⟨x, r, hx⟩ := splitL_ne ((bytes s).drop (i + 1))
        rw [hx]
        simp [onHead]
      · rw [if_neg h10, if_neg (by rw [e2] at h10; omega)]
        rw [linesFrom_split s f a (i + 1) acc (by omega) (by omega) (by omega), onHead_two _ _ _ (splitL_ne _)]
        have : ((bytes s).drop a).take (i + 1 - a) = ((bytes s).drop a).take (i - a) ++ [c] := by
          rw [show i + 1 - a = (i - a) + 1 by omega]
          have hc : ((bytes s).drop a)[i - a]? = some c := by
            rw [List.getElem?_drop, show a + (i - a) = i by omega]
            have := congrArg (fun l => l[0]?) e1
            simpa using this
          rw [List.take_add_one, hc]
          rfl
        rw [this]
    · rw [if_neg hlt]
      have hi : i = s.size := by omega
      subst hi
      rw [show (bytes s).drop s.size = [] from List.drop_eq_nil_of_le (by rw [bytes_size]; omega)]
      simp only [List.map_append, List.map_cons, List.map_nil, splitL, onHead, List.append_nil]
      rw [extract_bytes]
theorem lines_split (s : ByteArray) : (lines s).map bytes = splitL (bytes s) := by
  rw [lines, linesFrom_split s _ 0 0 [] (Nat.le_refl _) (by omega) (by omega)]
  obtain ⟨x, r, hx⟩ := splitL_ne (bytes s)
  simp [hx, onHead]

/-- Reading hangs on the tokens alone. -/
theorem rForms_toks : ∀ (a b : List ByteArray) (i : Nat) (acc : List PL), a.map toks = b.map toks → rForms i a acc = rForms i b acc
  | [], [], _, _, _ => rfl
  | [], _ :: _, _, _, h => by cases h
  | _ :: _, [], _, _, h => by cases h
  | x :: a, y :: b, i, acc, h => by
    simp only [List.map_cons] at h
    injection h with h1 h2
    have : rdLine x = rdLine y := by unfold rdLine; rw [h1]
    rw [rForms, rForms, this]
    cases rdLine y with
    | none => rfl
    | some p => exact rForms_toks a b (i + 1) _ h2
theorem readS_toks {s t : ByteArray} (hs : tooLong s = false) (ht : tooLong t = false) (h : (lines s).map toks = (lines t).map toks) : readS s = readS t := by
  have hl : (lines s).length = (lines t).length := by
    have := congrArg List.length h
    simpa using this
  unfold readS
  rw [hs, ht, rForms_toks _ _ _ _ h, hl]

/-- Blanks put in behind blanks and newlines. -/
inductive Loose : List UInt8 → List UInt8 → Prop
  | nil : Loose [] []
  | other {c l m} : ¬ c.toNat = 32 → ¬ c.toNat = 10 → Loose l m → Loose (c :: l) (c :: m)
  | more {c l m} (n : Nat) : c.toNat = 32 ∨ c.toNat = 10 → n ≤ 2 → Loose l m → Loose (c :: l) (c :: (List.replicate n 32 ++ m))
theorem Loose.size {l m : List UInt8} (h : Loose l m) : m.length ≤ 3 * l.length := by
  induction h with
  | nil => simp
  | other _ _ _ ih => simp; omega
  | more n _ hn _ ih => simp; omega
theorem Loose.head {l m : List UInt8} (h : Loose l m) : ∀ c r, m = c :: r → ∃ r', l = c :: r' := by
  intro c r e
  cases h with
  | nil => cases e
  | other _ _ _ => injection e with e _; subst e; exact ⟨_, rfl⟩
  | more n _ _ _ => injection e with e _; subst e; exact ⟨_, rfl⟩
theorem Loose.through : ∀ (x : List UInt8) {l m : List UInt8}, (∀ c ∈ x, ¬ c.toNat = 32 ∧ ¬ c.toNat = 10) → Loose (x ++ l) m → ∃ m', m = x ++ m' ∧ Loose l m'
  | [], l, m, _, h => ⟨m, rfl, h⟩
  | c :: x, l, m, hx, h => by
    have hc := hx c (List.mem_cons_self ..)
    rw [List.cons_append] at h
    cases h with
    | other _ _ h =>
      obtain ⟨m', e, h'⟩ := Loose.through x (fun d hd => hx d (List.mem_cons_of_mem _ hd)) h
      exact ⟨m', by rw [e]; rfl, h'⟩
    | more n hcc _ _ => omega
theorem spell_blanks {l : List UInt8} {ts : List Tk} (h : Spell l ts) : ∀ n, Spell (List.replicate n 32 ++ l) ts
  | 0 => h
  | n + 1 => Spell.blank (spell_blanks h n)
theorem Loose.spell {l : List UInt8} {ts : List Tk} (h : Spell l ts) : ∀ m, Loose l m → Spell m ts := by
  induction h with
  | nil => intro m hm; cases hm; exact Spell.nil
  | blank _ ih =>
    intro m hm
    cases hm with
    | other h _ _ => exact absurd rfl h
    | more n _ _ h => exact Spell.blank (spell_blanks (ih _ h) n)
  | tok hx hb he _ ih =>
    intro m hm
    obtain ⟨m', rfl, h'⟩ := Loose.through _ (tok_bare hx).1 hm
    refine Spell.tok hx hb ?_ (ih _ h')
    intro c r e
    obtain ⟨r', e'⟩ := h'.head c r e
    exact he c r' e'
def LooseLn (x y : List UInt8) : Prop := ∃ n m, y = List.replicate n 32 ++ m ∧ Loose x m
def All2 {α β : Type} (R : α → β → Prop) : List α → List β → Prop
  | [], [] => True
  | x :: a, y :: b => R x y ∧ All2 R a b
  | _, _ => False
theorem blank_clean (n : Nat) : ∀ c ∈ List.replicate n (32 : UInt8), ¬ c.toNat = 10 := by
  intro c hc
  rw [(List.mem_replicate.mp hc).2]
  decide
theorem Loose.lines {l m : List UInt8} (h : Loose l m) : ∃ x xs y ys, splitL l = x :: xs ∧ splitL m = y :: ys ∧ Loose x y ∧ All2 LooseLn xs ys := by
  induction h with
  | nil => exact ⟨[], [], [], [], rfl, rfl, Loose.nil, trivial⟩
  | @other c l m h1 h2 h ih =>
    obtain ⟨x, xs, y, ys, e1, e2, h3, h4⟩ := ih
    refine ⟨c :: x, xs, c :: y, ys, ?_, ?_, Loose.other h1 h2 h3, h4⟩
    · rw [splitL, if_neg h2, e1]; rfl
    · rw [splitL, if_neg h2, e2]; rfl
  | @more c l m n hc hn h ih =>
    obtain ⟨x, xs, y, ys, e1, e2, h3, h4⟩ := ih
    have e3 : splitL (List.replicate n 32 ++ m) = (List.replicate n 32 ++ y) :: ys := by
      rw [splitL_clean _ _ (blank_clean n), e2]; rfl
    by_cases h10 : c.toNat = 10
    · refine ⟨[], x :: xs, [], (List.replicate n 32 ++ y) :: ys, ?_, ?_, Loose.nil, ⟨n, y, rfl, h3⟩, h4⟩
      · rw [splitL, if_pos h10, e1]
      · rw [splitL, if_pos h10, e3]
    · refine ⟨c :: x, xs, c :: (List.replicate n 32 ++ y), ys, ?_, ?_, Loose.more n hc hn h3, h4⟩
      · rw [splitL, if_neg h10, e1]; rfl
      · rw [splitL, if_neg h10, e3]; rfl

/-- Tokens that are right ones. -/
def Right (ts : List Tk) : Prop := ∀ t ∈ ts, TokIs (bytes t.text) t.kind
theorem spell_right {l : List UInt8} {ts : List Tk} (h : Spell l ts) : Right ts := by
  induction h with
  | nil => intro t h; cases h
  | blank _ ih => exact ih
  | tok hx hb _ _ ih =>
    intro t ht
    rcases List.mem_cons.mp ht with rfl | ht
    · rw [hb]; exact hx
    · exact ih t ht
theorem spell_join {l : List UInt8} {ts : List Tk} (h : Spell l ts) (r : List UInt8) (us : List Tk) (h2 : Spell (32 :: r) us) : Spell (l ++ 32 :: r) (ts ++ us) := by
  induction h with
  | nil => exact h2
  | blank _ ih => exact Spell.blank ih
  | @tok x l ts k s hx hb he h ih =>
    rw [List.append_assoc]
    refine Spell.tok hx hb ?_ ih
    intro c r' e
    cases l with
    | nil =>
      simp only [List.nil_append] at e
      injection e with e _
      subst e
      exact ⟨fun _ => by decide, fun _ => by decide⟩
    | cons d l =>
      simp only [List.cons_append] at e
      injection e with e _
      subst e
      exact he d l rfl
theorem spell_tk {t : Tk} (h : TokIs (bytes t.text) t.kind) : Spell (bytes t.text) [t] := by
  have := Spell.tok (l := []) (ts := []) h rfl (fun c r e => by cases e) Spell.nil
  simpa using this
theorem spP_bytes : ∀ k, bytes (spP ⟨#[]⟩ k) = List.replicate (2 * k) 32
  | 0 => rfl
  | k + 1 => by
    rw [spP, bytes_app, spP_bytes k, show 2 * (k + 1) = 2 * k + 2 by omega, ← List.replicate_append_replicate]
    rfl
theorem tokP_spell (d : Nat) (ts : List Tk) (h : Right ts) : ∀ i, i < ts.length → Spell (bytes (tokP (spP ⟨#[]⟩ d) ts (i + 1))) (ts.take (i + 1))
  | 0, hi => by
    rw [tokP, if_neg (by omega), tokP, bytes_app, spP_bytes, List.getElem?_eq_getElem hi]
    obtain ⟨t, r, rfl⟩ : ∃ t r, ts = t :: r := by
      cases ts with
      | nil => simp at hi
      | cons t r => exact ⟨t, r, rfl⟩
    exact spell_blanks (spell_tk (h t (List.mem_cons_self ..))) _
  | i + 1, hi => by
    have ih := tokP_spell d ts h i (by omega)
    rw [tokP, if_pos (by omega), bytes_app, bytes_app, List.getElem?_eq_getElem hi]
    rw [List.take_add_one (i := i + 1), List.getElem?_eq_getElem hi]
    rw [List.append_assoc]
    exact spell_join ih _ _ (Spell.blank (spell_tk (h _ (List.getElem_mem hi))))
theorem tidyLn_spell {pl : PL} (h : Right pl.toks) : Spell (bytes (tidyLn pl)) pl.toks := by
  unfold tidyLn
  by_cases h0 : pl.toks.length = 0
  · rw [if_pos h0, List.eq_nil_of_length_eq_zero h0]
    exact Spell.nil
  · rw [if_neg h0]
    obtain ⟨n, hn⟩ : ∃ n, pl.toks.length = n + 1 := ⟨pl.toks.length - 1, by omega⟩
    have := tokP_spell pl.depth.toNat pl.toks h n (by omega)
    rw [← hn, List.take_length] at this
    exact this

theorem tidyTo_split (ps : List PL) (z : PL) (h : ∀ p ∈ ps, Right p.toks) : ∀ k, k < ps.length → splitL (bytes (tidyTo (z :: ps) (k + 1))) = (ps.take (k + 1)).map (fun p => bytes (tidyLn p))
  | 0, hk => by
    rw [tidyTo, if_neg (by omega), tidyTo, bytes_app]
    simp only [List.getElem?_cons_succ, List.getElem?_eq_getElem hk, Option.getD_some]
    rw [List.take_add_one, List.getElem?_eq_getElem hk]
    have := splitL_one (spell_clean (tidyLn_spell (h _ (List.getElem_mem hk))))
    simpa [bytes] using this
  | k + 1, hk => by
    have ih := tidyTo_split ps z h k (by omega)
    rw [tidyTo, if_pos (by omega), bytes_app, bytes_app]
    simp only [List.getElem?_cons_succ, List.getElem?_eq_getElem hk, Option.getD_some]
    rw [List.append_assoc, show bytes ⟨#[10]⟩ ++ bytes (tidyLn ps[k + 1]) = 10 :: bytes (tidyLn ps[k + 1]) from rfl, splitL_app, ih, splitL_one (spell_clean (tidyLn_spell (h _ (List.getElem_mem hk))))]
    rw [List.take_add_one (i := k + 1), List.getElem?_eq_getElem hk, List.map_append]
    rfl
theorem tidyP_split (ps : List PL) (z : PL) (h : ∀ p ∈ ps, Right p.toks) (hne : ps ≠ []) : splitL (bytes (tidyP (z :: ps))) = ps.map (fun p => bytes (tidyLn p)) := by
  have h0 : 0 < ps.length := List.length_pos_iff.mpr hne
  obtain ⟨n, hn⟩ : ∃ n, ps.length = n + 1 := ⟨ps.length - 1, by omega⟩
  have := tidyTo_split ps z h n (by omega)
  rw [← hn, List.take_length] at this
  rw [tidyP]
  simpa using this

end Rt
end Go.Proofs.YtbpajiljfppjcaaGreatDoor

