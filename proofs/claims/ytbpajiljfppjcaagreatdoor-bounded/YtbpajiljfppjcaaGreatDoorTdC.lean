/- A source that is read, with other blanks, and tidied: the same. No program, no walk. -/
import Derived.Test.YtbpajiljfppjcaaGreatDoorTdA
namespace Go.Proofs.YtbpajiljfppjcaaGreatDoor
namespace Rt

/-- Bytes ahead of the first line. -/
def onHead (p : List UInt8) : List (List UInt8) → List (List UInt8)
  | [] => [p]
  | x :: r => (p ++ x) :: r
/-- The lines of a list of bytes. -/
def splitL : List UInt8 → List (List UInt8)
  | [] => [[]]
  | c :: l => if c.toNat = 10 then [] :: splitL l else onHead [c] (splitL l)
theorem splitL_ne : ∀ l, ∃ x r, splitL l = x :: r
  | [] => ⟨[], [], rfl⟩
  | c :: l => by
    rw [splitL]
    split
    · exact ⟨_, _, rfl⟩
    · obtain ⟨x, r, h⟩ := splitL_ne l
      rw [h]
      exact ⟨_, _, rfl⟩
theorem onHead_two (p q : List UInt8) (ls : List (List UInt8)) (h : ∃ x r, ls = x :: r) : onHead p (onHead q ls) = onHead (p ++ q) ls := by
  obtain ⟨x, r, rfl⟩ := h
  simp [onHead]
theorem splitL_clean : ∀ (x l : List UInt8), (∀ c ∈ x, ¬ c.toNat = 10) → splitL (x ++ l) = onHead x (splitL l)
  | [], l, _ => by
    obtain ⟨y, r, h⟩ := splitL_ne l
    rw [List.nil_append, h]
    rfl
  | c :: x, l, h => by
    rw [List.cons_append, splitL, if_neg (h c (List.mem_cons_self ..)), splitL_clean x l (fun d hd => h d (List.mem_cons_of_mem _ hd)), onHead_two _ _ _ (splitL_ne l)]
    rfl
theorem splitL_one {x : List UInt8} (h : ∀ c ∈ x, ¬ c.toNat = 10) : splitL x = [x] := by
  have := splitL_clean x [] h
  simpa [splitL, onHead] using this
theorem splitL_app : ∀ (a b : List UInt8), splitL (a ++ 10 :: b) = splitL a ++ splitL b
  | [], b => by simp [splitL]
  | c :: a, b => by
    rw [List.cons_append, splitL, splitL_app a b, splitL]
    split
    · rfl
    · obtain ⟨x, r, h⟩ := splitL_ne a
      rw [h]
      rfl
/-- Lines, joined. -/
def joinL : List (List UInt8) → List UInt8
  | [] => []
  | [x] => x
  | x :: y :: r => x ++ 10 :: joinL (y :: r)
theorem joinL_onHead (p : List UInt8) : ∀ ls : List (List UInt8), ls ≠ [] → joinL (onHead p ls) = p ++ joinL ls
  | [], h => absurd rfl h
  | [x], _ => rfl
  | x :: y :: r, _ => by simp [onHead, joinL]
theorem joinL_split : ∀ l, joinL (splitL l) = l
  | [] => rfl
  | c :: l => by
    obtain ⟨x, r, h⟩ := splitL_ne l
    have ih := joinL_split l
    rw [splitL]
    split
    · next hc =>
      have : c = 10 := UInt8.toNat_inj.mp hc
      rw [h] at ih ⊢
      rw [joinL, ih, this]
      rfl
    · rw [joinL_onHead _ _ (by rw [h]; simp), ih]
      rfl
theorem bare_app (a b : List UInt8) : bareL (a ++ b) = bareL a ++ bareL b := by simp [bareL]
theorem bare_join : ∀ ls, bareL (joinL ls) = joinL (ls.map bareL)
  | [] => rfl
  | [x] => rfl
  | x :: y :: r => by
    have ih := bare_join (y :: r)
    rw [joinL, bare_app]
    have : bareL (10 :: joinL (y :: r)) = 10 :: bareL (joinL (y :: r)) := rfl
    rw [this, ih]
    rfl

theorem linesFrom_split (s : ByteArray) : ∀ (f a i : Nat) (acc : List ByteArray), a ≤ i → i ≤ s.size → s.size < f + i → (linesFrom s f a i acc).map bytes = acc.map bytes ++ onHead (((bytes s).drop a).take (i - a)) (splitL ((bytes s).drop i))
  | 0, _, _, _, _, h, h2 => by omega
  | f + 1, a, i, acc, ha, h, h2 => by
    rw [linesFrom]
    by_cases hlt : i < s.size
    · rw [if_pos hlt]
      obtain ⟨c, e1, e2⟩ := bytes_drop s i hlt
      rw [e1, splitL]
      by_cases h10 : byteAt s i = 10
      · rw [if_pos h10, if_pos (by rw [e2] at h10; omega)]
        rw [linesFrom_split s f (i + 1) (i + 1) _ (Nat.le_refl _) (by omega) (by omega)]
        simp only [Nat.sub_self, List.take_zero, List.map_append, List.map_cons, List.map_nil]
        rw [extract_bytes]
        obtain ⟨x, r, hx⟩ := splitL_ne ((bytes s).drop (i + 1))
        rw [hx]
        simp [onHead]
      · rw [if_neg h10, if_neg (by rw [e2] at h10; omega)]
        rw [linesFrom_split s f a (i + 1) acc (by omega) (by omega) (by omega), onHead_two _ _ _ (splitL_ne _)]
        have : ((bytes s).drop a).take (i + 1 - a) = ((bytes s).drop a).take (i - a) ++ [c] := by
          rw [show i + 1 - a = (i - a) + 1 by omega]
          have hc : ((bytes s).drop a)[i - a]? = some c := by
            rw [List.getElem?_drop, show a + (i - a) = i by omega]
            have := congrArg (fun l => l[0]?) e1
            simpa using this
          rw [List.take_add_one, hc]
          rfl
        rw [this]
    · rw [if_neg hlt]
      have hi : i = s.size := by omega
      subst hi
      rw [show (bytes s).drop s.size = [] from List.drop_eq_nil_of_le (by rw [bytes_size]; omega)]
      simp only [List.map_append, List.map_cons, List.map_nil, splitL, onHead, List.append_nil]
      rw [extract_bytes]
theorem lines_split (s : ByteArray) : (lines s).map bytes = splitL (bytes s) := by
  rw [lines, linesFrom_split s _ 0 0 [] (Nat.le_refl _) (by omega) (by omega)]
  obtain ⟨x, r, hx⟩ := splitL_ne (bytes s)
  simp [hx, onHead]

/-- Reading hangs on the tokens alone. -/
theorem rForms_toks : ∀ (a b : List ByteArray) (i : Nat) (acc : List PL), a.map toks = b.map toks → rForms i a acc = rForms i b acc
  | [], [], _, _, _ => rfl
  | [], _ :: _, _, _, h => by cases h
  | _ :: _, [], _, _, h => by cases h
  | x :: a, y :: b, i, acc, h => by
    simp only [List.map_cons] at h
    injection h with h1 h2
    have : rdLine x = rdLine y := by unfold rdLine; rw [h1]
    rw [rForms, rForms, this]
    cases rdLine y with
    | none => rfl
    | some p => exact rForms_toks a b (i + 1) _ h2
theorem readS_toks {s t : ByteArray} (hs : tooLong s = false) (ht : tooLong t = false) (h : (lines s).map toks = (lines t).map toks) : readS s = readS t := by
  have hl : (lines s).length = (lines t).length := by
    have := congrArg List.length h
    simpa using this
  unfold readS
  rw [hs, ht, rForms_toks _ _ _ _ h, hl]

/-- Blanks put in behind blanks and newlines. -/
inductive Loose : List UInt8 → List UInt8 → Prop
  | nil : Loose [] []
  | other {c l m} : ¬ c.toNat = 32 → ¬ c.toNat = 10 → Loose l m → Loose (c :: l) (c :: m)
  | more {c l m} (n : Nat) : c.toNat = 32 ∨ c.toNat = 10 → n ≤ 2 → Loose l m → Loose (c :: l) (c :: (List.replicate n 32 ++ m))
theorem Loose.size {l m : List UInt8} (h : Loose l m) : m.length ≤ 3 * l.length := by
  induction h with
  | nil => simp
  | other _ _ _ ih => simp; omega
  | more n _ hn _ ih => simp; omega
theorem Loose.head {l m : List UInt8} (h : Loose l m) : ∀ c r, m = c :: r → ∃ r', l = c :: r' := by
  intro c r e
  cases h with
  | nil => cases e
  | other _ _ _ => injection e with e _; subst e; exact ⟨_, rfl⟩
  | more n _ _ _ => injection e with e _; subst e; exact ⟨_, rfl⟩
theorem Loose.through : ∀ (x : List UInt8) {l m : List UInt8}, (∀ c ∈ x, ¬ c.toNat = 32 ∧ ¬ c.toNat = 10) → Loose (x ++ l) m → ∃ m', m = x ++ m' ∧ Loose l m'
  | [], l, m, _, h => ⟨m, rfl, h⟩
  | c :: x, l, m, hx, h => by
    have hc := hx c (List.mem_cons_self ..)
    rw [List.cons_append] at h
    cases h with
    | other _ _ h =>
      obtain ⟨m', e, h'⟩ := Loose.through x (fun d hd => hx d (List.mem_cons_of_mem _ hd)) h
      exact ⟨m', by rw [e]; rfl, h'⟩
    | more n hcc _ _ => omega
theorem spell_blanks {l : List UInt8} {ts : List Tk} (h : Spell l ts) : ∀ n, Spell (List.replicate n 32 ++ l) ts
  | 0 => h
  | n + 1 => Spell.blank (spell_blanks h n)
theorem Loose.spell {l : List UInt8} {ts : List Tk} (h : Spell l ts) : ∀ m, Loose l m → Spell m ts := by
  induction h with
  | nil => intro m hm; cases hm; exact Spell.nil
  | blank _ ih =>
    intro m hm
    cases hm with
    | other h _ _ => exact absurd rfl h
    | more n _ _ h => exact Spell.blank (spell_blanks (ih _ h) n)
  | tok hx hb he _ ih =>
    intro m hm
    obtain ⟨m', rfl, h'⟩ := Loose.through _ (tok_bare hx).1 hm
    refine Spell.tok hx hb ?_ (ih _ h')
    intro c r e
    obtain ⟨r', e'⟩ := h'.head c r e
    exact he c r' e'
def LooseLn (x y : List UInt8) : Prop := ∃ n m, y = List.replicate n 32 ++ m ∧ Loose x m
def All2 {α β : Type} (R : α → β → Prop) : List α → List β → Prop
  | [], [] => True
  | x :: a, y :: b => R x y ∧ All2 R a b
  | _, _ => False
theorem blank_clean (n : Nat) : ∀ c ∈ List.replicate n (32 : UInt8), ¬ c.toNat = 10 := by
  intro c hc
  rw [(List.mem_replicate.mp hc).2]
  decide
theorem Loose.lines {l m : List UInt8} (h : Loose l m) : ∃ x xs y ys, splitL l = x :: xs ∧ splitL m = y :: ys ∧ Loose x y ∧ All2 LooseLn xs ys := by
  induction h with
  | nil => exact ⟨[], [], [], [], rfl, rfl, Loose.nil, trivial⟩
  | @other c l m h1 h2 h ih =>
    obtain ⟨x, xs, y, ys, e1, e2, h3, h4⟩ := ih
    refine ⟨c :: x, xs, c :: y, ys, ?_, ?_, Loose.other h1 h2 h3, h4⟩
    · rw [splitL, if_neg h2, e1]; rfl
    · rw [splitL, if_neg h2, e2]; rfl
  | @more c l m n hc hn h ih =>
    obtain ⟨x, xs, y, ys, e1, e2, h3, h4⟩ := ih
    have e3 : splitL (List.replicate n 32 ++ m) = (List.replicate n 32 ++ y) :: ys := by
      rw [splitL_clean _ _ (blank_clean n), e2]; rfl
    by_cases h10 : c.toNat = 10
    · refine ⟨[], x :: xs, [], (List.replicate n 32 ++ y) :: ys, ?_, ?_, Loose.nil, ⟨n, y, rfl, h3⟩, h4⟩
      · rw [splitL, if_pos h10, e1]
      · rw [splitL, if_pos h10, e3]
    · refine ⟨c :: x, xs, c :: (List.replicate n 32 ++ y), ys, ?_, ?_, Loose.more n hc hn h3, h4⟩
      · rw [splitL, if_neg h10, e1]; rfl
      · rw [splitL, if_neg h10, e3]; rfl

/-- Tokens that are right ones. -/
def Right (ts : List Tk) : Prop := ∀ t ∈ ts, TokIs (bytes t.text) t.kind
theorem spell_right {l : List UInt8} {ts : List Tk} (h : Spell l ts) : Right ts := by
  induction h with
  | nil => intro t h; cases h
  | blank _ ih => exact ih
  | tok hx hb _ _ ih =>
    intro t ht
    rcases List.mem_cons.mp ht with rfl | ht
    · rw [hb]; exact hx
    · exact ih t ht
theorem spell_join {l : List UInt8} {ts : List Tk} (h : Spell l ts) (r : List UInt8) (us : List Tk) (h2 : Spell (32 :: r) us) : Spell (l ++ 32 :: r) (ts ++ us) := by
  induction h with
  | nil => exact h2
  | blank _ ih => exact Spell.blank ih
  | @tok x l ts k s hx hb he h ih =>
    rw [List.append_assoc]
    refine Spell.tok hx hb ?_ ih
    intro c r' e
    cases l with
    | nil =>
      simp only [List.nil_append] at e
      injection e with e _
      subst e
      exact ⟨fun _ => by decide, fun _ => by decide⟩
    | cons d l =>
      simp only [List.cons_append] at e
      injection e with e _
      subst e
      exact he d l rfl
theorem spell_tk {t : Tk} (h : TokIs (bytes t.text) t.kind) : Spell (bytes t.text) [t] := by
  have := Spell.tok (l := []) (ts := []) h rfl (fun c r e => by cases e) Spell.nil
  simpa using this
theorem spP_bytes : ∀ k, bytes (spP ⟨#[]⟩ k) = List.replicate (2 * k) 32
  | 0 => rfl
  | k + 1 => by
    rw [spP, bytes_app, spP_bytes k, show 2 * (k + 1) = 2 * k + 2 by omega, ← List.replicate_append_replicate]
    rfl
theorem tokP_spell (d : Nat) (ts : List Tk) (h : Right ts) : ∀ i, i < ts.length → Spell (bytes (tokP (spP ⟨#[]⟩ d) ts (i + 1))) (ts.take (i + 1))
  | 0, hi => by
    rw [tokP, if_neg (by omega), tokP, bytes_app, spP_bytes, List.getElem?_eq_getElem hi]
    obtain ⟨t, r, rfl⟩ : ∃ t r, ts = t :: r := by
      cases ts with
      | nil => simp at hi
      | cons t r => exact ⟨t, r, rfl⟩
    exact spell_blanks (spell_tk (h t (List.mem_cons_self ..))) _
  | i + 1, hi => by
    have ih := tokP_spell d ts h i (by omega)
    rw [tokP, if_pos (by omega), bytes_app, bytes_app, List.getElem?_eq_getElem hi]
    rw [List.take_add_one (i := i + 1), List.getElem?_eq_getElem hi]
    rw [List.append_assoc]
    exact spell_join ih _ _ (Spell.blank (spell_tk (h _ (List.getElem_mem hi))))
theorem tidyLn_spell {pl : PL} (h : Right pl.toks) : Spell (bytes (tidyLn pl)) pl.toks := by
  unfold tidyLn
  by_cases h0 : pl.toks.length = 0
  · rw [if_pos h0, List.eq_nil_of_length_eq_zero h0]
    exact Spell.nil
  · rw [if_neg h0]
    obtain ⟨n, hn⟩ : ∃ n, pl.toks.length = n + 1 := ⟨pl.toks.length - 1, by omega⟩
    have := tokP_spell pl.depth.toNat pl.toks h n (by omega)
    rw [← hn, List.take_length] at this
    exact this

theorem tidyTo_split (ps : List PL) (z : PL) (h : ∀ p ∈ ps, Right p.toks) : ∀ k, k < ps.length → splitL (bytes (tidyTo (z :: ps) (k + 1))) = (ps.take (k + 1)).map (fun p => bytes (tidyLn p))
  | 0, hk => by
    rw [tidyTo, if_neg (by omega), tidyTo, bytes_app]
    simp only [List.getElem?_cons_succ, List.getElem?_eq_getElem hk, Option.getD_some]
    rw [List.take_add_one, List.getElem?_eq_getElem hk]
    have := splitL_one (spell_clean (tidyLn_spell (h _ (List.getElem_mem hk))))
    simpa [bytes] using this
  | k + 1, hk => by
    have ih := tidyTo_split ps z h k (by omega)
    rw [tidyTo, if_pos (by omega), bytes_app, bytes_app]
    simp only [List.getElem?_cons_succ, List.getElem?_eq_getElem hk, Option.getD_some]
    rw [List.append_assoc, show bytes ⟨#[10]⟩ ++ bytes (tidyLn ps[k + 1]) = 10 :: bytes (tidyLn ps[k + 1]) from rfl, splitL_app, ih, splitL_one (spell_clean (tidyLn_spell (h _ (List.getElem_mem hk))))]
    rw [List.take_add_one (i := k + 1), List.getElem?_eq_getElem hk, List.map_append]
    rfl
theorem tidyP_split (ps : List PL) (z : PL) (h : ∀ p ∈ ps, Right p.toks) (hne : ps ≠ []) : splitL (bytes (tidyP (z :: ps))) = ps.map (fun p => bytes (tidyLn p)) := by
  have h0 : 0 < ps.length := List.length_pos_iff.mpr hne
  obtain ⟨n, hn⟩ : ∃ n, ps.length = n + 1 := ⟨ps.length - 1, by omega⟩
  have := tidyTo_split ps z h n (by omega)
  rw [← hn, List.take_length] at this
  rw [tidyP]
  simpa using this

end Rt
end Go.Proofs.YtbpajiljfppjcaaGreatDoor

namespace Go.Proofs.YtbpajiljfppjcaaGreatDoor
namespace Rt

theorem rdLine_toks {s : ByteArray} {p : PL} (h : rdLine s = some p) : toks s = some p.toks ∧ p.depth = 0 := by
  unfold rdLine at h
  cases e : toks s with
  | none => rw [e] at h; cases h
  | some ts =>
    rw [e] at h
    simp only at h
    cases e2 : pLineAll ts with
    | none => rw [e2] at h; cases h
    | some fm => rw [e2] at h; injection h with h; rw [← h]; exact ⟨rfl, rfl⟩
theorem rForms_list : ∀ (texts : List ByteArray) (i : Nat) (acc res : List PL), rForms i texts acc = (0, res) → ∃ q, res = acc ++ q ∧ texts.map rdLine = q.map some
  | [], _, acc, res, h => by simp [rForms] at h; exact ⟨[], by simp [h], rfl⟩
  | s :: r, i, acc, res, h => by
    rw [rForms] at h
    cases e : rdLine s with
    | none => rw [e] at h; simp at h
    | some p =>
      rw [e] at h
      obtain ⟨q, h1, h2⟩ := rForms_list r (i + 1) (acc ++ [p]) res h
      exact ⟨p :: q, by rw [h1]; simp, by simp [e, h2]⟩
theorem rForms_mk : ∀ (texts : List ByteArray) (q : List PL) (i : Nat) (acc : List PL), texts.map rdLine = q.map some → rForms i texts acc = (0, acc ++ q)
  | [], [], _, acc, _ => by simp [rForms]
  | [], _ :: _, _, _, h => by cases h
  | _ :: _, [], _, _, h => by cases h
  | s :: r, p :: q, i, acc, h => by
    simp only [List.map_cons] at h
    injection h with h1 h2
    rw [rForms, h1]
    simp only
    rw [rForms_mk r q (i + 1) (acc ++ [p]) h2]
    simp
theorem placed_depth (bs : List Blk) (p : PL) (h : p.depth = 0) : (placed bs p).depth ≤ bs.length := by
  unfold placed
  split
  · omega
  · split
    · show (bs.length : Int) - 1 ≤ _; omega
    · show (bs.length : Int) ≤ _; omega
theorem nestFrom_list : ∀ (rem : List PL) (n : Nat) (bs : List Blk) (acc ls : List PL) (b2 : List Blk), 0 < n → bs.length < n → (∀ p ∈ rem, p.depth = 0) → nestFrom rem n bs acc = (0, ls, b2) → ∃ q, ls = acc ++ q ∧ q.map PL.toks = rem.map PL.toks ∧ (∀ p ∈ q, p.depth ≤ (n : Int) + rem.length)
  | [], n, bs, acc, ls, b2, _, _, _, h => by
    simp [nestFrom] at h
    exact ⟨[], by simp [h.1], rfl, by simp⟩
  | p :: r, n, bs, acc, ls, b2, hn, hb, hd, h => by
    rw [nestFrom] at h
    split at h
    · have hpl := passed_len bs n p.form.kind
      obtain ⟨q, h1, h2, h3⟩ := nestFrom_list r (n + 1) (passed bs n p.form.kind) (acc ++ [placed bs p]) ls b2 (by omega) (by omega) (fun x hx => hd x (List.mem_cons_of_mem _ hx)) h
      refine ⟨placed bs p :: q, by rw [h1]; simp, by simp [(placed_same bs p).1, h2], ?_⟩
      intro x hx
      simp only [List.length_cons]
      rcases List.mem_cons.mp hx with rfl | hx
      · have := placed_depth bs p (hd p (List.mem_cons_self ..))
        omega
      · have := h3 x hx
        omega
    · simp at h
      omega

/-- What is known of a source that is read. -/
theorem read_parts {s : ByteArray} {pls : List PL} (h : readS s = (0, 0, pls)) (hs : tooLong s = false) :
    ∃ ps, pls = zPL :: ps ∧ ps ≠ [] ∧ (lines s).map toks = ps.map (fun p => some p.toks) ∧ (∀ p ∈ ps, p.depth ≤ 1 + (lines s).length) := by
  unfold readS at h
  rw [if_neg (by rw [hs]; simp), readForms] at h
  split at h
  · injection h with h _; omega
  · next h1 =>
    have h1' : (rForms 0 (lines s) [zPL]).1 = 0 := by omega
    obtain ⟨q, e1, e2⟩ := rForms_list (lines s) 0 [zPL] (rForms 0 (lines s) [zPL]).2 (Prod.ext h1' rfl)
    rw [e1] at h
    simp only [List.singleton_append, List.drop_one, List.tail_cons] at h
    rw [readNest] at h
    split at h
    · injection h with h _; omega
    · next h2 =>
      split at h
      · injection h with h _; omega
      · have hq0 : ∀ p ∈ q, p.depth = 0 := by
          intro p hp
          have : some p ∈ (lines s).map rdLine := by rw [e2]; exact List.mem_map_of_mem hp
          obtain ⟨x, _, hx⟩ := List.mem_map.mp this
          exact (rdLine_toks hx).2
        obtain ⟨ps, g1, g2, g3⟩ := nestFrom_list q 1 [] [zPL] (nestFrom q 1 [] [zPL]).2.1 (nestFrom q 1 [] [zPL]).2.2 (by omega) (by simp) hq0 (Prod.ext (by simpa using h2) rfl)
        have hpls : pls = (nestFrom q 1 [] [zPL]).2.1 := by
          rw [readNames] at h
          split at h
          · injection h with h _; omega
          · split at h
            · injection h with h _; omega
            · injection h with _ h; injection h with _ h; exact h.symm
        have hlen : q.length = (lines s).length := by have := congrArg List.length e2; simpa using this.symm
        have hl1 : 0 < (lines s).length := by rw [lines_len]; omega
        have hpl : ps.length = q.length := by have := congrArg List.length g2; simpa using this
        refine ⟨ps, by rw [hpls, g1]; rfl, ?_, ?_, fun p hp => by have := g3 p hp; omega⟩
        · intro e; rw [e] at hpl; simp at hpl; omega
        · have e3 : (lines s).map toks = q.map (fun p => some p.toks) := by
            have hx : ∀ (a : List ByteArray) (b : List PL), a.map rdLine = b.map some → a.map toks = b.map (fun p => some p.toks) := by
              intro a
              induction a with
              | nil => intro b hb; cases b with
                | nil => rfl
                | cons _ _ => cases hb
              | cons x a ih => intro b hb; cases b with
                | nil => cases hb
                | cons y b =>
                  simp only [List.map_cons] at hb ⊢
                  injection hb with h1 h2
                  rw [ih b h2, (rdLine_toks h1).1]
            exact hx _ _ e2
          rw [e3]
          have : q.map (fun p => some p.toks) = (q.map PL.toks).map some := by simp
          rw [this, ← g2]
          simp

theorem spells_of {a : List ByteArray} {ps : List PL} (h : a.map toks = ps.map (fun p => some p.toks)) : All2 (fun x (p : PL) => Spell (bytes x) p.toks ∧ p.toks.length ≤ 24) a ps := by
  induction a generalizing ps with
  | nil => cases ps with
    | nil => trivial
    | cons _ _ => cases h
  | cons x a ih => cases ps with
    | nil => cases h
    | cons p ps =>
      simp only [List.map_cons] at h
      injection h with h1 h2
      exact ⟨spell_of_toks h1, ih h2⟩
theorem tooLong_not {s : ByteArray} (h1 : s.size ≤ 40000) (h2 : (lines s).length ≤ 100) : tooLong s = false := by
  have := lines_len s
  simp [tooLong]
  omega
theorem nlen (s : ByteArray) : (lines s).length = (splitL (bytes s)).length := by rw [← lines_split]; simp

theorem toks_all2 : ∀ (b a : List ByteArray) (ps : List PL), All2 (fun x (p : PL) => Spell (bytes x) p.toks ∧ p.toks.length ≤ 24) a ps → All2 (fun y (p : PL) => Spell y p.toks) (b.map bytes) ps → b.map toks = ps.map (fun p => some p.toks)
  | [], _, [], _, _ => rfl
  | [], _, _ :: _, _, h => h.elim
  | _ :: _, _, [], _, h => h.elim
  | _ :: _, [], _ :: _, h, _ => h.elim
  | y :: b, x :: a, p :: ps, h1, h2 => by
    simp only [List.map_cons]
    rw [toks_all2 b a ps h1.2 h2.2, toks_spell h2.1 h1.1.2]
theorem all2_bytes : ∀ (a : List ByteArray) (ps : List PL), All2 (fun x (p : PL) => Spell (bytes x) p.toks ∧ p.toks.length ≤ 24) a ps → All2 (fun y (p : PL) => Spell y p.toks) (a.map bytes) ps
  | [], [], _ => trivial
  | [], _ :: _, h => h.elim
  | _ :: _, [], h => h.elim
  | _ :: a, _ :: ps, h => ⟨h.1.1, all2_bytes a ps h.2⟩
theorem all2_loose : ∀ (xs ys : List (List UInt8)) (ps : List PL), All2 LooseLn xs ys → All2 (fun y (p : PL) => Spell y p.toks) xs ps → All2 (fun y (p : PL) => Spell y p.toks) ys ps
  | [], [], _, _, h => h
  | [], _ :: _, _, h, _ => h.elim
  | _ :: _, [], _, h, _ => h.elim
  | _ :: _, _ :: _, [], _, h => h.elim
  | x :: xs, y :: ys, p :: ps, h1, h2 => by
    obtain ⟨⟨k, m', rfl, hm'⟩, h4⟩ := h1
    exact ⟨spell_blanks (hm'.spell h2.1 _) k, all2_loose xs ys ps h4 h2.2⟩
theorem all2_tidy : ∀ ps : List PL, (∀ p ∈ ps, Right p.toks) → All2 (fun y (p : PL) => Spell y p.toks) (ps.map (fun p => bytes (tidyLn p))) ps
  | [], _ => trivial
  | p :: ps, h => ⟨tidyLn_spell (h p (List.mem_cons_self ..)), all2_tidy ps (fun q hq => h q (List.mem_cons_of_mem _ hq))⟩
theorem all2_mem : ∀ (a : List ByteArray) (ps : List PL), All2 (fun x (p : PL) => Spell (bytes x) p.toks ∧ p.toks.length ≤ 24) a ps → ∀ p ∈ ps, ∃ x ∈ a, Spell (bytes x) p.toks ∧ p.toks.length ≤ 24
  | [], [], _, p, hp => by cases hp
  | [], _ :: _, h, _, _ => h.elim
  | _ :: _, [], h, _, _ => h.elim
  | x :: a, q :: ps, h, p, hp => by
    rcases List.mem_cons.mp hp with rfl | hp
    · exact ⟨x, List.mem_cons_self .., h.1⟩
    · obtain ⟨y, hy, h2⟩ := all2_mem a ps h.2 p hp
      exact ⟨y, List.mem_cons_of_mem _ hy, h2⟩
theorem all2_bare : ∀ (a : List ByteArray) (ps : List PL), All2 (fun x (p : PL) => Spell (bytes x) p.toks ∧ p.toks.length ≤ 24) a ps → (ps.map (fun p => bytes (tidyLn p))).map bareL = (a.map bytes).map bareL
  | [], [], _ => rfl
  | [], _ :: _, h => h.elim
  | _ :: _, [], h => h.elim
  | x :: a, p :: ps, h => by
    simp only [List.map_cons]
    rw [all2_bare a ps h.2, spell_bare h.1.1, spell_bare (tidyLn_spell (spell_right h.1.1))]

/-- Lines that spell the same tokens read the same. -/
theorem read_same {s t : ByteArray} {pls : List PL} {ps : List PL} (h : readS s = (0, 0, pls)) (hs : tooLong s = false) (ht : t.size ≤ 40000) (hl : (lines s).length ≤ 100) (hp : (lines s).map toks = ps.map (fun p => some p.toks))
    (hx : All2 (fun y (p : PL) => Spell y p.toks) (splitL (bytes t)) ps) : readS t = (0, 0, pls) := by
  rw [← lines_split] at hx
  have e := toks_all2 _ _ _ (spells_of hp) hx
  have hl2 : (lines t).length = (lines s).length := by
    have h1 := congrArg List.length e
    have h2 := congrArg List.length hp
    simp at h1 h2
    omega
  rw [readS_toks (tooLong_not ht (by omega)) hs (e.trans hp.symm)]
  exact h

/-- With more blanks. -/
theorem read_wide {s t : ByteArray} {pls : List PL} (h : readS s = (0, 0, pls)) (hs : tooLong s = false) (hl : (lines s).length ≤ 100) (ht : t.size ≤ 40000) (n : Nat) (m : List UInt8) (e : bytes t = List.replicate n 32 ++ m) (hm : Loose (bytes s) m) : readS t = (0, 0, pls) := by
  obtain ⟨ps, _, _, hp, _⟩ := read_parts h hs
  refine read_same h hs ht hl hp ?_
  have hsp := all2_bytes _ _ (spells_of hp)
  obtain ⟨x, xs, y, ys, e1, e2, h3, h4⟩ := hm.lines
  rw [e, splitL_clean _ _ (blank_clean n), e2]
  rw [lines_split, e1] at hsp
  cases ps with
  | nil => exact hsp.elim
  | cons p ps => exact ⟨spell_blanks (h3.spell hsp.1 _) n, all2_loose _ _ _ h4 hsp.2⟩

theorem sumTo (d : Nat) (ts : List Tk) : ∀ i, i ≤ ts.length → (bytes (tokP (spP ⟨#[]⟩ d) ts i)).length ≤ 2 * d + i + ((ts.take i).flatMap (fun t => bytes t.text)).length
  | 0, _ => by rw [tokP, spP_bytes]; simp
  | i + 1, hi => by
    have ih := sumTo d ts i (by omega)
    rw [tokP, bytes_app, List.getElem?_eq_getElem (show i < ts.length by omega), List.take_add_one, List.getElem?_eq_getElem (show i < ts.length by omega)]
    simp only [Option.map_some, Option.getD_some, Option.toList_some, List.flatMap_append, List.length_append, List.flatMap_cons, List.flatMap_nil, List.append_nil]
    split
    · rw [bytes_app]
      have : (bytes ⟨#[32]⟩).length = 1 := rfl
      simp only [List.length_append]
      omega
    · omega
theorem tidyLn_len {p : PL} {x : List UInt8} (h : Spell x p.toks) (h24 : p.toks.length ≤ 24) : (bytes (tidyLn p)).length ≤ 2 * p.depth.toNat + 24 + x.length := by
  unfold tidyLn
  split
  · show 0 ≤ _; omega
  · have := sumTo p.depth.toNat p.toks _ (Nat.le_refl _)
    rw [List.take_length, ← spell_bare h] at this
    have h2 : (bareL x).length ≤ x.length := List.length_filter_le ..
    omega
theorem joinL_len (k : Nat) : ∀ ls : List (List UInt8), (∀ x ∈ ls, x.length ≤ k) → (joinL ls).length ≤ ls.length * (k + 1)
  | [], _ => by simp [joinL]
  | [x], h => by have := h x (by simp); simp [joinL]; omega
  | x :: y :: r, h => by
    have h1 := h x (by simp)
    have ih := joinL_len k (y :: r) (fun z hz => h z (List.mem_cons_of_mem _ hz))
    rw [joinL]
    simp only [List.length_append, List.length_cons] at ih ⊢
    rw [Nat.add_mul (r.length + 1) 1]
    omega

/-- A source with short lines, tidied: it reads the same, and its bytes are the same but for blanks. -/
theorem read_tidy {s : ByteArray} {pls : List PL} (h : readS s = (0, 0, pls)) (hs : tooLong s = false) (hl : (lines s).length ≤ 100) (hsh : ∀ x ∈ lines s, x.size ≤ 100) :
    readS (tidyP pls) = (0, 0, pls) ∧ bareL (bytes (tidyP pls)) = bareL (bytes s) ∧ (tidyP pls).size ≤ 40000 := by
  obtain ⟨ps, rfl, hne, hp, hd⟩ := read_parts h hs
  have hsp := spells_of hp
  have hr : ∀ p ∈ ps, Right p.toks ∧ (bytes (tidyLn p)).length ≤ 398 := by
    intro p hpm
    obtain ⟨x, hx, h1, h24⟩ := all2_mem _ _ hsp p hpm
    have h2 := tidyLn_len h1 h24
    have h3 := hsh x hx
    have h4 := hd p hpm
    rw [bytes_size x] at h2
    exact ⟨spell_right h1, by omega⟩
  have hsplit := tidyP_split ps zPL (fun p hp => (hr p hp).1) hne
  have hsz : (tidyP (zPL :: ps)).size ≤ 40000 := by
    rw [← bytes_size, ← joinL_split (bytes (tidyP (zPL :: ps))), hsplit]
    have h1 := joinL_len 398 (ps.map (fun p => bytes (tidyLn p))) (by
      intro x hx
      obtain ⟨p, hp, rfl⟩ := List.mem_map.mp hx
      exact (hr p hp).2)
    have h2 : ps.length = (lines s).length := by have := congrArg List.length hp; simpa using this.symm
    simp only [List.length_map] at h1
    have h3 : ps.length * (398 + 1) ≤ 100 * 399 := Nat.mul_le_mul_right _ (by omega)
    omega
  refine ⟨read_same h hs hsz hl hp ?_, ?_, hsz⟩
  · rw [hsplit]
    exact all2_tidy ps (fun p hp => (hr p hp).1)
  · rw [← joinL_split (bytes (tidyP (zPL :: ps))), hsplit, ← joinL_split (bytes s), bare_join, bare_join, ← lines_split, all2_bare _ _ hsp]

end Rt
end Go.Proofs.YtbpajiljfppjcaaGreatDoor

