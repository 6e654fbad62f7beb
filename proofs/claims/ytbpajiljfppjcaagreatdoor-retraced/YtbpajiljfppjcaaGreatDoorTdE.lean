/- The sources that are made out of numbers are right ones: their lines, their blocks. No program, no walk. -/
import Derived.Test.YtbpajiljfppjcaaGreatDoorTdB
import Derived.Test.YtbpajiljfppjcaaGreatDoorTdD
namespace Go.Proofs.YtbpajiljfppjcaaGreatDoor
namespace Rt

theorem rdLine_toks {s : ByteArray} {p : PL} (h : rdLine s = some p) : toks s = some p.toks ∧ p.depth = 0 := by
  unfold rdLine at h
  cases e : toks s with
  | none => rw [e] at h; cases h
  | some ts =>
    rw [e] at h
    simp only at h
    cases e2 : pLineAll ts with
    | none => rw [e2] at h; cases h
    | some fm => rw [e2] at h; injection h with h; rw [← h]; exact ⟨rfl, rfl⟩
theorem rForms_list : ∀ (texts : List ByteArray) (i : Nat) (acc res : List PL), rForms i texts acc = (0, res) → ∃ q, res = acc ++ q ∧ texts.map rdLine = q.map some
  | [], _, acc, res, h => by simp [rForms] at h; exact ⟨[], by simp [h], rfl⟩
  | s :: r, i, acc, res, h => by
    rw [rForms] at h
    cases e : rdLine s with
    | none => rw [e] at h; simp at h
    | some p =>
      rw [e] at h
      obtain ⟨q, h1, h2⟩ := rForms_list r (i + 1) (acc ++ [p]) res h
      exact ⟨p :: q, by rw [h1]; simp, by simp [e, h2]⟩
theorem rForms_mk : ∀ (texts : List ByteArray) (q : List PL) (i : Nat) (acc : List PL), texts.map rdLine = q.map some → rForms i texts acc = (0, acc ++ q)
  | [], [], _, acc, _ => by simp [rForms]
  | [], _ :: _, _, _, h => by cases h
  | _ :: _, [], _, _, h => by cases h
  | s :: r, p :: q, i, acc, h => by
    simp only [List.map_cons] at h
    injection h with h1 h2
    rw [rForms, h1]
    simp only
    rw [rForms_mk r q (i + 1) (acc ++ [p]) h2]
    simp
theorem placed_depth (bs : List Blk) (p : PL) (h : p.depth = 0) : (placed bs p).depth ≤ bs.length := by
  unfold placed
  split
  · omega
  · split
    · show (bs.length : Int) - 1 ≤ _; omega
    · show (bs.length : Int) ≤ _; omega
theorem nestFrom_list : ∀ (rem : List PL) (n : Nat) (bs : List Blk) (acc ls : List PL) (b2 : List Blk), 0 < n → bs.length < n → (∀ p ∈ rem, p.depth = 0) → nestFrom rem n bs acc = (0, ls, b2) → ∃ q, ls = acc ++ q ∧ q.map PL.toks = rem.map PL.toks ∧ (∀ p ∈ q, p.depth ≤ (n : Int) + rem.length)
  | [], n, bs, acc, ls, b2, _, _, _, h => by
    simp [nestFrom] at h
    exact ⟨[], by simp [h.1], rfl, by simp⟩
  | p :: r, n, bs, acc, ls, b2, hn, hb, hd, h => by
    rw [nestFrom] at h
    split at h
    · have hpl := passed_len bs n p.form.kind
      obtain ⟨q, h1, h2, h3⟩ := nestFrom_list r (n + 1) (passed bs n p.form.kind) (acc ++ [placed bs p]) ls b2 (by omega) (by omega) (fun x hx => hd x (List.mem_cons_of_mem _ hx)) h
      refine ⟨placed bs p :: q, by rw [h1]; simp, by simp [(placed_same bs p).1, h2], ?_⟩
      intro x hx
      simp only [List.length_cons]
      rcases List.mem_cons.mp hx with rfl | hx
      · have := placed_depth bs p (hd p (List.mem_cons_self ..))
        omega
      · have := h3 x hx
        omega
    · simp at h
      omega

/-- What is known of a source that is read. -/
theorem read_parts {s : ByteArray} {pls : List PL} (h : readS s = (0, 0, pls)) (hs : tooLong s = false) :
    ∃ ps, pls = zPL :: ps ∧ ps ≠ [] ∧ (lines s).map toks = ps.map (fun p => some p.toks) ∧ (∀ p ∈ ps, p.depth ≤ 1 + (lines s).length) := by
  unfold readS at h
  rw [if_neg (by rw [hs]; simp), readForms] at h
  split at h
  · injection h with h _; omega
  · next h1 =>
    have h1' : (rForms 0 (lines s) [zPL]).1 = 0 := by omega
    obtain ⟨q, e1, e2⟩ := rForms_list (lines s) 0 [zPL] (rForms 0 (lines s) [zPL]).2 (Prod.ext h1' rfl)
    rw [e1] at h
    simp only [List.singleton_append, List.drop_one, List.tail_cons] at h
    rw [readNest] at h
    split at h
    · injection h with h _; omega
    · next h2 =>
      split at h
      · injection h with h _; omega
      · have hq0 : ∀ p ∈ q, p.depth = 0 := by
          intro p hp
          have : some p ∈ (lines s).map rdLine := by rw [e2]; exact List.mem_map_of_mem hp
          obtain ⟨x, _, hx⟩ := List.mem_map.mp this
          exact (rdLine_toks hx).2
        obtain ⟨ps, g1, g2, g3⟩ := nestFrom_list q 1 [] [zPL] (nestFrom q 1 [] [zPL]).2.1 (nestFrom q 1 [] [zPL]).2.2 (by omega) (by simp) hq0 (Prod.ext (by simpa using h2) rfl)
        have hpls : pls = (nestFrom q 1 [] [zPL]).2.1 := by
          rw [readNames] at h
          split at h
          · injection h with h _; omega
          · split at h
            · injection h with h _; omega
            · injection h with _ h; injection h with _ h; exact h.symm
        have hlen : q.length = (lines s).length := by have := congrArg List.length e2; simpa using this.symm
        have hl1 : 0 < (lines s).length := by rw [lines_len]; omega
        have hpl : ps.length = q.length := by have := congrArg List.length g2; simpa using this
        refine ⟨ps, by rw [hpls, g1]; rfl, ?_, ?_, fun p hp => by have := g3 p hp; omega⟩
        · intro e; rw [e] at hpl; simp at hpl; omega
        · have e3 : (lines s).map toks = q.map (fun p => some p.toks) := by
            have hx : ∀ (a : List ByteArray) (b : List PL), a.map rdLine = b.map some → a.map toks = b.map (fun p => some p.toks) := by
              intro a
              induction a with
              | nil => intro b hb; cases b with
                | nil => rfl
                | cons _ _ => cases hb
              | cons x a ih => intro b hb; cases b with
                | nil => cases hb
                | cons y b =>
                  simp only [List.map_cons] at hb ⊢
                  injection hb with h1 h2
                  rw [ih b h2, (rdLine_toks h1).1]
            exact hx _ _ e2
          rw [e3]
          have : q.map (fun p => some p.toks) = (q.map PL.toks).map some := by simp
          rw [this, ← g2]
          simp

theorem spells_of {a : List ByteArray} {ps : List PL} (h : a.map toks = ps.map (fun p => some p.toks)) : All2 (fun x (p : PL) => Spell (bytes x) p.toks ∧ p.toks.length ≤ 24) a ps := by
  induction a generalizing ps with
  | nil => cases ps with
    | nil => trivial
    | cons _ _ => cases h
  | cons x a ih => cases ps with
    | nil => cases h
    | cons p ps =>
      simp only [List.map_cons] at h
      injection h with h1 h2
      exact ⟨spell_of_toks h1, ih h2⟩
theorem tooLong_not {s : ByteArray} (h1 : s.size ≤ 40000) (h2 : (lines s).length ≤ 100) : tooLong s = false := by
  have := lines_len s
  simp [tooLong]
  omega
theorem nlen (s : ByteArray) : (lines s).length = (splitL (bytes s)).length := by rw [← lines_split]; simp

theorem toks_all2 : ∀ (b a : List ByteArray) (ps : List PL), All2 (fun x (p : PL) => Spell (bytes x) p.toks ∧ p.toks.length ≤ 24) a ps → All2 (fun y (p : PL) => Spell y p.toks) (b.map bytes) ps → b.map toks = ps.map (fun p => some p.toks)
  | [], _, [], _, _ => rfl
  | [], _, _ :: _, _, h => h.elim
  | _ :: _, _, [], _, h => h.elim
  | _ :: _, [], _ :: _, h, _ => h.elim
  | y :: b, x :: a, p :: ps, h1, h2 => by
    simp only [List.map_cons]
    rw [toks_all2 b a ps h1.2 h2.2, toks_spell h2.1 h1.1.2]
theorem all2_bytes : ∀ (a : List ByteArray) (ps : List PL), All2 (fun x (p : PL) => Spell (bytes x) p.toks ∧ p.toks.length ≤ 24) a ps → All2 (fun y (p : PL) => Spell y p.toks) (a.map bytes) ps
  | [], [], _ => trivial
  | [], _ :: _, h => h.elim
  | _ :: _, [], h => h.elim
  | _ :: a, _ :: ps, h => ⟨h.1.1, all2_bytes a ps h.2⟩
theorem all2_loose : ∀ (xs ys : List (List UInt8)) (ps : List PL), All2 LooseLn xs ys → All2 (fun y (p : PL) => Spell y p.toks) xs ps → All2 (fun y (p : PL) => Spell y p.toks) ys ps
  | [], [], _, _, h => h
  | [], _ :: _, _, h, _ => h.elim
  | _ :: _, [], _, h, _ => h.elim
  | _ :: _, _ :: _, [], _, h => h.elim
  | x :: xs, y :: ys, p :: ps, h1, h2 => by
    obtain ⟨⟨k, m', rfl, hm'⟩, h4⟩ := h1
    exact ⟨spell_blanks (hm'.spell h2.1 _) k, all2_loose xs ys ps h4 h2.2⟩
theorem all2_tidy : ∀ ps : List PL, (∀ p ∈ ps, Right p.toks) → All2 (fun y (p : PL) => Spell y p.toks) (ps.map (fun p => bytes (tidyLn p))) ps
  | [], _ => trivial
  | p :: ps, h => ⟨tidyLn_spell (h p (List.mem_cons_self ..)), all2_tidy ps (fun q hq => h q (List.mem_cons_of_mem _ hq))⟩
theorem all2_mem : ∀ (a : List ByteArray) (ps : List PL), All2 (fun x (p : PL) => Spell (bytes x) p.toks ∧ p.toks.length ≤ 24) a ps → ∀ p ∈ ps, ∃ x ∈ a, Spell (bytes x) p.toks ∧ p.toks.length ≤ 24
  | [], [], _, p, hp => by cases hp
  | [], _ :: _, h, _, _ => h.elim
  | _ :: _, [], h, _, _ => h.elim
  | x :: a, q :: ps, h, p, hp => by
    rcases List.mem_cons.mp hp with rfl | hp
    · exact ⟨x, List.mem_cons_self .., h.1⟩
    · obtain ⟨y, hy, h2⟩ := all2_mem a ps h.2 p hp
      exact ⟨y, List.mem_cons_of_mem _ hy, h2⟩
theorem all2_bare : ∀ (a : List ByteArray) (ps : List PL), All2 (fun x (p : PL) => Spell (bytes x) p.toks ∧ p.toks.length ≤ 24) a ps → (ps.map (fun p => bytes (tidyLn p))).map bareL = (a.map bytes).map bareL
  | [], [], _ => rfl
  | [], _ :: _, h => h.elim
  | _ :: _, [], h => h.elim
  | x :: a, p :: ps, h => by
    simp only [List.map_cons]
    rw [all2_bare a ps h.2, spell_bare h.1.1, spell_bare (tidyLn_spell (spell_right h.1.1))]

/-- Lines that spell the same tokens read the same. -/
theorem read_same {s t : ByteArray} {pls : List PL} {ps : List PL} (h : readS s = (0, 0, pls)) (hs : tooLong s = false) (ht : t.size ≤ 40000) (hl : (lines s).length ≤ 100) (hp : (lines s).map toks = ps.map (fun p => some p.toks))
    (hx : All2 (fun y (p : PL) => Spell y p.toks) (splitL (bytes t)) ps) : readS t = (0, 0, pls) := by
  rw [← lines_split] at hx
  have e := toks_all2 _ _ _ (spells_of hp) hx
  have hl2 : (lines t).length = (lines s).length := by
    have h1 := congrArg List.length e
    have h2 := congrArg List.length hp
    simp at h1 h2
    omega
  rw [readS_toks (tooLong_not ht (by omega)) hs (e.trans hp.symm)]
  exact h

/-- With more blanks. -/
theorem read_wide {s t : ByteArray} {pls : List PL} (h : readS s = (0, 0, pls)) (hs : tooLong s = false) (hl : (lines s).length ≤ 100) (ht : t.size ≤ 40000) (n : Nat) (m : List UInt8) (e : bytes t = List.replicate n 32 ++ m) (hm : Loose (bytes s) m) : readS t = (0, 0, pls) := by
  obtain ⟨ps, _, _, hp, _⟩ := read_parts h hs
  refine read_same h hs ht hl hp ?_
  have hsp := all2_bytes _ _ (spells_of hp)
  obtain ⟨x, xs, y, ys, e1, e2, h3, h4⟩ := hm.lines
  rw [e, splitL_clean _ _ (blank_clean n), e2]
  rw [lines_split, e1] at hsp
  cases ps with
  | nil => exact hsp.elim
  | cons p ps => exact ⟨spell_blanks (h3.spell hsp.1 _) n, all2_loose _ _ _ h4 hsp.2⟩

theorem sumTo (d : Nat) (ts : List Tk) : ∀ i, i ≤ ts.length → (bytes (tokP (spP ⟨#[]⟩ d) ts i)).length ≤ 2 * d + i + ((ts.take i).flatMap (fun t => bytes t.text)).length
  | 0, _ => by rw [tokP, spP_bytes]; simp
  | i + 1, hi => by
    have ih := sumTo d ts i (by omega)
    rw [tokP, bytes_app, List.getElem?_eq_getElem (show i < ts.length by omega), List.take_add_one, List.getElem?_eq_getElem (show i < ts.length by omega)]
    simp only [Option.map_some, Option.getD_some, Option.toList_some, List.flatMap_append, List.length_append, List.flatMap_cons, List.flatMap_nil, List.append_nil]
    split
    · rw [bytes_app]
      have : (bytes ⟨#[32]⟩).length = 1 := rfl
      simp only [List.length_append]
      omega
    · omega
theorem tidyLn_len {p : PL} {x : List UInt8} (h : Spell x p.toks) (h24 : p.toks.length ≤ 24) : (bytes (tidyLn p)).length ≤ 2 * p.depth.toNat + 24 + x.length := by
  unfold tidyLn
  split
  · show 0 ≤ _; omega
  · have := sumTo p.depth.toNat p.toks _ (Nat.le_refl _)
    rw [List.take_length, ← spell_bare h] at this
    have h2 : (bareL x).length ≤ x.length := List.length_filter_le ..
    omega
theorem joinL_len (k : Nat) : ∀ ls : List (List UInt8), (∀ x ∈ ls, x.length ≤ k) → (joinL ls).length ≤ ls.length * (k + 1)
  | [], _ => by simp [joinL]
  | [x], h => by have := h x (by simp); simp [joinL]; omega
  | x :: y :: r, h => by
    have h1 := h x (by simp)
    have ih := joinL_len k (y :: r) (fun z hz => h z (List.mem_cons_of_mem _ hz))
    rw [joinL]
    simp only [List.length_append, List.length_cons] at ih ⊢
    rw [Nat.add_mul (r.length + 1) 1]
    omega

/-- A source with short lines, tidied: it reads the same, and its bytes are the same but for blanks. -/
theorem read_tidy {s : ByteArray} {pls : List PL} (h : readS s = (0, 0, pls)) (hs : tooLong s = false) (hl : (lines s).length ≤ 100) (hsh : ∀ x ∈ lines s, x.size ≤ 100) :
    readS (tidyP pls) = (0, 0, pls) ∧ bareL (bytes (tidyP pls)) = bareL (bytes s) ∧ (tidyP pls).size ≤ 40000 := by
  obtain ⟨ps, rfl, hne, hp, hd⟩ := read_parts h hs
  have hsp := spells_of hp
  have hr : ∀ p ∈ ps, Right p.toks ∧ (bytes (tidyLn p)).length ≤ 398 := by
    intro p hpm
    obtain ⟨x, hx, h1, h24⟩ := all2_mem _ _ hsp p hpm
    have h2 := tidyLn_len h1 h24
    have h3 := hsh x hx
    have h4 := hd p hpm
    rw [bytes_size x] at h2
    exact ⟨spell_right h1, by omega⟩
  have hsplit := tidyP_split ps zPL (fun p hp => (hr p hp).1) hne
  have hsz : (tidyP (zPL :: ps)).size ≤ 40000 := by
    rw [← bytes_size, ← joinL_split (bytes (tidyP (zPL :: ps))), hsplit]
    have h1 := joinL_len 398 (ps.map (fun p => bytes (tidyLn p))) (by
      intro x hx
      obtain ⟨p, hp, rfl⟩ := List.mem_map.mp hx
      exact (hr p hp).2)
    have h2 : ps.length = (lines s).length := by have := congrArg List.length hp; simpa using this.symm
    simp only [List.length_map] at h1
    have h3 : ps.length * (398 + 1) ≤ 100 * 399 := Nat.mul_le_mul_right _ (by omega)
    omega
  refine ⟨read_same h hs hsz hl hp ?_, ?_, hsz⟩
  · rw [hsplit]
    exact all2_tidy ps (fun p hp => (hr p hp).1)
  · rw [← joinL_split (bytes (tidyP (zPL :: ps))), hsplit, ← joinL_split (bytes s), bare_join, bare_join, ← lines_split, all2_bare _ _ hsp]

end Rt
end Go.Proofs.YtbpajiljfppjcaaGreatDoor

namespace Go.Proofs.YtbpajiljfppjcaaGreatDoor
namespace Rt

/-- All lines that a procedure's numbers can make are good ones. -/
structure Goods (pars vars : List ByteArray) : Prop where
  fi : ∀ a ∈ vars, ∀ n ∈ digs, lnGood pars 5 (ifT a n) = true
  wh : ∀ a ∈ vars, ∀ n ∈ digs, lnGood pars 7 (whT a n) = true
  inc : ∀ a ∈ vars, lnGood pars 8 (incT a) = true
  pr : ∀ a ∈ vars, ∀ n ∈ digs, lnGood pars 10 (prT a n) = true
  dv : ∀ a ∈ vars, ∀ n ∈ digs, lnGood pars 8 (dvT a n) = true
  pl : ∀ a ∈ vars, ∀ b ∈ vars, ∀ n ∈ digs, ∀ k : Int, 0 ≤ k → k < 8 → ∃ q : Int, 8 ≤ q ∧ q ≤ 12 ∧ lnGood pars q (plainE k a b n) = true
  el : lnGood pars 6 elT = true
  en : lnGood pars 4 enT = true

theorem all1 {α : Type} {A : List α} {f : α → Bool} (h : A.all f = true) {a : α} (ha : a ∈ A) : f a = true := List.all_eq_true.mp h a ha
theorem pl0 (a b n : ByteArray) : plainE 0 a b n = plainE 0 a ⟨#[]⟩ n := by simp [plainE]
theorem pl1 (a b n : ByteArray) : plainE 1 a b n = plainE 1 a b ⟨#[]⟩ := by simp [plainE]
theorem pl2 (a b n : ByteArray) : plainE 2 a b n = plainE 2 a b ⟨#[]⟩ := by simp [plainE]
theorem pl3 (a b n : ByteArray) : plainE 3 a b n = plainE 3 a ⟨#[]⟩ n := by simp [plainE]
theorem pl4 (a b n : ByteArray) : plainE 4 a b n = plainE 4 a ⟨#[]⟩ ⟨#[]⟩ := by simp [plainE]
theorem pl5 (a b n : ByteArray) : plainE 5 a b n = plainE 5 a ⟨#[]⟩ ⟨#[]⟩ := by simp [plainE]
theorem pl6 (a b n : ByteArray) : plainE 6 a b n = plainE 6 a ⟨#[]⟩ n := by simp [plainE]
theorem goods_of {pars vars names : List ByteArray} (hsub : ∀ a ∈ vars, a ∈ names)
    (g1 : (names.all fun a => digs.all fun n => lnGood pars 5 (ifT a n)) = true) (g2 : (names.all fun a => digs.all fun n => lnGood pars 7 (whT a n)) = true)
    (g3 : (names.all fun a => lnGood pars 8 (incT a)) = true) (g4 : (names.all fun a => digs.all fun n => lnGood pars 10 (prT a n)) = true) (g5 : (names.all fun a => digs.all fun n => lnGood pars 8 (dvT a n)) = true)
    (q0 : (names.all fun a => digs.all fun n => lnGood pars 8 (plainE 0 a ⟨#[]⟩ n)) = true) (q1 : (names.all fun a => names.all fun b => lnGood pars 8 (plainE 1 a b ⟨#[]⟩)) = true) (q2 : (names.all fun a => names.all fun b => lnGood pars 9 (plainE 2 a b ⟨#[]⟩)) = true)
    (q3 : (names.all fun a => digs.all fun n => lnGood pars 8 (plainE 3 a ⟨#[]⟩ n)) = true) (q4 : (names.all fun a => lnGood pars 10 (plainE 4 a ⟨#[]⟩ ⟨#[]⟩)) = true) (q5 : (names.all fun a => lnGood pars 11 (plainE 5 a ⟨#[]⟩ ⟨#[]⟩)) = true)
    (q6 : (names.all fun a => digs.all fun n => lnGood pars 12 (plainE 6 a ⟨#[]⟩ n)) = true) (q7 : (names.all fun a => names.all fun b => digs.all fun n => lnGood pars 8 (plainE 7 a b n)) = true)
    (g6 : lnGood pars 6 elT = true) (g7 : lnGood pars 4 enT = true) : Goods pars vars where
  fi a ha n hn := all1 (all1 g1 (hsub a ha)) hn
  wh a ha n hn := all1 (all1 g2 (hsub a ha)) hn
  inc a ha := all1 g3 (hsub a ha)
  pr a ha n hn := all1 (all1 g4 (hsub a ha)) hn
  dv a ha n hn := all1 (all1 g5 (hsub a ha)) hn
  pl a ha b hb n hn k h0 h8 := by
    have hk : k = 0 ∨ k = 1 ∨ k = 2 ∨ k = 3 ∨ k = 4 ∨ k = 5 ∨ k = 6 ∨ k = 7 := by omega
    rcases hk with rfl | rfl | rfl | rfl | rfl | rfl | rfl | rfl
    · exact ⟨8, by omega, by omega, by rw [pl0]; exact all1 (all1 q0 (hsub a ha)) hn⟩
    · exact ⟨8, by omega, by omega, by rw [pl1]; exact all1 (all1 q1 (hsub a ha)) (hsub b hb)⟩
    · exact ⟨9, by omega, by omega, by rw [pl2]; exact all1 (all1 q2 (hsub a ha)) (hsub b hb)⟩
    · exact ⟨8, by omega, by omega, by rw [pl3]; exact all1 (all1 q3 (hsub a ha)) hn⟩
    · exact ⟨10, by omega, by omega, by rw [pl4]; exact all1 q4 (hsub a ha)⟩
    · exact ⟨11, by omega, by omega, by rw [pl5]; exact all1 q5 (hsub a ha)⟩
    · exact ⟨12, by omega, by omega, by rw [pl6]; exact all1 (all1 q6 (hsub a ha)) hn⟩
    · exact ⟨8, by omega, by omega, all1 (all1 (all1 q7 (hsub a ha)) (hsub b hb)) hn⟩
  el := g6
  en := g7
theorem goodsM : Goods [] varsM := goods_of (fun _ h => h) good_if_m good_wh_m good_inc_m good_pr_m good_dv_m good_p0_m good_p1_m good_p2_m good_p3_m good_p4_m good_p5_m good_p6_m good_p7_m good_el_m good_en_m
theorem goodsF : Goods parsF varsF := goods_of (names := namesF) (fun a h => by
  simp only [varsF, namesF, List.mem_cons, List.not_mem_nil, or_false] at h ⊢
  rcases h with h | h | h | h | h <;> simp [h]) good_if_f good_wh_f good_inc_f good_pr_f good_dv_f good_p0_f good_p1_f good_p2_f good_p3_f good_p4_f good_p5_f good_p6_f good_p7_f good_el_f good_en_f

theorem digit_in (d : Int) (h0 : 0 ≤ d) (h1 : d < 10) : digitT d ∈ digs := by
  have hd : d = 0 ∨ d = 1 ∨ d = 2 ∨ d = 3 ∨ d = 4 ∨ d = 5 ∨ d = 6 ∨ d = 7 ∨ d = 8 ∨ d = 9 := by omega
  rcases hd with rfl | rfl | rfl | rfl | rfl | rfl | rfl | rfl | rfl | rfl <;> simp [digs, digitT]
theorem var_in (vars : List ByteArray) (i : Int) (h0 : 0 ≤ i) (h1 : i < vars.length) : varE vars i ∈ vars := by
  unfold varE
  rw [List.getElem?_eq_getElem (by omega)]
  exact List.getElem_mem _

/-- Lines that a procedure's numbers make, and the blocks that are open ahead of them and behind them. -/
inductive Emit (pars : List ByteArray) : List Int → List ByteArray → List Int → Prop
  | nil {o} : Emit pars o [] o
  | plain {o s ls o'} {k : Int} : lnGood pars k s = true → 8 ≤ k → k ≤ 12 → Emit pars o ls o' → Emit pars o (s :: ls) o'
  | fi {o s ls o'} : lnGood pars 5 s = true → Emit pars (o ++ [1]) ls o' → Emit pars o (s :: ls) o'
  | wh {o s ls o'} : lnGood pars 7 s = true → Emit pars (o ++ [3]) ls o' → Emit pars o (s :: ls) o'
  | el {o s ls o'} : lnGood pars 6 s = true → topE o = 1 → Emit pars (o.dropLast ++ [2]) ls o' → Emit pars o (s :: ls) o'
  | en {o s ls o'} : lnGood pars 4 s = true → o ≠ [] → Emit pars o.dropLast ls o' → Emit pars o (s :: ls) o'
theorem Emit.trans {pars : List ByteArray} {o a o1 b o2} (h : Emit pars o a o1) (h2 : Emit pars o1 b o2) : Emit pars o (a ++ b) o2 := by
  induction h with
  | nil => exact h2
  | plain a1 a2 a3 _ ih => exact Emit.plain a1 a2 a3 (ih h2)
  | fi a1 _ ih => exact Emit.fi a1 (ih h2)
  | wh a1 _ ih => exact Emit.wh a1 (ih h2)
  | el a1 a2 _ ih => exact Emit.el a1 a2 (ih h2)
  | en a1 a2 _ ih => exact Emit.en a1 a2 (ih h2)

theorem block_emit {pars vars : List ByteArray} (g : Goods pars vars) (o : List Int) (k : Int) (a n : ByteArray) (ha : a ∈ vars) (hn : n ∈ digs) : Emit pars o (blockE o k a n).1 (blockE o k a n).2 ∧ (blockE o k a n).1.length + (blockE o k a n).2.length ≤ o.length + 3 := by
  unfold blockE
  split
  · exact ⟨Emit.fi (g.fi a ha n hn) Emit.nil, by simp; omega⟩
  · split
    · exact ⟨Emit.wh (g.wh a ha n hn) (Emit.plain (g.inc a ha) (by omega) (by omega) Emit.nil), by simp; omega⟩
    · split
      · next h => exact ⟨Emit.el g.el h.2 Emit.nil, by simp; omega⟩
      · split
        · next h =>
          refine ⟨Emit.en g.en ?_ Emit.nil, by simp; omega⟩
          intro e
          rw [e] at h
          simp [topE] at h
        · split
          · exact ⟨Emit.plain (g.pr a ha n hn) (by omega) (by omega) Emit.nil, by simp; omega⟩
          · exact ⟨Emit.plain (g.dv a ha n hn) (by omega) (by omega) Emit.nil, by simp; omega⟩
theorem step_emit {pars vars : List ByteArray} (g : Goods pars vars) (hv : 0 < vars.length) (c : Int) (o : List Int) : Emit pars o (stepE vars c o).1 (stepE vars c o).2 ∧ (stepE vars c o).1.length + (stepE vars c o).2.length ≤ o.length + 3 := by
  have hlen : (0 : Int) < vars.length := by omega
  unfold stepE
  simp only
  have hv0 : 0 ≤ pickP c 1099511627776 := Int.emod_nonneg _ (by decide)
  generalize pickP c 1099511627776 = v at hv0
  have ha := var_in vars (v / 12 % vars.length) (Int.emod_nonneg _ (by omega)) (Int.emod_lt_of_pos _ hlen)
  have hb := var_in vars (v / 60 % vars.length) (Int.emod_nonneg _ (by omega)) (Int.emod_lt_of_pos _ hlen)
  have hn := digit_in (v / 300 % 10) (Int.emod_nonneg _ (by decide)) (Int.emod_lt_of_pos _ (by decide))
  split
  · next h =>
    obtain ⟨q, q1, q2, q3⟩ := g.pl _ ha _ hb _ hn (v % 12) (Int.emod_nonneg _ (by decide)) h
    exact ⟨Emit.plain q3 q1 q2 Emit.nil, by simp; omega⟩
  · exact block_emit g o _ _ _ ha hn
theorem body_emit {pars vars : List ByteArray} (g : Goods pars vars) (hv : 0 < vars.length) : ∀ (code o : List Int), Emit pars o (bodyE vars code o).1 (bodyE vars code o).2 ∧ (bodyE vars code o).1.length + (bodyE vars code o).2.length ≤ o.length + 3 * code.length
  | [], o => ⟨Emit.nil, by simp [bodyE]⟩
  | c :: r, o => by
    obtain ⟨h1, h2⟩ := step_emit g hv c o
    obtain ⟨h3, h4⟩ := body_emit g hv r (stepE vars c o).2
    exact ⟨h1.trans h3, by simp only [bodyE, List.length_append, List.length_cons]; omega⟩
theorem ends_emit {pars : List ByteArray} (h : lnGood pars 4 enT = true) : ∀ (n : Nat) (o : List Int), o.length = n → Emit pars o (List.replicate n enT) []
  | 0, o, e => by rw [List.eq_nil_of_length_eq_zero e]; exact Emit.nil
  | n + 1, o, e => by
    rw [List.replicate_succ]
    exact Emit.en h (by intro x; rw [x] at e; simp at e) (ends_emit h n o.dropLast (by simp; omega))
/-- A procedure's lines but for its end. -/
def innerL (vars : List ByteArray) (code : List Int) : List ByteArray := (bodyE vars (code.take 14) []).1 ++ List.replicate (bodyE vars (code.take 14) []).2.length enT
theorem bodyL_inner (vars : List ByteArray) (code : List Int) : bodyL vars code = innerL vars code ++ [enT] := by
  unfold bodyL innerL
  rw [List.append_assoc, List.replicate_succ']
theorem inner_emit {pars vars : List ByteArray} (g : Goods pars vars) (hv : 0 < vars.length) (code : List Int) : Emit pars [] (innerL vars code) [] ∧ (innerL vars code).length ≤ 42 := by
  obtain ⟨h1, h2⟩ := body_emit g hv (code.take 14) []
  refine ⟨h1.trans (ends_emit g.en _ _ rfl), ?_⟩
  unfold innerL
  have : (code.take 14).length ≤ 14 := by simp; omega
  simp only [List.length_append, List.length_replicate, List.length_nil] at h2 ⊢
  omega

/-- Lines placed one after the other. -/
def placeAll : List PL → Nat → List Blk → List PL
  | [], _, _ => []
  | p :: r, n, bs => placed bs p :: placeAll r (n + 1) (passed bs n p.form.kind)
def passAll : List PL → Nat → List Blk → List Blk
  | [], _, bs => bs
  | p :: r, n, bs => passAll r (n + 1) (passed bs n p.form.kind)
def admAll : List PL → Nat → List Blk → Prop
  | [], _, _ => True
  | p :: r, n, bs => adm bs p.form.kind = true ∧ admAll r (n + 1) (passed bs n p.form.kind)
theorem nestFrom_all : ∀ (rem : List PL) (n : Nat) (bs : List Blk) (acc tail : List PL), admAll rem n bs → nestFrom (rem ++ tail) n bs acc = nestFrom tail (n + rem.length) (passAll rem n bs) (acc ++ placeAll rem n bs)
  | [], n, bs, acc, tail, _ => by simp [passAll, placeAll]
  | p :: r, n, bs, acc, tail, h => by
    rw [List.cons_append, nestFrom, if_pos h.1, nestFrom_all r (n + 1) _ _ tail h.2, passAll, placeAll]
    simp only [List.length_cons, List.append_assoc, List.singleton_append]
    rw [show n + 1 + r.length = n + (r.length + 1) by omega]
theorem placeAll_len : ∀ (rem : List PL) (n : Nat) (bs : List Blk), (placeAll rem n bs).length = rem.length
  | [], _, _ => rfl
  | p :: r, n, bs => by rw [placeAll]; simp [placeAll_len r]

theorem good_line {pars : List ByteArray} {k : Int} {s : ByteArray} (h : lnGood pars k s = true) : ∃ p, rdLine s = some p ∧ p.form.kind = k ∧ fmGood pars p.form = true ∧ s.size ≤ 40 ∧ p.depth = 0 ∧ p.opener = 0 ∧ p.proc = 0 := by
  unfold lnGood at h
  cases e : rdLine s with
  | none => rw [e] at h; cases h
  | some p =>
    rw [e] at h
    simp only [Bool.and_eq_true, decide_eq_true_eq] at h
    obtain ⟨⟨⟨⟨⟨h1, h2⟩, h3⟩, h4⟩, h5⟩, h6⟩ := h
    exact ⟨p, rfl, h1, h2, h3, h4, h5, h6⟩

/-- The blocks that are open in a procedure that begins at line P. -/
def Mt (P : Nat) (o : List Int) (bs : List Blk) : Prop := ∃ bs', bs = ⟨P, 3, false⟩ :: bs' ∧ All2 (fun (o : Int) (b : Blk) => o = 1 → b.kind = 5 ∧ b.els = false) o bs'
def InP (P : Nat) (pars : List ByteArray) (q : PL) : Prop := fmGood pars q.form = true ∧ q.proc = P
theorem All2.snoc {α β : Type} {R : α → β → Prop} {x : α} {y : β} (h : R x y) : ∀ (a : List α) (b : List β), All2 R a b → All2 R (a ++ [x]) (b ++ [y])
  | [], [], _ => ⟨h, trivial⟩
  | [], _ :: _, h => h.elim
  | _ :: _, [], h => h.elim
  | _ :: a, _ :: b, h' => ⟨h'.1, All2.snoc h a b h'.2⟩
theorem All2.drop {α β : Type} {R : α → β → Prop} : ∀ (a : List α) (b : List β), All2 R a b → All2 R a.dropLast b.dropLast
  | [], [], _ => trivial
  | [], _ :: _, h => h.elim
  | _ :: _, [], h => h.elim
  | [_], [_], _ => trivial
  | [_], _ :: _ :: _, h => h.2.elim
  | _ :: _ :: _, [_], h => h.2.elim
  | _ :: x2 :: a, _ :: y2 :: b, h => ⟨h.1, All2.drop (x2 :: a) (y2 :: b) h.2⟩
theorem All2.last {α β : Type} {R : α → β → Prop} (d : α) (e : β) : ∀ (a : List α) (b : List β), All2 R a b → a ≠ [] → b ≠ [] ∧ R (a.getLastD d) (b.getLastD e)
  | [], _, _, h => absurd rfl h
  | _ :: _, [], h, _ => h.elim
  | [x], [y], h, _ => ⟨by simp, by simpa using h.1⟩
  | [_], _ :: _ :: _, h, _ => h.2.elim
  | _ :: _ :: _, [_], h, _ => h.2.elim
  | _ :: x2 :: a, _ :: y2 :: b, h, _ => by
    have := All2.last d e (x2 :: a) (y2 :: b) h.2 (by simp)
    refine ⟨by simp, ?_⟩
    simpa using this.2
theorem All2.nilr {α β : Type} {R : α → β → Prop} {b : List β} (h : All2 R [] b) : b = [] := by
  cases b with
  | nil => rfl
  | cons _ _ => exact h.elim
theorem drop_cons {α : Type} (x : α) (l : List α) (h : l ≠ []) : (x :: l).dropLast = x :: l.dropLast := by
  cases l with
  | nil => exact absurd rfl h
  | cons _ _ => rfl
theorem placed_in {P : Nat} {pars : List ByteArray} {o : List Int} {bs : List Blk} {p : PL} (hm : Mt P o bs) (h : fmGood pars p.form = true) : InP P pars (placed bs p) := by
  obtain ⟨bs', rfl, _⟩ := hm
  refine ⟨by rw [(placed_same _ p).2]; exact h, ?_⟩
  unfold placed
  rw [if_neg (by simp)]
  split <;> rfl
theorem adm_in {P : Nat} {o : List Int} {bs : List Blk} {k : Int} (hm : Mt P o bs) (h4 : 4 ≤ k) (h6 : k = 6 → topE o = 1) : adm bs k = true := by
  obtain ⟨bs', rfl, h2⟩ := hm
  unfold adm
  rw [if_neg (by omega), if_neg (by omega), if_neg (by simp)]
  by_cases hk : k = 6
  · rw [if_pos hk]
    have ht := h6 hk
    have hne : o ≠ [] := by intro e; rw [e] at ht; simp [topE] at ht
    obtain ⟨hb, hl⟩ := All2.last 0 (⟨0, 0, false⟩ : Blk) _ _ h2 hne
    have hl' := hl ht
    have e : lastOr (⟨P, 3, false⟩ :: bs') = bs'.getLastD ⟨0, 0, false⟩ := by
      unfold lastOr
      cases bs' with
      | nil => exact absurd rfl hb
      | cons x r => simp
    rw [e, hl'.1, hl'.2]
    rfl
  · rw [if_neg hk]

theorem emit_nest {P : Nat} {pars : List ByteArray} {o : List Int} {ls : List ByteArray} {o' : List Int} (h : Emit pars o ls o') : ∀ (n : Nat) (bs : List Blk), Mt P o bs → ∃ ps, ls.map rdLine = ps.map some ∧ admAll ps n bs ∧ Mt P o' (passAll ps n bs) ∧ (∀ q ∈ placeAll ps n bs, InP P pars q) ∧ ∀ s ∈ ls, s.size ≤ 40 := by
  have cons : ∀ {s : ByteArray} {ls : List ByteArray} {k : Int} {o o1 o' : List Int} (n : Nat) (bs : List Blk), lnGood pars k s = true → Mt P o bs → 4 ≤ k → (k = 6 → topE o = 1) → Mt P o1 (passed bs n k) →
      (∀ (n : Nat) (bs : List Blk), Mt P o1 bs → ∃ ps, ls.map rdLine = ps.map some ∧ admAll ps n bs ∧ Mt P o' (passAll ps n bs) ∧ (∀ q ∈ placeAll ps n bs, InP P pars q) ∧ ∀ s ∈ ls, s.size ≤ 40) →
      ∃ ps, (s :: ls).map rdLine = ps.map some ∧ admAll ps n bs ∧ Mt P o' (passAll ps n bs) ∧ (∀ q ∈ placeAll ps n bs, InP P pars q) ∧ ∀ x ∈ s :: ls, x.size ≤ 40 := by
    intro s ls k o o1 o' n bs hg hm h4 h6 hm1 ih
    obtain ⟨p, hp, hk, hf, hsz, _⟩ := good_line hg
    obtain ⟨ps, i1, i2, i3, i4, i5⟩ := ih (n + 1) _ hm1
    refine ⟨p :: ps, by simp [hp, i1], ⟨by rw [hk]; exact adm_in hm h4 h6, by rw [hk]; exact i2⟩, by rw [passAll, hk]; exact i3, ?_, ?_⟩
    · intro q hq
      rw [placeAll, hk] at hq
      rcases List.mem_cons.mp hq with rfl | hq
      · exact placed_in hm hf
      · exact i4 q hq
    · intro x hx
      rcases List.mem_cons.mp hx with rfl | hx
      · exact hsz
      · exact i5 x hx
  induction h with
  | nil => intro n bs hm; exact ⟨[], rfl, trivial, hm, by simp [placeAll], by simp⟩
  | @plain o s ls o' k a1 a2 a3 _ ih =>
    intro n bs hm
    refine cons n bs a1 hm (by omega) (by omega) ?_ ih
    unfold passed
    rw [if_neg (by omega), if_neg (by omega), if_neg (by omega)]
    exact hm
  | @fi o s ls o' a1 _ ih =>
    intro n bs hm
    refine cons n bs a1 hm (by omega) (by omega) ?_ ih
    obtain ⟨bs', rfl, h2⟩ := hm
    exact ⟨bs' ++ [⟨n, 5, false⟩], by simp [passed], All2.snoc (fun _ => ⟨rfl, rfl⟩) _ _ h2⟩
  | @wh o s ls o' a1 _ ih =>
    intro n bs hm
    refine cons n bs a1 hm (by omega) (by omega) ?_ ih
    obtain ⟨bs', rfl, h2⟩ := hm
    exact ⟨bs' ++ [⟨n, 7, false⟩], by simp [passed], All2.snoc (fun h => absurd h (by decide)) _ _ h2⟩
  | @el o s ls o' a1 a2 _ ih =>
    intro n bs hm
    refine cons n bs a1 hm (by omega) (fun _ => a2) ?_ ih
    obtain ⟨bs', rfl, h2⟩ := hm
    have hne : o ≠ [] := by intro e; rw [e] at a2; simp [topE] at a2
    obtain ⟨hb, _⟩ := All2.last 0 (⟨0, 0, false⟩ : Blk) _ _ h2 hne
    refine ⟨bs'.dropLast ++ [⟨(lastOr (⟨P, 3, false⟩ :: bs')).line, (lastOr (⟨P, 3, false⟩ :: bs')).kind, true⟩], ?_, All2.snoc (fun h => absurd h (by decide)) _ _ (All2.drop _ _ h2)⟩
    unfold passed
    rw [if_neg (by omega), if_pos rfl, if_neg (by simp), drop_cons _ _ hb]
    rfl
  | @en o s ls o' a1 a2 _ ih =>
    intro n bs hm
    refine cons n bs a1 hm (by omega) (by omega) ?_ ih
    obtain ⟨bs', rfl, h2⟩ := hm
    obtain ⟨hb, _⟩ := All2.last 0 (⟨0, 0, false⟩ : Blk) _ _ h2 a2
    refine ⟨bs'.dropLast, ?_, All2.drop _ _ h2⟩
    unfold passed
    rw [if_neg (by omega), if_neg (by omega), if_pos rfl, drop_cons _ _ hb]
end Rt
end Go.Proofs.YtbpajiljfppjcaaGreatDoor

