/- A source that is read, with other blanks, and tidied: the same. No program, no walk. -/
import Derived.Test.YtbpajiljfppjcaaGreatDoorTdB
namespace Go.Proofs.YtbpajiljfppjcaaGreatDoor
namespace Rt

theorem rdLine_toks {s : ByteArray} {p : PL} (h : rdLine s = some p) : toks s = some p.toks ∧ p.depth = 0 := by
  unfold rdLine at h
  cases e : toks s with
  | none => rw [e] at h; cases h
  | some ts =>
    rw [e] at h
    simp only at h
    cases e2 : pLineAll ts with
    | none => rw [e2] at h; cases h
    | some fm => rw [e2] at h; injection h with h; rw [← h]; exact ⟨rfl, rfl⟩
theorem rForms_list : ∀ (texts : List ByteArray) (i : Nat) (acc res : List PL), rForms i texts acc = (0, res) → ∃ q, res = acc ++ q ∧ texts.map rdLine = q.map some
  | [], _, acc, res, h => by simp [rForms] at h; exact ⟨[], by simp [h], rfl⟩
  | s :: r, i, acc, res, h => by
    rw [rForms] at h
    cases e : rdLine s with
    | none => rw [e] at h; simp at h
    | some p =>
      rw [e] at h
      obtain ⟨q, h1, h2⟩ := rForms_list r (i + 1) (acc ++ [p]) res h
      exact ⟨p :: q, by rw [h1]; simp, by simp [e, h2]⟩
theorem rForms_mk : ∀ (texts : List ByteArray) (q : List PL) (i : Nat) (acc : List PL), texts.map rdLine = q.map some → rForms i texts acc = (0, acc ++ q)
  | [], [], _, acc, _ => by simp [rForms]
  | [], _ :: _, _, _, h => by cases h
  | _ :: _, [], _, _, h => by cases h
  | s :: r, p :: q, i, acc, h => by
    simp only [List.map_cons] at h
    injection h with h1 h2
    rw [rForms, h1]
    simp only
    rw [rForms_mk r q (i + 1) (acc ++ [p]) h2]
    simp
theorem placed_depth (bs : List Blk) (p : PL) (h : p.depth = 0) : (placed bs p).depth ≤ bs.length := by
  unfold placed
  split
  · omega
  · split
    · show (bs.length : Int) - 1 ≤ _; omega
    · show (bs.length : Int) ≤ _; omega
theorem nestFrom_list : ∀ (rem : List PL) (n : Nat) (bs : List Blk) (acc ls : List PL) (b2 : List Blk), 0 < n → bs.length < n → (∀ p ∈ rem, p.depth = 0) → nestFrom rem n bs acc = (0, ls, b2) → ∃ q, ls = acc ++ q ∧ q.map PL.toks = rem.map PL.toks ∧ (∀ p ∈ q, p.depth ≤ (n : Int) + rem.length)
  | [], n, bs, acc, ls, b2, _, _, _, h => by
    simp [nestFrom] at h
    exact ⟨[], by simp [h.1], rfl, by simp⟩
  | p :: r, n, bs, acc, ls, b2, hn, hb, hd, h => by
    rw [nestFrom] at h
    split at h
    · have hpl := passed_len bs n p.form.kind
      obtain ⟨q, h1, h2, h3⟩ := nestFrom_list r (n + 1) (passed bs n p.form.kind) (acc ++ [placed bs p]) ls b2 (by omega) (by omega) (fun x hx => hd x (List.mem_cons_of_mem _ hx)) h
      refine ⟨placed bs p :: q, by rw [h1]; simp, by simp [(placed_same bs p).1, h2], ?_⟩
      intro x hx
      simp only [List.length_cons]
      rcases List.mem_cons.mp hx with rfl | hx
      · have := placed_depth bs p (hd p (List.mem_cons_self ..))
        omega
      · have := h3 x hx
        omega
    · simp at h
      omega

/-- What is known of a source that is read. -/
theorem read_parts {s : ByteArray} {pls : List PL} (h : readS s = (0, 0, pls)) (hs : tooLong s = false) :
    ∃ ps, pls = zPL :: ps ∧ ps ≠ [] ∧ (lines s).map toks = ps.map (fun p => some p.toks) ∧ (∀ p ∈ ps, p.depth ≤ 1 + (lines s).length) := by
  unfold readS at h
  rw [if_neg (by rw [hs]; simp), readForms] at h
  split at h
  · injection h with h _; omega
  · next h1 =>
    have h1' : (rForms 0 (lines s) [zPL]).1 = 0 := by omega
    obtain ⟨q, e1, e2⟩ := rForms_list (lines s) 0 [zPL] (rForms 0 (lines s) [zPL]).2 (Prod.ext h1' rfl)
    rw [e1] at h
    simp only [List.singleton_append, List.drop_one, List.tail_cons] at h
    rw [readNest] at h
    split at h
    · injection h with h _; omega
    · next h2 =>
      split at h
      · injection h with h _; omega
      · have hq0 : ∀ p ∈ q, p.depth = 0 := by
          intro p hp
          have : some p ∈ (lines s).map rdLine := by rw [e2]; exact List.mem_map_of_mem hp
          obtain ⟨x, _, hx⟩ := List.mem_map.mp this
          exact (rdLine_toks hx).2
        obtain ⟨ps, g1, g2, g3⟩ := nestFrom_list q 1 [] [zPL] (nestFrom q 1 [] [zPL]).2.1 (nestFrom q 1 [] [zPL]).2.2 (by omega) (by simp) hq0 (Prod.ext (by simpa using h2) rfl)
        have hpls : pls = (nestFrom q 1 [] [zPL]).2.1 := by
          rw [readNames] at h
          split at h
          · injection h with h _; omega
          · split at h
            · injection h with h _; omega
            · injection h with _ h; injection h with _ h; exact h.symm
        have hlen : q.length = (lines s).length := by have := congrArg List.length e2; simpa using this.symm
        have hl1 : 0 < (lines s).length := by rw [lines_len]; omega
        have hpl : ps.length = q.length := by have := congrArg List.length g2; simpa using this
        refine ⟨ps, by rw [hpls, g1]; rfl, ?_, ?_, fun p hp => by have := g3 p hp; omega⟩
        · intro e; rw [e] at hpl; simp at hpl; omega
        · have e3 : (lines s).map toks = q.map (fun p => some p.toks) := by
            have hx : ∀ (a : List ByteArray) (b : List PL), a.map rdLine = b.map some → a.map toks = b.map (fun p => some p.toks) := by
              intro a
              induction a with
              | nil => intro b hb; cases b with
                | nil => rfl
                | cons _ _ => cases hb
              | cons x a ih => intro b hb; cases b with
                | nil => cases hb
                | cons y b =>
                  simp only [List.map_cons] at hb ⊢
                  injection hb with h1 h2
                  rw [ih b h2, (rdLine_toks h1).1]
            exact hx _ _ e2
          rw [e3]
          have : q.map (fun p => some p.toks) = (q.map PL.toks).map some := by simp
          rw [this, ← g2]
          simp

theorem spells_of {a : List ByteArray} {ps : List PL} (h : a.map toks = ps.map (fun p => some p.toks)) : All2 (fun x (p : PL) => Spell (bytes x) p.toks ∧ p.toks.length ≤ 24) a ps := by
  induction a generalizing ps with
  | nil => cases ps with
    | nil => trivial
    | cons _ _ => cases h
  | cons x a ih => cases ps with
    | nil => cases h
    | cons p ps =>
      simp only [List.map_cons] at h
      injection h with h1 h2
      exact ⟨spell_of_toks h1, ih h2⟩
theorem tooLong_not {s : ByteArray} (h1 : s.size ≤ 40000) (h2 : (lines s).length ≤ 100) : tooLong s = false := by
  have := lines_len s
  simp [tooLong]
  omega
theorem nlen (s : ByteArray) : (lines s).length = (splitL (bytes s)).length := by rw [← lines_split]; simp

theorem toks_all2 : ∀ (b a : List ByteArray) (ps : List PL), All2 (fun x (p : PL) => Spell (bytes x) p.toks ∧ p.toks.length ≤ 24) a ps → All2 (fun y (p : PL) => Spell y p.toks) (b.map bytes) ps → b.map toks = ps.map (fun p => some p.toks)
  | [], _, [], _, _ => rfl
  | [], _, _ :: _, _, h => h.elim
  | _ :: _, _, [], _, h => h.elim
  | _ :: _, [], _ :: _, h, _ => h.elim
  | y :: b, x :: a, p :: ps, h1, h2 => by
    simp only [List.map_cons]
    rw [toks_all2 b a ps h1.2 h2.2, toks_spell h2.1 h1.1.2]
theorem all2_bytes : ∀ (a : List ByteArray) (ps : List PL), All2 (fun x (p : PL) => Spell (bytes x) p.toks ∧ p.toks.length ≤ 24) a ps → All2 (fun y (p : PL) => Spell y p.toks) (a.map bytes) ps
  | [], [], _ => trivial
  | [], _ :: _, h => h.elim
  | _ :: _, [], h => h.elim
  | _ :: a, _ :: ps, h => ⟨h.1.1, all2_bytes a ps h.2⟩
theorem all2_loose : ∀ (xs ys : List (List UInt8)) (ps : List PL), All2 LooseLn xs ys → All2 (fun y (p : PL) => Spell y p.toks) xs ps → All2 (fun y (p : PL) => Spell y p.toks) ys ps
  | [], [], _, _, h => h
  | [], _ :: _, _, h, _ => h.elim
  | _ :: _, [], _, h, _ => h.elim
  | _ :: _, _ :: _, [], _, h => h.elim
  | x :: xs, y :: ys, p :: ps, h1, h2 => by
    obtain ⟨⟨k, m', rfl, hm'⟩, h4⟩ := h1
    exact ⟨spell_blanks (hm'.spell h2.1 _) k, all2_loose xs ys ps h4 h2.2⟩
theorem all2_tidy : ∀ ps : List PL, (∀ p ∈ ps, Right p.toks) → All2 (fun y (p : PL) => Spell y p.toks) (ps.map (fun p => bytes (tidyLn p))) ps
  | [], _ => trivial
  | p :: ps, h => ⟨tidyLn_spell (h p (List.mem_cons_self ..)), all2_tidy ps (fun q hq => h q (List.mem_cons_of_mem _ hq))⟩
theorem all2_mem : ∀ (a : List ByteArray) (ps : List PL), All2 (fun x (p : PL) => Spell (bytes x) p.toks ∧ p.toks.length ≤ 24) a ps → ∀ p ∈ ps, ∃ x ∈ a, Spell (bytes x) p.toks ∧ p.toks.length ≤ 24
  | [], [], _, p, hp => by cases hp
  | [], _ :: _, h, _, _ => h.elim
  | _ :: _, [], h, _, _ => h.elim
  | x :: a, q :: ps, h, p, hp => by
    rcases List.mem_cons.mp hp with rfl | hp
    · exact ⟨x, List.mem_cons_self .., h.1⟩
    · obtain ⟨y, hy, h2⟩ := all2_mem a ps h.2 p hp
      exact ⟨y, List.mem_cons_of_mem _ hy, h2⟩
theorem all2_bare : ∀ (a : List ByteArray) (ps : List PL), All2 (fun x (p : PL) => Spell (bytes x) p.toks ∧ p.toks.length ≤ 24) a ps → (ps.map (fun p => bytes (tidyLn p))).map bareL = (a.map bytes).map bareL
  | [], [], _ => rfl
  | [], _ :: _, h => h.elim
  | _ :: _, [], h => h.elim
  | x :: a, p :: ps, h => by
    simp only [List.map_cons]
    rw [all2_bare a ps h.2, spell_bare h.1.1, spell_bare (tidyLn_spell (spell_right h.1.1))]

/-- Lines that spell the same tokens read the same. -/
theorem read_same {s t : ByteArray} {pls : List PL} {ps : List PL} (h : readS s = (0, 0, pls)) (hs : tooLong s = false) (ht : t.size ≤ 40000) (hl : (lines s).length ≤ 100) (hp : (lines s).map toks = ps.map (fun p => some p.toks))
    (hx : All2 (fun y (p : PL) => Spell y p.toks) (splitL (bytes t)) ps) : readS t = (0, 0, pls) := by
  rw [← lines_split] at hx
  have e := toks_all2 _ _ _ (spells_of hp) hx
  have hl2 : (lines t).length = (lines s).length := by
    have h1 := congrArg List.length e
    have h2 := congrArg List.length hp
    simp at h1 h2
    omega
  rw [readS_toks (tooLong_not ht (by omega)) hs (e.trans hp.symm)]
  exact h

/-- With more blanks. -/
theorem read_wide {s t : ByteArray} {pls : List PL} (h : readS s = (0, 0, pls)) (hs : tooLong s = false) (hl : (lines s).length ≤ 100) (ht : t.size ≤ 40000) (n : Nat) (m : List UInt8) (e : bytes t = List.replicate n 32 ++ m) (hm : Loose (bytes s) m) : readS t = (0, 0, pls) := by
  obtain ⟨ps, _, _, hp, _⟩ := read_parts h hs
  refine read_same h hs ht hl hp ?_
  have hsp := all2_bytes _ _ (spells_of hp)
  obtain ⟨x, xs, y, ys, e1, e2, h3, h4⟩ := hm.lines
  rw [e, splitL_clean _ _ (blank_clean n), e2]
  rw [lines_split, e1] at hsp
  cases ps with
  | nil => exact hsp.elim
  | cons p ps => exact ⟨spell_blanks (h3.spell hsp.1 _) n, all2_loose _ _ _ h4 hsp.2⟩

theorem sumTo (d : Nat) (ts : List Tk) : ∀ i, i ≤ ts.length → (bytes (tokP (spP ⟨#[]⟩ d) ts i)).length ≤ 2 * d + i + ((ts.take i).flatMap (fun t => bytes t.text)).length
  | 0, _ => by rw [tokP, spP_bytes]; simp
  | i + 1, hi => by
    have ih := sumTo d ts i (by omega)
    rw [tokP, bytes_app, List.getElem?_eq_getElem (show i < ts.length by omega), List.take_add_one, List.getElem?_eq_getElem (show i < ts.length by omega)]
    simp only [Option.map_some, Option.getD_some, Option.toList_some, List.flatMap_append, List.length_append, List.flatMap_cons, List.flatMap_nil, List.append_nil]
    split
    · rw [bytes_app]
      have : (bytes ⟨#[32]⟩).length = 1 := rfl
      simp only [List.length_append]
      omega
    · omega
theorem tidyLn_len {p : PL} {x : List UInt8} (h : Spell x p.toks) (h24 : p.toks.length ≤ 24) : (bytes (tidyLn p)).length ≤ 2 * p.depth.toNat + 24 + x.length := by
  unfold tidyLn
  split
  · show 0 ≤ _; omega
  · have := sumTo p.depth.toNat p.toks _ (Nat.le_refl _)
    rw [List.take_length, ← spell_bare h] at this
    have h2 : (bareL x).length ≤ x.length := List.length_filter_le ..
    omega
theorem joinL_len (k : Nat) : ∀ ls : List (List UInt8), (∀ x ∈ ls, x.length ≤ k) → (joinL ls).length ≤ ls.length * (k + 1)
  | [], _ => by simp [joinL]
  | [x], h => by have := h x (by simp); simp [joinL]; omega
  | x :: y :: r, h => by
    have h1 := h x (by simp)
    have ih := joinL_len k (y :: r) (fun z hz => h z (List.mem_cons_of_mem _ hz))
    rw [joinL]
    simp only [List.length_append, List.length_cons] at ih ⊢
    rw [Nat.add_mul (r.length + 1) 1]
    omega

/-- A source with short lines, tidied: it reads the same, and its bytes are the same but for blanks. -/
theorem read_tidy {s : ByteArray} {pls : List PL} (h : readS s = (0, 0, pls)) (hs : tooLong s = false) (hl : (lines s).length ≤ 100) (hsh : ∀ x ∈ lines s, x.size ≤ 100) :
    readS (tidyP pls) = (0, 0, pls) ∧ bareL (bytes (tidyP pls)) = bareL (bytes s) ∧ (tidyP pls).size ≤ 40000 := by
  obtain ⟨ps, rfl, hne, hp, hd⟩ := read_parts h hs
  have hsp := spells_of hp
  have hr : ∀ p ∈ ps, Right p.toks ∧ (bytes (tidyLn p)).length ≤ 398 := by
    intro p hpm
    obtain ⟨x, hx, h1, h24⟩ := all2_mem _ _ hsp p hpm
    have h2 := tidyLn_len h1 h24
    have h3 := hsh x hx
    have h4 := hd p hpm
    rw [bytes_size x] at h2
    exact ⟨spell_right h1, by omega⟩
  have hsplit := tidyP_split ps zPL (fun p hp => (hr p hp).1) hne
  have hsz : (tidyP (zPL :: ps)).size ≤ 40000 := by
    rw [← bytes_size, ← joinL_split (bytes (tidyP (zPL :: ps))), hsplit]
    have h1 := joinL_len 398 (ps.map (fun p => bytes (tidyLn p))) (by
      intro x hx
      obtain ⟨p, hp, rfl⟩ := List.mem_map.mp hx
      exact (hr p hp).2)
    have h2 : ps.length = (lines s).length := by have := congrArg List.length hp; simpa using this.symm
    simp only [List.length_map] at h1
    have h3 : ps.length * (398 + 1) ≤ 100 * 399 := Nat.mul_le_mul_right _ (by omega)
    omega
  refine ⟨read_same h hs hsz hl hp ?_, ?_, hsz⟩
  · rw [hsplit]
    exact all2_tidy ps (fun p hp => (hr p hp).1)
  · rw [← joinL_split (bytes (tidyP (zPL :: ps))), hsplit, ← joinL_split (bytes s), bare_join, bare_join, ← lines_split, all2_bare _ _ hsp]

end Rt
end Go.Proofs.YtbpajiljfppjcaaGreatDoor

