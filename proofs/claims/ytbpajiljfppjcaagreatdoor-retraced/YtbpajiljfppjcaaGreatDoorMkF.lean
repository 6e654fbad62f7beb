/- Made sources: plain and block whole; a procedure's body. -/
import Derived.Test.YtbpajiljfppjcaaGreatDoorMkD
import Derived.Deep.RegionLaw
namespace Go.Proofs.YtbpajiljfppjcaaGreatDoor
open Go.RowKit
attribute [local go_sem ↓] Go.wp_at_zero Go.wp_at_succ
theorem Tryz.infoIntM : (Tryz.prog.info? 3).map (fun i => (i.zero, i.size, i.bytes)) = some (some (.int .i64 0), 1, 8) := by kernel_rfl
theorem if_size (a n : ByteArray) (ha : a.size ≤ 8) (hn : n.size ≤ 8) : (Rt.ifT a n).size ≤ 100 ∧ (Rt.whT a n).size ≤ 100 ∧ (Rt.incT a).size ≤ 100 ∧ (Rt.prT a n).size ≤ 100 ∧ (Rt.dvT a n).size ≤ 100 ∧ Rt.elT.size ≤ 100 ∧ Rt.enT.size ≤ 100 := by
  unfold Rt.ifT Rt.whT Rt.incT Rt.prT Rt.dvT Rt.elT Rt.enT
  simp only [ByteArray.size_append, lit_size, List.length_cons, List.length_nil]
  omega
theorem unl_size (ls : List ByteArray) (s : ByteArray) : (Rt.unl (ls ++ [s])).size = (Rt.unl ls).size + s.size + 1 := by
  rw [Rt.unl_snoc, ByteArray.size_append, ByteArray.size_append]; rfl
theorem MakS.put {w w1 wx : World} {M : Nat} {ls : List ByteArray} {o o' : List Int} {ov ov' : Value} (h : MakS w M ls o ov) (hb : Below w.heap.size w wx) (hg : wx.grownBy w1 ov.ownBlock)
    (hown : w1.ownsRow (M + 1) 3 1 ov' o'.length (o'.map (Value.int .i64))) :
    MakS (w1.setCell ⟨M, 1, none⟩ ov') M ls o' ov' ∧ MFr M w (w1.setCell ⟨M, 1, none⟩ ov') := by
  have hlt := block_lt h.block
  have hne : ∀ k, k ≤ M → some k ≠ ov.ownBlock := fun k hk e => by have := (h.own.lt k e.symm).1; omega
  have hkeep : ∀ k, k < w.heap.size → some k ≠ ov.ownBlock → w1.heap[k]? = w.heap[k]? := fun k hk hv => (hg.block k (Nat.lt_of_lt_of_le hk hb.size) hv).trans (hb.block k hk)
  have hset : ∀ k, k ≠ M → (w1.setCell ⟨M, 1, none⟩ ov').heap[k]? = w1.heap[k]? := fun k hk => Below.heap_setCell w1 ⟨M, 1, none⟩ _ k hk
  refine ⟨⟨?_, ownsRow_setCell_below hown (by show M < M + 1; omega) _⟩, ⟨hg.os.trans hb.os, hg.tape.trans hb.tape, hg.output.trans hb.output, ?_, fun k x hk hkM hx => ?_⟩⟩
  · have := set_block ((hkeep M hlt (hne M (Nat.le_refl _))).trans h.block) 1 ov'
    simpa using this
  · have := hg.size
    have := hb.size
    simp [World.setCell]
    omega
  · rw [hset k hkM, hkeep k (block_lt hk) ?_]
    · exact hk
    · intro e
      rcases hx with hx | hx
      · exact hne k (by omega) e
      · rcases h.own.2 with ⟨h', _⟩ | ⟨g', _, cur, h', _, hh, _⟩
        · rw [h'] at e; cases e
        · rw [h'] at e
          simp [Value.ownBlock] at e
          subst e
          rw [hh] at hk
          injection hk with hk
          exact hx _ hk.symm
theorem mgrown_refl (w : World) (row : Option Nat) : w.grownBy w row := ⟨rfl, rfl, rfl, Nat.le_refl _, fun _ _ _ => rfl⟩
theorem mak_far {w w1 wx : World} {M : Nat} {ls : List ByteArray} {o : List Int} {ov : Value} (h : MakS w M ls o ov) (hb : Below w.heap.size w wx) (hg : wx.grownBy w1 ov.ownBlock) : w1.cell? ⟨M, 1, none⟩ = some ov ∧ w1.frozen? ⟨M, 1, none⟩ = false := by
  have hlt := block_lt h.block
  have hk : w1.heap[M]? = some (.cells #[.string (Rt.unl ls), ov] 67 (0, 0)) := by
    rw [hg.block M (Nat.lt_of_lt_of_le hlt hb.size) (fun e => by have := (h.own.lt M e.symm).1; omega), hb.block M hlt]
    exact h.block
  exact ⟨cell_of_block hk 1 (by simp), free_of_block hk 1⟩

set_option maxHeartbeats 2000000 in
theorem block_0 (w : World) (M : Nat) (ls : List ByteArray) (o : List Int) (ov : Value) (a n : ByteArray) (h : MakS w M ls o ov) (ha : a.size ≤ 8) (hn : n.size ≤ 8) (hsz : (Rt.unl ls).size ≤ 900000) (hlen : o.length ≤ 900) :
    Calls Tryz.prog 59 #[.pointer (some ⟨M, 0, none⟩), .int .i64 0, .string a, .string n] w (MakP M (ls ++ [Rt.ifT a n]) (o ++ [1]) w) := by
  have hs := if_size a n ha hn
  have HE := hide (show Rt.ifT a n = (⟨#[105, 102, 32]⟩ : ByteArray) ++ a ++ (⟨#[32, 60, 32]⟩ : ByteArray) ++ n from rfl)
  have q0 := madd_text (a := (⟨#[105, 102, 32]⟩ : ByteArray)) (b := a) (by simp only [lit_size, List.length_cons, List.length_nil]; have := ha; have := hn; omega)
  have q1 := madd_text (a := (⟨#[105, 102, 32]⟩ : ByteArray) ++ a) (b := (⟨#[32, 60, 32]⟩ : ByteArray)) (by simp only [ByteArray.size_append, lit_size, List.length_cons, List.length_nil]; have := ha; have := hn; omega)
  have q2 := madd_text (a := (⟨#[105, 102, 32]⟩ : ByteArray) ++ a ++ (⟨#[32, 60, 32]⟩ : ByteArray)) (b := n) (by simp only [ByteArray.size_append, lit_size, List.length_cons, List.length_nil]; have := ha; have := hn; omega)
  go_enter Tryz.func59, Tryz.ntmps59
  go_wp2_with fail
  refine (top_any _ M ls o ov h (by omega)).mono ?_
  rintro e w1 ⟨rfl, hb1⟩
  have h1 := h.later hb1
  have hf1 := MFr.of_below (M := M) hb1
  clear hb1 h
  go_wp2_with fail
  rw [← unhide HE]
  refine (mline_any _ M ls o ov _ h1 (by omega)).mono ?_
  rintro e w3 ⟨rfl, h3, hf3⟩
  replace hf3 := hf1.trans hf3
  clear h1 hf1
  obtain ⟨i0, hi0, hz0, hz1, hz2⟩ := info_parts Tryz.infoIntM
  have hown := h3.own
  have c1 := cell_of_block h3.block 1 (by simp)
  simp at c1
  have hMlt := block_lt h3.block
  have HH := hide h3
  have HR := hide hf3
  obtain ⟨ad, cap, rfl⟩ := ownsRow_form h3.own
  clear h3 hf3
  go_wp2_with (at_builtin; refine wpList_append_lies _ rfl _ _ 22 rfl (M + 1) 3 i0 _ 1 8 Tryz.underlying22 hi0 hz0 hz1 hz2 rfl (by decide) _ _ _ rfl (hown.alloc _) ⟨w3.heap.size, 0, none⟩ 1 1 [.int .i64 1] rfl rfl (cell_one_new _ _ _) (by simp [Value.oneCell']) (by omega) (by unfold maxLen; omega) (by omega) (by simp; omega) (w3.heap.size + 1) (by simp) ?_)
  intro g cap' w4 hown4 hgrow hat hlt4
  obtain ⟨hfar, hfz⟩ := mak_far (unhide HH) ((Below.refl _ _).alloc (Nat.le_refl _) _) hgrow
  have HF := hide ((unhide HH).put (o' := o ++ [1]) ((Below.refl _ _).alloc (Nat.le_refl _) _) hgrow (by rw [List.length_append, List.map_append]; exact hown4))
  clear hown4 hgrow hat hown
  go_wp2_with fail
  go_end0
  exact ⟨rfl, ⟨_, (unhide HF).1⟩, (unhide HR).trans (unhide HF).2⟩

set_option maxHeartbeats 2000000 in
theorem block_1 (w : World) (M : Nat) (ls : List ByteArray) (o : List Int) (ov : Value) (a n : ByteArray) (h : MakS w M ls o ov) (ha : a.size ≤ 8) (hn : n.size ≤ 8) (hsz : (Rt.unl ls).size ≤ 900000) (hlen : o.length ≤ 900) :
    Calls Tryz.prog 59 #[.pointer (some ⟨M, 0, none⟩), .int .i64 1, .string a, .string n] w (MakP M (ls ++ [Rt.whT a n, Rt.incT a]) (o ++ [3]) w) := by
  have hs := if_size a n ha hn
  have HE := hide (show Rt.whT a n = (⟨#[119, 104, 105, 108, 101, 32]⟩ : ByteArray) ++ a ++ (⟨#[32, 60, 32]⟩ : ByteArray) ++ n from rfl)
  have HE2 := hide (show Rt.incT a = (⟨#[115, 101, 116, 32]⟩ : ByteArray) ++ a ++ (⟨#[32, 116, 111, 32]⟩ : ByteArray) ++ a ++ (⟨#[32, 43, 32, 49]⟩ : ByteArray) from rfl)
  have q0 := madd_text (a := (⟨#[119, 104, 105, 108, 101, 32]⟩ : ByteArray)) (b := a) (by simp only [lit_size, List.length_cons, List.length_nil]; have := ha; have := hn; omega)
  have q1 := madd_text (a := (⟨#[119, 104, 105, 108, 101, 32]⟩ : ByteArray) ++ a) (b := (⟨#[32, 60, 32]⟩ : ByteArray)) (by simp only [ByteArray.size_append, lit_size, List.length_cons, List.length_nil]; have := ha; have := hn; omega)
  have q2 := madd_text (a := (⟨#[119, 104, 105, 108, 101, 32]⟩ : ByteArray) ++ a ++ (⟨#[32, 60, 32]⟩ : ByteArray)) (b := n) (by simp only [ByteArray.size_append, lit_size, List.length_cons, List.length_nil]; have := ha; have := hn; omega)
  have r0 := madd_text (a := (⟨#[115, 101, 116, 32]⟩ : ByteArray)) (b := a) (by simp only [lit_size, List.length_cons, List.length_nil]; have := ha; have := hn; omega)
  have r1 := madd_text (a := (⟨#[115, 101, 116, 32]⟩ : ByteArray) ++ a) (b := (⟨#[32, 116, 111, 32]⟩ : ByteArray)) (by simp only [ByteArray.size_append, lit_size, List.length_cons, List.length_nil]; have := ha; have := hn; omega)
  have r2 := madd_text (a := (⟨#[115, 101, 116, 32]⟩ : ByteArray) ++ a ++ (⟨#[32, 116, 111, 32]⟩ : ByteArray)) (b := a) (by simp only [ByteArray.size_append, lit_size, List.length_cons, List.length_nil]; have := ha; have := hn; omega)
  have r3 := madd_text (a := (⟨#[115, 101, 116, 32]⟩ : ByteArray) ++ a ++ (⟨#[32, 116, 111, 32]⟩ : ByteArray) ++ a) (b := (⟨#[32, 43, 32, 49]⟩ : ByteArray)) (by simp only [ByteArray.size_append, lit_size, List.length_cons, List.length_nil]; have := ha; have := hn; omega)
  go_enter Tryz.func59, Tryz.ntmps59
  go_wp2_with fail
  refine (top_any _ M ls o ov h (by omega)).mono ?_
  rintro e w1 ⟨rfl, hb1⟩
  have h1 := h.later hb1
  have hf1 := MFr.of_below (M := M) hb1
  clear hb1 h
  go_wp2_with fail
  rw [← unhide HE]
  refine (mline_any _ M ls o ov _ h1 (by omega)).mono ?_
  rintro e w2 ⟨rfl, h2, hf2⟩
  replace hf2 := hf1.trans hf2
  have hz2 := unl_size ls (Rt.whT a n)
  clear h1 hf1
  go_wp2_with fail
  rw [← unhide HE2]
  refine (mline_any _ M _ o ov _ h2 (by omega)).mono ?_
  rintro e w3 ⟨rfl, h3, hf3⟩
  replace hf3 := hf2.trans hf3
  rw [List.append_assoc] at h3
  simp only [List.singleton_append] at h3
  clear h2 hf2 hz2
  obtain ⟨i0, hi0, hz0, hz1, hz2⟩ := info_parts Tryz.infoIntM
  have hown := h3.own
  have c1 := cell_of_block h3.block 1 (by simp)
  simp at c1
  have hMlt := block_lt h3.block
  have HH := hide h3
  have HR := hide hf3
  obtain ⟨ad, cap, rfl⟩ := ownsRow_form h3.own
  clear h3 hf3
  go_wp2_with (at_builtin; refine wpList_append_lies _ rfl _ _ 22 rfl (M + 1) 3 i0 _ 1 8 Tryz.underlying22 hi0 hz0 hz1 hz2 rfl (by decide) _ _ _ rfl (hown.alloc _) ⟨w3.heap.size, 0, none⟩ 1 1 [.int .i64 3] rfl rfl (cell_one_new _ _ _) (by simp [Value.oneCell']) (by omega) (by unfold maxLen; omega) (by omega) (by simp; omega) (w3.heap.size + 1) (by simp) ?_)
  intro g cap' w4 hown4 hgrow hat hlt4
  obtain ⟨hfar, hfz⟩ := mak_far (unhide HH) ((Below.refl _ _).alloc (Nat.le_refl _) _) hgrow
  have HF := hide ((unhide HH).put (o' := o ++ [3]) ((Below.refl _ _).alloc (Nat.le_refl _) _) hgrow (by rw [List.length_append, List.map_append]; exact hown4))
  clear hown4 hgrow hat hown
  go_wp2_with fail
  go_end0
  exact ⟨rfl, ⟨_, (unhide HF).1⟩, (unhide HR).trans (unhide HF).2⟩

set_option maxHeartbeats 2000000 in
theorem block_2f (w : World) (M : Nat) (ls : List ByteArray) (o : List Int) (ov : Value) (a n : ByteArray) (h : MakS w M ls o ov) (ha : a.size ≤ 8) (hn : n.size ≤ 8) (hsz : (Rt.unl ls).size ≤ 900000) (hlen : o.length ≤ 900) (ht : ¬ Rt.topE o = 1) :
    Calls Tryz.prog 59 #[.pointer (some ⟨M, 0, none⟩), .int .i64 2, .string a, .string n] w (MakP M (ls ++ [Rt.prT a n]) (o) w) := by
  have hs := if_size a n ha hn
  have HE := hide (show Rt.prT a n = (⟨#[112, 114, 105, 110, 116, 32]⟩ : ByteArray) ++ a ++ (⟨#[32, 42, 32]⟩ : ByteArray) ++ n from rfl)
  have q0 := madd_text (a := (⟨#[112, 114, 105, 110, 116, 32]⟩ : ByteArray)) (b := a) (by simp only [lit_size, List.length_cons, List.length_nil]; have := ha; have := hn; omega)
  have q1 := madd_text (a := (⟨#[112, 114, 105, 110, 116, 32]⟩ : ByteArray) ++ a) (b := (⟨#[32, 42, 32]⟩ : ByteArray)) (by simp only [ByteArray.size_append, lit_size, List.length_cons, List.length_nil]; have := ha; have := hn; omega)
  have q2 := madd_text (a := (⟨#[112, 114, 105, 110, 116, 32]⟩ : ByteArray) ++ a ++ (⟨#[32, 42, 32]⟩ : ByteArray)) (b := n) (by simp only [ByteArray.size_append, lit_size, List.length_cons, List.length_nil]; have := ha; have := hn; omega)
  have ht' : (Rt.topE o == 1) = false := by simpa using ht
  go_enter Tryz.func59, Tryz.ntmps59
  go_wp2_with fail
  refine (top_any _ M ls o ov h (by omega)).mono ?_
  rintro e w1 ⟨rfl, hb1⟩
  have h1 := h.later hb1
  have hf1 := MFr.of_below (M := M) hb1
  clear hb1 h
  go_wp2_with fail
  rw [← unhide HE]
  refine (mline_any _ M ls o ov _ h1 (by omega)).mono ?_
  rintro e w3 ⟨rfl, h3, hf3⟩
  have HF := hide (And.intro h3 (hf1.trans hf3))
  clear h1 hf1 h3 hf3
  go_wp2_with fail
  go_end0
  exact ⟨rfl, ⟨_, (unhide HF).1⟩, (unhide HF).2⟩

set_option maxHeartbeats 2000000 in
theorem block_3f (w : World) (M : Nat) (ls : List ByteArray) (o : List Int) (ov : Value) (a n : ByteArray) (h : MakS w M ls o ov) (ha : a.size ≤ 8) (hn : n.size ≤ 8) (hsz : (Rt.unl ls).size ≤ 900000) (hlen : o.length ≤ 900) (ht : ¬ 0 < Rt.topE o) :
    Calls Tryz.prog 59 #[.pointer (some ⟨M, 0, none⟩), .int .i64 3, .string a, .string n] w (MakP M (ls ++ [Rt.dvT a n]) (o) w) := by
  have hs := if_size a n ha hn
  have HE := hide (show Rt.dvT a n = (⟨#[115, 101, 116, 32]⟩ : ByteArray) ++ a ++ (⟨#[32, 116, 111, 32]⟩ : ByteArray) ++ n ++ (⟨#[32, 47, 32]⟩ : ByteArray) ++ a from rfl)
  have q0 := madd_text (a := (⟨#[115, 101, 116, 32]⟩ : ByteArray)) (b := a) (by simp only [lit_size, List.length_cons, List.length_nil]; have := ha; have := hn; omega)
  have q1 := madd_text (a := (⟨#[115, 101, 116, 32]⟩ : ByteArray) ++ a) (b := (⟨#[32, 116, 111, 32]⟩ : ByteArray)) (by simp only [ByteArray.size_append, lit_size, List.length_cons, List.length_nil]; have := ha; have := hn; omega)
  have q2 := madd_text (a := (⟨#[115, 101, 116, 32]⟩ : ByteArray) ++ a ++ (⟨#[32, 116, 111, 32]⟩ : ByteArray)) (b := n) (by simp only [ByteArray.size_append, lit_size, List.length_cons, List.length_nil]; have := ha; have := hn; omega)
  have q3 := madd_text (a := (⟨#[115, 101, 116, 32]⟩ : ByteArray) ++ a ++ (⟨#[32, 116, 111, 32]⟩ : ByteArray) ++ n) (b := (⟨#[32, 47, 32]⟩ : ByteArray)) (by simp only [ByteArray.size_append, lit_size, List.length_cons, List.length_nil]; have := ha; have := hn; omega)
  have q4 := madd_text (a := (⟨#[115, 101, 116, 32]⟩ : ByteArray) ++ a ++ (⟨#[32, 116, 111, 32]⟩ : ByteArray) ++ n ++ (⟨#[32, 47, 32]⟩ : ByteArray)) (b := a) (by simp only [ByteArray.size_append, lit_size, List.length_cons, List.length_nil]; have := ha; have := hn; omega)
  have ht' : decide (0 < Rt.topE o) = false := by simpa using ht
  go_enter Tryz.func59, Tryz.ntmps59
  go_wp2_with fail
  refine (top_any _ M ls o ov h (by omega)).mono ?_
  rintro e w1 ⟨rfl, hb1⟩
  have h1 := h.later hb1
  have hf1 := MFr.of_below (M := M) hb1
  clear hb1 h
  go_wp2_with fail
  rw [← unhide HE]
  refine (mline_any _ M ls o ov _ h1 (by omega)).mono ?_
  rintro e w3 ⟨rfl, h3, hf3⟩
  have HF := hide (And.intro h3 (hf1.trans hf3))
  clear h1 hf1 h3 hf3
  go_wp2_with fail
  go_end0
  exact ⟨rfl, ⟨_, (unhide HF).1⟩, (unhide HF).2⟩

set_option maxHeartbeats 2000000 in
theorem block_2t (w : World) (M : Nat) (ls : List ByteArray) (o : List Int) (ov : Value) (a n : ByteArray) (h : MakS w M ls o ov) (ha : a.size ≤ 8) (hn : n.size ≤ 8) (hsz : (Rt.unl ls).size ≤ 900000) (hlen : o.length ≤ 900) (ht : Rt.topE o = 1) :
    Calls Tryz.prog 59 #[.pointer (some ⟨M, 0, none⟩), .int .i64 2, .string a, .string n] w (MakP M (ls ++ [Rt.elT]) (o.dropLast ++ [2]) w) := by
  have hs := if_size a n ha hn
  have HE := hide (show Rt.elT = ⟨#[101, 108, 115, 101]⟩ from rfl)
  have ht' : (Rt.topE o == 1) = true := by simpa using ht
  go_enter Tryz.func59, Tryz.ntmps59
  go_wp2_with fail
  refine (top_any _ M ls o ov h (by omega)).mono ?_
  rintro e w1 ⟨rfl, hb1⟩
  have h1 := h.later hb1
  have hf1 := MFr.of_below (M := M) hb1
  clear hb1 h
  go_wp2_with fail
  rw [← unhide HE]
  refine (mline_any _ M ls o ov _ h1 (by omega)).mono ?_
  rintro e w3 ⟨rfl, h3, hf3⟩
  replace hf3 := hf1.trans hf3
  clear h1 hf1
  rcases ints_dec o with rfl | ⟨pre, x, rfl⟩
  · simp [Rt.topE] at ht
  obtain ⟨g, cap, rfl, hg, d0⟩ := h3.last
  have c1 := cell_of_block h3.block 1 (by simp)
  simp at c1
  have hown := h3.own
  simp only [List.length_append, List.length_cons, List.length_nil, Nat.zero_add] at hown
  have fz := hown.frozenAt pre.length
  have HF : Hid (MakS ((w3.setCell ⟨g, pre.length, none⟩ (.int .i64 2)).drew) M (ls ++ [Rt.elT]) (pre ++ [2]) (.slice (some ⟨g, 0, none⟩) (pre.length + 1) cap) ∧ MFr M w ((w3.setCell ⟨g, pre.length, none⟩ (.int .i64 2)).drew)) := by
    refine hide ?_
    obtain ⟨s1, s2⟩ := hown.stored pre.length (.int .i64 2)
    refine ⟨⟨?_, ?_⟩, hf3.trans ⟨rfl, rfl, rfl, s2.size, fun k x hk hkM hx => ?_⟩⟩
    · show (w3.setCell ⟨g, pre.length, none⟩ (.int .i64 2)).heap[M]? = _
      rw [Below.heap_setCell w3 ⟨g, pre.length, none⟩ _ M (by show M ≠ g; omega)]
      exact h3.block
    · have e : ((pre ++ [x]).map (Value.int .i64)).set pre.length (.int .i64 2) = (pre ++ [2]).map (Value.int .i64) := by
        rw [List.map_append, List.set_append, if_neg (by simp)]
        simp
      rw [e] at s1
      rw [List.length_append]
      exact World.ownsRow.drew s1
    · rw [show ((w3.setCell ⟨g, pre.length, none⟩ (.int .i64 2)).drew).heap[k]? = (w3.setCell ⟨g, pre.length, none⟩ (.int .i64 2)).heap[k]? from rfl, s2.block k (block_lt hk) ?_]
      · exact hk
      · intro e
        simp at e
        subst e
        rcases hx with hx | hx
        · omega
        · rcases hown.2 with ⟨h', _⟩ | ⟨g', _, cur, h', _, hh, _⟩
          · cases h'
          · simp at h'
            obtain ⟨rfl, _⟩ := h'
            rw [hh] at hk
            injection hk with hk
            exact hx _ hk.symm
  have hlen' : pre.length + 1 ≤ 1000 := by simp at hlen; omega
  have HD := hide (show (pre ++ [x]).dropLast ++ [2] = pre ++ [2] by simp)
  clear h3 hown hf3 hlen
  generalize HL : pre.length = m at *
  replace HL := hide HL
  have hm0 : (0 : Int) ≤ (m : Int) := by omega
  have hm1 : (m : Int) < (m : Int) + 1 := by omega
  have hm2 : (m : Int) ≤ 1000 := by omega
  have hm3 := kwrapm1 m hlen'
  have hm4 := kwrapm0 m hlen'
  have hm5 : (0 : Int) < (m : Int) + 1 := by omega
  have hgM : ¬ g = M := by omega
  go_wp2_with fail
  go_region_held3 (fun w' => w'.cell? ⟨M, 1, none⟩ = some (.slice (some ⟨g, 0, none⟩) (m + 1) cap)) (first | go_keep | (simp [World.cell?_setCell_other, *]; omega)) (fail)
  go_wp2_with fail
  go_end0
  rw [unhide HD]
  exact ⟨rfl, ⟨_, (unhide HF).1⟩, (unhide HF).2⟩

set_option maxHeartbeats 2000000 in
theorem block_3t (w : World) (M : Nat) (ls : List ByteArray) (o : List Int) (ov : Value) (a n : ByteArray) (h : MakS w M ls o ov) (ha : a.size ≤ 8) (hn : n.size ≤ 8) (hsz : (Rt.unl ls).size ≤ 900000) (hlen : o.length ≤ 900) (ht : 0 < Rt.topE o) :
    Calls Tryz.prog 59 #[.pointer (some ⟨M, 0, none⟩), .int .i64 3, .string a, .string n] w (MakP M (ls ++ [Rt.enT]) (o.dropLast) w) := by
  have hs := if_size a n ha hn
  have HE := hide (show Rt.enT = ⟨#[101, 110, 100]⟩ from rfl)
  have ht' : decide (0 < Rt.topE o) = true := by simpa using ht
  go_enter Tryz.func59, Tryz.ntmps59
  go_wp2_with fail
  refine (top_any _ M ls o ov h (by omega)).mono ?_
  rintro e w1 ⟨rfl, hb1⟩
  have h1 := h.later hb1
  have hf1 := MFr.of_below (M := M) hb1
  clear hb1 h
  go_wp2_with fail
  rw [← unhide HE]
  refine (mline_any _ M ls o ov _ h1 (by omega)).mono ?_
  rintro e w3 ⟨rfl, h3, hf3⟩
  replace hf3 := hf1.trans hf3
  clear h1 hf1
  rcases ints_dec o with rfl | ⟨pre, x, rfl⟩
  · simp [Rt.topE] at ht
  obtain ⟨g, cap, rfl, hg, d0⟩ := h3.last
  have c1 := cell_of_block h3.block 1 (by simp)
  have f1 := free_of_block h3.block 1
  simp at c1
  have hown := h3.own
  simp only [List.length_append, List.length_cons, List.length_nil, Nat.zero_add] at hown
  have hcap : pre.length + 1 ≤ cap := by
    rcases hown.2 with ⟨h', _⟩ | ⟨g', cap', cur, h', _, _, hn, _⟩
    · cases h'
    · simp at h'; omega
  have hpop : w3.ownsRow (M + 1) 3 1 (.slice (some ⟨g, 0, none⟩) pre.length cap) pre.length (pre.map (Value.int .i64)) := by
    rw [List.map_append] at hown
    exact ownsRow_pop (by simp) hown
  have HF := hide (h3.put (o' := pre) (mdrewN w3 1) (mgrown_refl _ _) hpop)
  have HR := hide hf3
  have hlen' : pre.length + 1 ≤ 1000 := by simp at hlen; omega
  have HD := hide (show (pre ++ [x]).dropLast = pre by simp)
  clear h3 hown hpop d0 hf3 hlen
  generalize HL : pre.length = m at *
  replace HL := hide HL
  have hm0 : (0 : Int) ≤ (m : Int) := by omega
  have hm1 : (m : Int) < (m : Int) + 1 := by omega
  have hm2 : (m : Int) ≤ 1000 := by omega
  have hm3 := kwrapm1 m hlen'
  have hm4 := kwrapm0 m hlen'
  have hm5 : (0 : Int) < (m : Int) + 1 := by omega
  have hm6 : (m : Int) ≤ (cap : Int) := by omega
  go_wp2_with fail
  go_region_law (fail)
  all_goals
    go_wp2_with fail
    go_end0
    rw [unhide HD]
    exact ⟨rfl, ⟨_, (unhide HF).1⟩, (unhide HR).trans (unhide HF).2⟩

end Go.Proofs.YtbpajiljfppjcaaGreatDoor

namespace Go.Proofs.YtbpajiljfppjcaaGreatDoor
open Go.RowKit
attribute [local go_sem ↓] Go.wp_at_zero Go.wp_at_succ

theorem plain_any (w : World) (M : Nat) (ls : List ByteArray) (o : List Int) (ov : Value) (k : Int) (a b n : ByteArray) (h : MakS w M ls o ov) (ha : a.size ≤ 8) (hb : b.size ≤ 8) (hn : n.size ≤ 8) (hsz : (Rt.unl ls).size ≤ 900000) (h0 : 0 ≤ k) (h8 : k < 8) :
    Calls Tryz.prog 58 #[.pointer (some ⟨M, 0, none⟩), .int .i64 k, .string a, .string b, .string n] w (MakP M (ls ++ [Rt.plainE k a b n]) o w) := by
  have hk : k = 0 ∨ k = 1 ∨ k = 2 ∨ k = 3 ∨ k = 4 ∨ k = 5 ∨ k = 6 ∨ k = 7 := by omega
  rcases hk with rfl | rfl | rfl | rfl | rfl | rfl | rfl | rfl
  · exact plain_0 w M ls o ov a b n h ha hb hn hsz
  · exact plain_1 w M ls o ov a b n h ha hb hn hsz
  · exact plain_2 w M ls o ov a b n h ha hb hn hsz
  · exact plain_3 w M ls o ov a b n h ha hb hn hsz
  · exact plain_4 w M ls o ov a b n h ha hb hn hsz
  · exact plain_5 w M ls o ov a b n h ha hb hn hsz
  · exact plain_6 w M ls o ov a b n h ha hb hn hsz
  · exact plain_7 w M ls o ov a b n h ha hb hn hsz
theorem block_any (w : World) (M : Nat) (ls : List ByteArray) (o : List Int) (ov : Value) (k : Int) (a n : ByteArray) (h : MakS w M ls o ov) (ha : a.size ≤ 8) (hn : n.size ≤ 8) (hsz : (Rt.unl ls).size ≤ 900000) (hlen : o.length ≤ 900) (h0 : 0 ≤ k) (h4 : k < 4) :
    Calls Tryz.prog 59 #[.pointer (some ⟨M, 0, none⟩), .int .i64 k, .string a, .string n] w (MakP M (ls ++ (Rt.blockE o k a n).1) (Rt.blockE o k a n).2 w) := by
  have hk : k = 0 ∨ k = 1 ∨ k = 2 ∨ k = 3 := by omega
  rcases hk with rfl | rfl | rfl | rfl
  · exact block_0 w M ls o ov a n h ha hn hsz hlen
  · exact block_1 w M ls o ov a n h ha hn hsz hlen
  · by_cases ht : Rt.topE o = 1
    · have e : Rt.blockE o 2 a n = ([Rt.elT], o.dropLast ++ [2]) := by unfold Rt.blockE; simp [ht]
      rw [e]
      exact block_2t w M ls o ov a n h ha hn hsz hlen ht
    · have e : Rt.blockE o 2 a n = ([Rt.prT a n], o) := by unfold Rt.blockE; simp [ht]
      rw [e]
      exact block_2f w M ls o ov a n h ha hn hsz hlen ht
  · by_cases ht : 0 < Rt.topE o
    · have e : Rt.blockE o 3 a n = ([Rt.enT], o.dropLast) := by unfold Rt.blockE; simp [ht]
      rw [e]
      exact block_3t w M ls o ov a n h ha hn hsz hlen ht
    · have e : Rt.blockE o 3 a n = ([Rt.dvT a n], o) := by unfold Rt.blockE; simp [ht]
      rw [e]
      exact block_3f w M ls o ov a n h ha hn hsz hlen ht
namespace Rt
theorem bodyE_snoc (vars : List ByteArray) (x : Int) : ∀ (c o : List Int), bodyE vars (c ++ [x]) o = ((bodyE vars c o).1 ++ (stepE vars x (bodyE vars c o).2).1, (stepE vars x (bodyE vars c o).2).2)
  | [], o => by simp [bodyE]
  | y :: c, o => by
    rw [List.cons_append, bodyE, bodyE_snoc vars x c (stepE vars y o).2]
    simp [bodyE]
theorem unl_two (ls : List ByteArray) (s t : ByteArray) : (unl (ls ++ [s, t])).size = (unl ls).size + s.size + t.size + 2 := by
  rw [show ls ++ [s, t] = (ls ++ [s]) ++ [t] by simp, unl_size, unl_size]; omega
theorem block_grow (ls : List ByteArray) (o : List Int) (k : Int) (a n : ByteArray) (ha : a.size ≤ 8) (hn : n.size ≤ 8) : (unl (ls ++ (blockE o k a n).1)).size ≤ (unl ls).size + 300 ∧ (blockE o k a n).2.length ≤ o.length + 1 := by
  have hs := if_size a n ha hn
  unfold blockE
  repeat' split
  · exact ⟨by rw [unl_size]; omega, by simp⟩
  · exact ⟨by rw [unl_two]; omega, by simp⟩
  · exact ⟨by rw [unl_size]; omega, by simp <;> omega⟩
  · exact ⟨by rw [unl_size]; omega, by simp <;> omega⟩
  · exact ⟨by rw [unl_size]; omega, by simp⟩
  · exact ⟨by rw [unl_size]; omega, by simp⟩
theorem plain_grow (ls : List ByteArray) (k : Int) (a b n : ByteArray) (ha : a.size ≤ 8) (hb : b.size ≤ 8) (hn : n.size ≤ 8) : (unl (ls ++ [plainE k a b n])).size ≤ (unl ls).size + 300 := by
  have := plain_size k a b n ha hb hn
  rw [unl_size]; omega
end Rt

/-- Whole numbers in memory, in blocks below B. -/
def IntsR (w : World) (B : Nat) (v : Value) (xs : List Int) : Prop := ∃ ad cap, v = .slice ad xs.length cap ∧ xs.length ≤ cap ∧ cap ≤ maxLen ∧ (∀ x ∈ xs, -9223372036854775808 ≤ x ∧ x ≤ 9223372036854775807) ∧ (xs = [] ∨ ∃ b off, ad = some ⟨b, off, none⟩ ∧ b < B ∧ b < w.heap.size ∧ ∀ j (h : j < xs.length), w.cell? ⟨b, off + j, none⟩ = some (.int .i64 xs[j]))
theorem IntsR.kept {w w' : World} {B : Nat} {v : Value} {xs : List Int} (h : IntsR w B v xs) (hk : ∀ b o, b < B → b < w.heap.size → w'.cell? ⟨b, o, none⟩ = w.cell? ⟨b, o, none⟩) (hs : w.heap.size ≤ w'.heap.size) : IntsR w' B v xs := by
  obtain ⟨ad, cap, h1, h2, h3, h4, h5⟩ := h
  refine ⟨ad, cap, h1, h2, h3, h4, ?_⟩
  rcases h5 with h5 | ⟨b, off, h6, h7, h8, h9⟩
  · exact Or.inl h5
  · exact Or.inr ⟨b, off, h6, h7, by omega, fun j hj => by rw [hk b _ h7 h8]; exact h9 j hj⟩
theorem MFr.cell {M : Nat} {w w' : World} (h : MFr M w w') : ∀ b o, b < M → b < w.heap.size → w'.cell? ⟨b, o, none⟩ = w.cell? ⟨b, o, none⟩ := by
  intro b o hb hlt
  cases hx : w.heap[b]? with
  | none => rw [Array.getElem?_eq_none_iff] at hx; omega
  | some x =>
    have := h.block b x hx (by omega) (Or.inl hb)
    rw [World.cell?_of_block (a := ⟨b, o, none⟩) (this.trans hx.symm)]
theorem MFr.row {M : Nat} {w w' : World} (h : MFr M w w') {B : Nat} {t : TypeId} {size n : Nat} {v : Value} {xs : List Value} (ht : t ≠ 3) (hM : ∀ g, v.ownBlock = some g → g ≠ M) (hv : w.ownsRow B t size v n xs) : w'.ownsRow B t size v n xs := by
  obtain ⟨h1, h2⟩ := hv
  refine ⟨h1, ?_⟩
  rcases h2 with h2 | ⟨g, cap, cur, hv', hg, hh, rr⟩
  · exact Or.inl h2
  · exact Or.inr ⟨g, cap, cur, hv', hg, h.block g _ hh (hM g (by rw [hv']; rfl)) (Or.inr fun c e => by injection e with _ e; exact ht e), rr⟩
end Go.Proofs.YtbpajiljfppjcaaGreatDoor

