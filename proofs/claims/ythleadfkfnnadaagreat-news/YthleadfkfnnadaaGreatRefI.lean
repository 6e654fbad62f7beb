/- The document's answer: how blocks lie in each other. -/
import Derived.Test.YthleadfkfnnadaaGreatRefH
namespace Go.Proofs.YthleadfkfnnadaaGreat
open Go.RowKit
namespace Rf
def lastN (l : List Nat) : Nat := l.getLastD 0
def nestFrom (ls : List (List ByteArray)) : List (List ByteArray) → Nat → List Nat → List Nat → Nat
  | [], n, op, _ => if op.length = 0 then 0 else n
  | t :: r, n, op, sp =>
    if ((first t).toList == []) = true then nestFrom ls r (n + 1) op sp
    else if topB t = !decide (op.length = 0) then n + 1
    else if opensB t = true then nestFrom ls r (n + 1) (op ++ [n + 1]) sp
    else if ((first t).toList == [101, 108, 115, 101]) = true then
      (if ((first (lineAt ls (lastN op - 1))).toList == [105, 102]) = false ∨ (0 < sp.length ∧ lastN sp = lastN op) then n + 1 else nestFrom ls r (n + 1) op (sp ++ [lastN op]))
    else if ((first t).toList == [101, 110, 100]) = true then nestFrom ls r (n + 1) op.dropLast (if 0 < sp.length ∧ lastN sp = lastN op then sp.dropLast else sp)
    else nestFrom ls r (n + 1) op sp
def nested (ls : List (List ByteArray)) : Nat := nestFrom ls ls 0 [] []
end Rf
theorem Tryz.infoInt : (Tryz.prog.info? 3).map (fun i => (i.zero, i.size, i.bytes)) = some (some (.int .i64 0), 1, 8) := by kernel_rfl
def iv (n : Nat) : Value := .int .i64 n
theorem wrap_m1 (m : Nat) (h : m ≤ 1000) : IntKind.i64.wrap ((m : Int) + 1 - 1) = (m : Int) := by
  rw [show (m : Int) + 1 - 1 = (m : Int) by omega]; exact IntWalk.i64_in _ ⟨by omega, by omega⟩
theorem wrap_m0 (m : Nat) (h : m ≤ 1000) : IntKind.i64.wrap (m : Int) = (m : Int) := IntWalk.i64_in _ ⟨by omega, by omega⟩
theorem own_other {w w1 : World} {o : Obj} {B : Nat} {e : TypeId} {size n : Nat} {v : Value} {xs : List Value} {row : Option Nat} (h : w.ownsRow B e size v n xs) (hg : (w.alloc o).grownBy w1 row) (hne : ∀ g, v.ownBlock = some g → ¬ row = some g) : w1.ownsRow B e size v n xs := by
  obtain ⟨h1, h2⟩ := h
  refine ⟨h1, ?_⟩
  rcases h2 with h2 | ⟨g, cap, cur, hv, hgB, hh, r⟩
  · exact Or.inl h2
  · refine Or.inr ⟨g, cap, cur, hv, hgB, ?_, r⟩
    have hlt := block_lt hh
    rw [hg.block g (by simp; omega) (fun e => hne g (by rw [hv]; rfl) e.symm)]
    rw [← hh]
    exact ((Below.refl w.heap.size w).alloc (Nat.le_refl _) o).block g hlt
structure NInv (w wr : World) (k : Nat) (op sp : List Nat) (ov sv : Value) : Prop where
  opl : op.length ≤ k
  spl : sp.length ≤ k
  ops : ∀ o ∈ op, 1 ≤ o ∧ o ≤ k
  oown : wr.ownsRow w.heap.size 3 1 ov op.length (op.map iv)
  sown : wr.ownsRow w.heap.size 3 1 sv sp.length (sp.map iv)
  ne : ∀ g, ov.ownBlock = some g → ¬ sv.ownBlock = some g
  below : Below w.heap.size w wr
theorem NInv.step {w wr : World} {k : Nat} {op sp : List Nat} {ov sv : Value} (h : NInv w wr k op sp ov sv) : NInv w wr (k + 1) op sp ov sv :=
  ⟨by have := h.opl; omega, by have := h.spl; omega, fun o ho => by have := h.ops o ho; omega, h.oown, h.sown, h.ne, h.below⟩
theorem NInv.later {w wr w2 : World} {k : Nat} {op sp : List Nat} {ov sv : Value} (h : NInv w wr k op sp ov sv) (hb : Below wr.heap.size wr w2) : NInv w w2 k op sp ov sv :=
  ⟨h.opl, h.spl, h.ops, own_later h.oown hb, own_later h.sown hb, h.ne, h.below.trans (hb.mono h.below.size)⟩
theorem NInv.pushO {w wr w1 : World} {k : Nat} {op sp : List Nat} {ov sv : Value} {o : Obj} {g' cap' : Nat} (h : NInv w wr k op sp ov sv)
    (ho : w1.ownsRow w.heap.size 3 1 (.slice (some ⟨g', 0, none⟩) (op.length + 1) cap') (op.length + 1) (op.map iv ++ [iv (k + 1)])) (hg : (wr.alloc o).grownBy w1 ov.ownBlock) (hat : ov.ownBlock = some g' ∨ g' = wr.heap.size + 1) :
    NInv w w1 (k + 1) (op ++ [k + 1]) sp (.slice (some ⟨g', 0, none⟩) (op.length + 1) cap') sv := by
  refine ⟨by have := h.opl; simp; omega, by have := h.spl; omega, fun x hx => ?_, by rw [List.map_append, List.length_append]; exact ho, own_other h.sown hg (fun g hgg e => h.ne g e hgg), fun g hgg e => ?_, below_append h.below h.below.size h.oown hg⟩
  · simp at hx
    rcases hx with hx | rfl
    · have := h.ops x hx; omega
    · omega
  · simp [Value.ownBlock] at hgg
    subst hgg
    rcases hat with hat | hat
    · exact h.ne _ hat e
    · have := (h.sown.lt _ e).2
      omega
theorem NInv.pushS {w wr w1 : World} {k : Nat} {op sp : List Nat} {ov sv : Value} {o : Obj} {g' cap' q : Nat} (h : NInv w wr k op sp ov sv) (hl : sp.length + 1 ≤ k + 1)
    (ho : w1.ownsRow w.heap.size 3 1 (.slice (some ⟨g', 0, none⟩) (sp.length + 1) cap') (sp.length + 1) (sp.map iv ++ [iv q])) (hg : (wr.alloc o).grownBy w1 sv.ownBlock) (hat : sv.ownBlock = some g' ∨ g' = wr.heap.size + 1) :
    NInv w w1 (k + 1) op (sp ++ [q]) ov (.slice (some ⟨g', 0, none⟩) (sp.length + 1) cap') := by
  refine ⟨by have := h.opl; omega, by simp; omega, fun x hx => by have := h.ops x hx; omega, own_other h.oown hg h.ne, by rw [List.map_append, List.length_append]; exact ho, fun g hgg e => ?_, below_append h.below h.below.size h.sown hg⟩
  simp [Value.ownBlock] at e
  subst e
  rcases hat with hat | hat
  · exact h.ne _ hgg hat
  · have := (h.oown.lt _ hgg).2
    omega
theorem NInv.popO {w wr : World} {k g cap : Nat} {pre sp : List Nat} {o : Nat} {sv : Value} (h : NInv w wr k (pre ++ [o]) sp (.slice (some ⟨g, 0, none⟩) (pre.length + 1) cap) sv) :
    NInv w wr k pre sp (.slice (some ⟨g, 0, none⟩) pre.length cap) sv := by
  refine ⟨by have := h.opl; simp at this; omega, h.spl, fun x hx => h.ops x (by simp [hx]), ?_, h.sown, fun g' hg' => h.ne g' hg', h.below⟩
  have := h.oown
  rw [List.map_append, List.length_append] at this
  exact ownsRow_pop (by simp) this
theorem NInv.popS {w wr : World} {k g cap : Nat} {op pre : List Nat} {o : Nat} {ov : Value} (h : NInv w wr k op (pre ++ [o]) ov (.slice (some ⟨g, 0, none⟩) (pre.length + 1) cap)) :
    NInv w wr k op pre ov (.slice (some ⟨g, 0, none⟩) pre.length cap) := by
  refine ⟨h.opl, by have := h.spl; simp at this; omega, h.ops, h.oown, ?_, fun g' hg' => h.ne g' hg', h.below⟩
  have := h.sown
  rw [List.map_append, List.length_append] at this
  exact ownsRow_pop (by simp) this
theorem nat_snoc (l : List Nat) : l = [] ∨ ∃ pre o, l = pre ++ [o] := by
  rcases List.eq_nil_or_concat l with h | ⟨a, b, h⟩
  · exact Or.inl h
  · exact Or.inr ⟨a, b, by simpa using h⟩
theorem lastN_snoc (pre : List Nat) (o : Nat) : Rf.lastN (pre ++ [o]) = o := by simp [Rf.lastN]
theorem last_cell {w : World} {B : Nat} {v : Value} {pre : List Nat} {o : Nat} (h : w.ownsRow B 3 1 v (pre ++ [o]).length ((pre ++ [o]).map iv)) : ∃ g cap, v = .slice (some ⟨g, 0, none⟩) (pre.length + 1) cap ∧ pre.length + 1 ≤ cap ∧ w.cell? ⟨g, pre.length, none⟩ = some (iv o) := by
  obtain ⟨g, cap, he, _, _, hc⟩ := own_cell h (j := pre.length) (u := iv o) (by simp)
  refine ⟨g, cap, by simpa using he, ?_, hc⟩
  rcases h.2 with ⟨h', _⟩ | ⟨g', cap', cur, h', _, _, hn, _⟩
  · rw [he] at h'; cases h'
  · rw [he] at h'; simp at h'; simp at hn; omega
def HF (x : ByteArray) (i : Nat) : Prop := (x.toList == []) = decide (i = 0) ∧ (x.toList == [118, 97, 114]) = decide (i = 1) ∧ (x.toList == [97, 114, 114, 97, 121]) = decide (i = 2) ∧ (x.toList == [112, 114, 111, 99]) = decide (i = 3) ∧
  (x.toList == [105, 102]) = decide (i = 4) ∧ (x.toList == [119, 104, 105, 108, 101]) = decide (i = 5) ∧ (x.toList == [101, 108, 115, 101]) = decide (i = 6) ∧ (x.toList == [101, 110, 100]) = decide (i = 7)
theorem head_cases (x : ByteArray) : ∃ i, i ≤ 8 ∧ HF x i := by
  by_cases h0 : x.toList = []
  · exact ⟨0, by omega, by unfold HF; rw [h0]; decide⟩
  by_cases h1 : x.toList = [118, 97, 114]
  · exact ⟨1, by omega, by unfold HF; rw [h1]; decide⟩
  by_cases h2 : x.toList = [97, 114, 114, 97, 121]
  · exact ⟨2, by omega, by unfold HF; rw [h2]; decide⟩
  by_cases h3 : x.toList = [112, 114, 111, 99]
  · exact ⟨3, by omega, by unfold HF; rw [h3]; decide⟩
  by_cases h4 : x.toList = [105, 102]
  · exact ⟨4, by omega, by unfold HF; rw [h4]; decide⟩
  by_cases h5 : x.toList = [119, 104, 105, 108, 101]
  · exact ⟨5, by omega, by unfold HF; rw [h5]; decide⟩
  by_cases h6 : x.toList = [101, 108, 115, 101]
  · exact ⟨6, by omega, by unfold HF; rw [h6]; decide⟩
  by_cases h7 : x.toList = [101, 110, 100]
  · exact ⟨7, by omega, by unfold HF; rw [h7]; decide⟩
  · refine ⟨8, by omega, ?_⟩
    unfold HF
    simp [h0, h1, h2, h3, h4, h5, h6, h7]
namespace Rf
theorem nest_i {ls : List (List ByteArray)} {k i : Nat} {op sp : List Nat} (h : k < ls.length) (hf : HF (first ls[k]) i) : nestFrom ls (ls.drop k) k op sp =
    if i = 0 then nestFrom ls (ls.drop (k + 1)) (k + 1) op sp
    else if decide (i = 1 ∨ i = 2 ∨ i = 3) = !decide (op.length = 0) then k + 1
    else if i = 3 ∨ i = 4 ∨ i = 5 then nestFrom ls (ls.drop (k + 1)) (k + 1) (op ++ [k + 1]) sp
    else if i = 6 then (if ((first (lineAt ls (lastN op - 1))).toList == [105, 102]) = false ∨ (0 < sp.length ∧ lastN sp = lastN op) then k + 1 else nestFrom ls (ls.drop (k + 1)) (k + 1) op (sp ++ [lastN op]))
    else if i = 7 then nestFrom ls (ls.drop (k + 1)) (k + 1) op.dropLast (if 0 < sp.length ∧ lastN sp = lastN op then sp.dropLast else sp)
    else nestFrom ls (ls.drop (k + 1)) (k + 1) op sp := by
  obtain ⟨f0, f1, f2, f3, f4, f5, f6, f7⟩ := hf
  rw [List.drop_eq_getElem_cons h, nestFrom]
  have ht : topB ls[k] = decide (i = 1 ∨ i = 2 ∨ i = 3) := by
    unfold topB; rw [f1, f2, f3, Bool.eq_iff_iff]; simp [or_assoc]
  have ho : (opensB ls[k] = true) ↔ (i = 3 ∨ i = 4 ∨ i = 5) := by
    unfold opensB; rw [f3, f4, f5]; simp [or_assoc]
  rw [f0, f6, f7, ht]
  simp only [ho, decide_eq_true_eq]
end Rf
set_option maxHeartbeats 4000000 in
set_option maxRecDepth 100000 in
theorem nested_ref (w : World) (S g cap : Nat) (ls : List (List ByteArray)) (h : SrcG w S g cap ls) (hL : ls.length ≤ 100) :
    Calls Tryz.prog 82 #[.pointer (some ⟨S, 0, none⟩)] w fun e w' => e = .returned (.int .i64 (Rf.nested ls)) ∧ Below w.heap.size w w' := by
  obtain ⟨i0, hi0, hz0, hz1, hz2⟩ := info_parts Tryz.infoInt
  have HH := hide h
  clear h
  go_enter Tryz.func82, Tryz.ntmps82
  go_wp2
  go_loopw [3, 4, 5] (fun ov sv i wr => ∃ (k : Nat) (op sp : List Nat), k ≤ ls.length ∧ i = .int .i64 ((k : Int) + 1) ∧ Rf.nestFrom ls (ls.drop k) k op sp = Rf.nested ls ∧ NInv w wr k op sp ov sv)
    (fun _ _ i _ => ls.length + 1 - (intOf i).toNat)
  case atStart => exact ⟨0, [], [], Nat.zero_le _, rfl, rfl, ⟨by simp, by simp, by simp, World.ownsRow_nil _ _ _ _, World.ownsRow_nil _ _ _ _, by simp [Value.ownBlock], Below.refl _ _⟩⟩
  case round =>
    obtain ⟨k, op, sp, hk, rfl, hT, hn⟩ := hrel
    have hs := (unhide HH).later hn.below
    have cT := hs.top
    obtain ⟨oad, ocap, rfl⟩ := ownsRow_form hn.oown
    obtain ⟨sad, scap, rfl⟩ := ownsRow_form hn.sown
    have HN := hide hn
    have HS := hide hs
    by_cases hlt : k < ls.length
    · have hlt' : (k : Int) + 1 ≤ (ls.length : Int) := by omega
      obtain ⟨i, hi8, hf⟩ := head_cases (Rf.first ls[k])
      rw [Rf.nest_i hlt hf] at hT
      have HT := hide hT
      clear hT hs hn
      go_wp2_with fail
      refine (head_ref _ S g cap ls k (unhide HS) hlt hL).mono ?_
      rintro e w2 ⟨rfl, hb2⟩
      have hn2 := (unhide HN).later hb2
      have HN2 := hide hn2
      have hopl := hn2.opl
      have hspl := hn2.spl
      have hobj := hn2.below.size
      clear hb2 cT hn2
      generalize Rf.first ls[k] = x at *
      have hi9 : i = 0 ∨ i = 1 ∨ i = 2 ∨ i = 3 ∨ i = 4 ∨ i = 5 ∨ i = 6 ∨ i = 7 ∨ i = 8 := by omega
      clear hi8
      rcases hi9 with rfl | rfl | rfl | rfl | rfl | rfl | rfl | rfl | rfl
      · have f0 : (x.toList == []) = true := hf.1
        have f1 : (x.toList == [118, 97, 114]) = false := hf.2.1
        have f2 : (x.toList == [97, 114, 114, 97, 121]) = false := hf.2.2.1
        have f3 : (x.toList == [112, 114, 111, 99]) = false := hf.2.2.2.1
        have f4 : (x.toList == [105, 102]) = false := hf.2.2.2.2.1
        have f5 : (x.toList == [119, 104, 105, 108, 101]) = false := hf.2.2.2.2.2.1
        have f6 : (x.toList == [101, 108, 115, 101]) = false := hf.2.2.2.2.2.2.1
        have f7 : (x.toList == [101, 110, 100]) = false := hf.2.2.2.2.2.2.2
        rw [if_pos rfl] at HT
        go_wp2_with fail
        go_roundw
        case rel => exact ⟨k + 1, op, sp, by omega, by go_num, unhide HT, (unhide HN2).step⟩
        case measure => simp [intOf]; omega
      · have f0 : (x.toList == []) = false := hf.1
        have f1 : (x.toList == [118, 97, 114]) = true := hf.2.1
        have f2 : (x.toList == [97, 114, 114, 97, 121]) = false := hf.2.2.1
        have f3 : (x.toList == [112, 114, 111, 99]) = false := hf.2.2.2.1
        have f4 : (x.toList == [105, 102]) = false := hf.2.2.2.2.1
        have f5 : (x.toList == [119, 104, 105, 108, 101]) = false := hf.2.2.2.2.2.1
        have f6 : (x.toList == [101, 108, 115, 101]) = false := hf.2.2.2.2.2.2.1
        have f7 : (x.toList == [101, 110, 100]) = false := hf.2.2.2.2.2.2.2
        by_cases ho : op.length = 0
        · have ho' : ((op.length : Int) == 0) = true := by rw [beq_iff_eq]; omega
          rw [if_neg (by omega), if_neg (by simp [ho])] at HT
          clear ho
          rw [if_neg (by omega), if_neg (by omega), if_neg (by omega)] at HT
          go_wp2_with fail
          go_roundw
          case rel => exact ⟨k + 1, op, sp, by omega, by go_num, unhide HT, (unhide HN2).step⟩
          case measure => simp [intOf]; omega
        · have ho' : ((op.length : Int) == 0) = false := by rw [beq_eq_false_iff_ne]; omega
          rw [if_neg (by omega), if_pos (by simp [ho])] at HT
          clear ho
          go_wp2_with fail
          go_ret
          exact ⟨by rw [← unhide HT]; exact ret_int (by omega), (unhide HN2).below⟩
      · have f0 : (x.toList == []) = false := hf.1
        have f1 : (x.toList == [118, 97, 114]) = false := hf.2.1
        have f2 : (x.toList == [97, 114, 114, 97, 121]) = true := hf.2.2.1
        have f3 : (x.toList == [112, 114, 111, 99]) = false := hf.2.2.2.1
        have f4 : (x.toList == [105, 102]) = false := hf.2.2.2.2.1
        have f5 : (x.toList == [119, 104, 105, 108, 101]) = false := hf.2.2.2.2.2.1
        have f6 : (x.toList == [101, 108, 115, 101]) = false := hf.2.2.2.2.2.2.1
        have f7 : (x.toList == [101, 110, 100]) = false := hf.2.2.2.2.2.2.2
        by_cases ho : op.length = 0
        · have ho' : ((op.length : Int) == 0) = true := by rw [beq_iff_eq]; omega
          rw [if_neg (by omega), if_neg (by simp [ho])] at HT
          clear ho
          rw [if_neg (by omega), if_neg (by omega), if_neg (by omega)] at HT
          go_wp2_with fail
          go_roundw
          case rel => exact ⟨k + 1, op, sp, by omega, by go_num, unhide HT, (unhide HN2).step⟩
          case measure => simp [intOf]; omega
        · have ho' : ((op.length : Int) == 0) = false := by rw [beq_eq_false_iff_ne]; omega
          rw [if_neg (by omega), if_pos (by simp [ho])] at HT
          clear ho
          go_wp2_with fail
          go_ret
          exact ⟨by rw [← unhide HT]; exact ret_int (by omega), (unhide HN2).below⟩
      · have f0 : (x.toList == []) = false := hf.1
        have f1 : (x.toList == [118, 97, 114]) = false := hf.2.1
        have f2 : (x.toList == [97, 114, 114, 97, 121]) = false := hf.2.2.1
        have f3 : (x.toList == [112, 114, 111, 99]) = true := hf.2.2.2.1
        have f4 : (x.toList == [105, 102]) = false := hf.2.2.2.2.1
        have f5 : (x.toList == [119, 104, 105, 108, 101]) = false := hf.2.2.2.2.2.1
        have f6 : (x.toList == [101, 108, 115, 101]) = false := hf.2.2.2.2.2.2.1
        have f7 : (x.toList == [101, 110, 100]) = false := hf.2.2.2.2.2.2.2
        by_cases ho : op.length = 0
        · have ho' : ((op.length : Int) == 0) = true := by rw [beq_iff_eq]; omega
          rw [if_neg (by omega), if_neg (by simp [ho])] at HT
          clear ho
          rw [if_pos (by omega)] at HT
          go_wp2_with (at_builtin; refine wpList_append_lies _ rfl (.tmp 46) (.tmp 48) 24 rfl w.heap.size 3 i0 _ 1 8 Tryz.underlying24 hi0 hz0 hz1 hz2 rfl (by decide) _ _ _ rfl ((unhide HN2).oown.alloc _) ⟨_, 0, none⟩ 1 1 [.int .i64 ((k : Int) + 1)] rfl rfl (cell_one_new _ _ _) (by simp [Value.oneCell']) (by omega) (by unfold maxLen; omega) (by omega) (by simp; omega) _ rfl ?_)
          intro g' cap' w3 hown3 hgrow hat hlt3
          have HN3 := hide ((unhide HN2).pushO (by exact hown3) hgrow (by rcases hat with h | h; exact Or.inl h; exact Or.inr (by first | omega | (simp at h; omega))))
          clear hown3 hgrow hat hlt3
          go_wp2_with fail
          go_roundw
          case rel => exact ⟨k + 1, _, sp, by omega, by go_num, unhide HT, unhide HN3⟩
          case measure => simp [intOf]; omega
        · have ho' : ((op.length : Int) == 0) = false := by rw [beq_eq_false_iff_ne]; omega
          rw [if_neg (by omega), if_pos (by simp [ho])] at HT
          clear ho
          go_wp2_with fail
          go_ret
          exact ⟨by rw [← unhide HT]; exact ret_int (by omega), (unhide HN2).below⟩
      · have f0 : (x.toList == []) = false := hf.1
        have f1 : (x.toList == [118, 97, 114]) = false := hf.2.1
        have f2 : (x.toList == [97, 114, 114, 97, 121]) = false := hf.2.2.1
        have f3 : (x.toList == [112, 114, 111, 99]) = false := hf.2.2.2.1
        have f4 : (x.toList == [105, 102]) = true := hf.2.2.2.2.1
        have f5 : (x.toList == [119, 104, 105, 108, 101]) = false := hf.2.2.2.2.2.1
        have f6 : (x.toList == [101, 108, 115, 101]) = false := hf.2.2.2.2.2.2.1
        have f7 : (x.toList == [101, 110, 100]) = false := hf.2.2.2.2.2.2.2
        by_cases ho : op.length = 0
        · have ho' : ((op.length : Int) == 0) = true := by rw [beq_iff_eq]; omega
          rw [if_neg (by omega), if_pos (by simp [ho])] at HT
          clear ho
          go_wp2_with fail
          go_ret
          exact ⟨by rw [← unhide HT]; exact ret_int (by omega), (unhide HN2).below⟩
        · have ho' : ((op.length : Int) == 0) = false := by rw [beq_eq_false_iff_ne]; omega
          rw [if_neg (by omega), if_neg (by simp [ho])] at HT
          clear ho
          rw [if_pos (by omega)] at HT
          go_wp2_with (at_builtin; refine wpList_append_lies _ rfl (.tmp 46) (.tmp 48) 24 rfl w.heap.size 3 i0 _ 1 8 Tryz.underlying24 hi0 hz0 hz1 hz2 rfl (by decide) _ _ _ rfl ((unhide HN2).oown.alloc _) ⟨_, 0, none⟩ 1 1 [.int .i64 ((k : Int) + 1)] rfl rfl (cell_one_new _ _ _) (by simp [Value.oneCell']) (by omega) (by unfold maxLen; omega) (by omega) (by simp; omega) _ rfl ?_)
          intro g' cap' w3 hown3 hgrow hat hlt3
          have HN3 := hide ((unhide HN2).pushO (by exact hown3) hgrow (by rcases hat with h | h; exact Or.inl h; exact Or.inr (by first | omega | (simp at h; omega))))
          clear hown3 hgrow hat hlt3
          go_wp2_with fail
          go_roundw
          case rel => exact ⟨k + 1, _, sp, by omega, by go_num, unhide HT, unhide HN3⟩
          case measure => simp [intOf]; omega
      · have f0 : (x.toList == []) = false := hf.1
        have f1 : (x.toList == [118, 97, 114]) = false := hf.2.1
        have f2 : (x.toList == [97, 114, 114, 97, 121]) = false := hf.2.2.1
        have f3 : (x.toList == [112, 114, 111, 99]) = false := hf.2.2.2.1
        have f4 : (x.toList == [105, 102]) = false := hf.2.2.2.2.1
        have f5 : (x.toList == [119, 104, 105, 108, 101]) = true := hf.2.2.2.2.2.1
        have f6 : (x.toList == [101, 108, 115, 101]) = false := hf.2.2.2.2.2.2.1
        have f7 : (x.toList == [101, 110, 100]) = false := hf.2.2.2.2.2.2.2
        by_cases ho : op.length = 0
        · have ho' : ((op.length : Int) == 0) = true := by rw [beq_iff_eq]; omega
          rw [if_neg (by omega), if_pos (by simp [ho])] at HT
          clear ho
          go_wp2_with fail
          go_ret
          exact ⟨by rw [← unhide HT]; exact ret_int (by omega), (unhide HN2).below⟩
        · have ho' : ((op.length : Int) == 0) = false := by rw [beq_eq_false_iff_ne]; omega
          rw [if_neg (by omega), if_neg (by simp [ho])] at HT
          clear ho
          rw [if_pos (by omega)] at HT
          go_wp2_with (at_builtin; refine wpList_append_lies _ rfl (.tmp 46) (.tmp 48) 24 rfl w.heap.size 3 i0 _ 1 8 Tryz.underlying24 hi0 hz0 hz1 hz2 rfl (by decide) _ _ _ rfl ((unhide HN2).oown.alloc _) ⟨_, 0, none⟩ 1 1 [.int .i64 ((k : Int) + 1)] rfl rfl (cell_one_new _ _ _) (by simp [Value.oneCell']) (by omega) (by unfold maxLen; omega) (by omega) (by simp; omega) _ rfl ?_)
          intro g' cap' w3 hown3 hgrow hat hlt3
          have HN3 := hide ((unhide HN2).pushO (by exact hown3) hgrow (by rcases hat with h | h; exact Or.inl h; exact Or.inr (by first | omega | (simp at h; omega))))
          clear hown3 hgrow hat hlt3
          go_wp2_with fail
          go_roundw
          case rel => exact ⟨k + 1, _, sp, by omega, by go_num, unhide HT, unhide HN3⟩
          case measure => simp [intOf]; omega
      · have f0 : (x.toList == []) = false := hf.1
        have f1 : (x.toList == [118, 97, 114]) = false := hf.2.1
        have f2 : (x.toList == [97, 114, 114, 97, 121]) = false := hf.2.2.1
        have f3 : (x.toList == [112, 114, 111, 99]) = false := hf.2.2.2.1
        have f4 : (x.toList == [105, 102]) = false := hf.2.2.2.2.1
        have f5 : (x.toList == [119, 104, 105, 108, 101]) = false := hf.2.2.2.2.2.1
        have f6 : (x.toList == [101, 108, 115, 101]) = true := hf.2.2.2.2.2.2.1
        have f7 : (x.toList == [101, 110, 100]) = false := hf.2.2.2.2.2.2.2
        by_cases ho : op.length = 0
        · have ho' : ((op.length : Int) == 0) = true := by rw [beq_iff_eq]; omega
          rw [if_neg (by omega), if_pos (by simp [ho])] at HT
          clear ho
          go_wp2_with fail
          go_ret
          exact ⟨by rw [← unhide HT]; exact ret_int (by omega), (unhide HN2).below⟩
        · have ho' : ((op.length : Int) == 0) = false := by rw [beq_eq_false_iff_ne]; omega
          rw [if_neg (by omega), if_neg (by simp [ho])] at HT
          clear ho
          rw [if_neg (by omega), if_pos rfl] at HT
          obtain ⟨pre, o, rfl⟩ : ∃ pre o, op = pre ++ [o] := by
            rcases nat_snoc op with h | h
            · subst h; simp at ho'
            · exact h
          have hon := (unhide HN2).ops o (by simp)
          obtain ⟨o', rfl⟩ : ∃ o', o = o' + 1 := ⟨o - 1, by omega⟩
          have hol : o' < ls.length := by omega
          obtain ⟨g0, cap0, he0, hcap0, cO⟩ := last_cell (unhide HN2).oown
          simp only [Value.slice.injEq] at he0
          obtain ⟨rfl, hpl, rfl⟩ := he0
          rw [lastN_snoc] at HT
          rw [hpl] at hopl ho' HN2 ⊢
          clear hpl
          replace cO : w2.cell? ⟨g0, pre.length, none⟩ = some (.int .i64 ((o' : Int) + 1)) := cO
          have HP := hide (show ∀ x : Nat, (pre ++ [x]).length = pre.length + 1 by intro x; simp)
          have hm1 := wrap_m1 pre.length (by omega)
          have hm0 := wrap_m0 pre.length (by omega)
          have hm2 : (pre.length : Int) < (pre.length : Int) + 1 := by omega
          have hm3 : (0 : Int) ≤ (pre.length : Int) := by omega
          have hm4 : (pre.length : Int) ≤ (ocap : Int) := by omega
          go_wp2_with fail
          refine (head_ref _ S g cap ls o' ((unhide HH).later (unhide HN2).below) hol hL).mono ?_
          rintro e w3 ⟨rfl, hb3⟩
          have HN3 := hide ((unhide HN2).later hb3)
          have hobj3 := (unhide HN3).below.size
          rw [Nat.add_sub_cancel, Rf.lineAt_lt hol] at HT
          clear hb3 cO
          generalize Rf.first ls[o'] = y at *
          cases hy : (y.toList == [105, 102]) with
          | false =>
            rw [hy, if_pos (Or.inl rfl)] at HT
            go_wp2_with fail
            go_ret
            exact ⟨by rw [← unhide HT]; exact ret_int (by omega), (unhide HN3).below⟩
          | true =>
            rcases nat_snoc sp with rfl | ⟨ps, q, rfl⟩
            · rw [hy, if_neg (by simp)] at HT
              simp only [List.length_nil] at hspl HN3 ⊢
              have hsown : w3.ownsRow w.heap.size 3 1 (.slice sad 0 scap) 0 [] := (unhide HN3).sown
              go_wp2_with (at_builtin; refine wpList_append_lies _ rfl (.tmp 79) (.tmp 81) 24 rfl w.heap.size 3 i0 _ 1 8 Tryz.underlying24 hi0 hz0 hz1 hz2 rfl (by decide) _ _ _ rfl (hsown.alloc _) ⟨_, 0, none⟩ 1 1 [.int .i64 ((o' : Int) + 1)] rfl rfl (cell_one_new _ _ _) (by simp [Value.oneCell']) (by omega) (by unfold maxLen; omega) (by omega) (by simp; omega) _ rfl ?_)
              intro g' cap' w4 hown4 hgrow hat hlt4
              have HN4 := hide ((unhide HN3).pushS (q := o' + 1) (g' := g') (cap' := cap') (by simp) (by exact hown4) hgrow (by rcases hat with h | h; exact Or.inl h; exact Or.inr (by first | omega | (simp at h; omega))))
              clear hown4 hgrow hat hlt4 hsown
              go_wp2_with fail
              go_roundw
              case rel => exact ⟨k + 1, _, _, by omega, by go_num, unhide HT, by first | exact unhide HN4 | simpa using unhide HN4⟩
              case measure => simp [intOf]; omega
            · obtain ⟨g1, cap1, he1, hcap1, cS⟩ := last_cell (unhide HN3).sown
              simp only [Value.slice.injEq] at he1
              obtain ⟨rfl, hsl, rfl⟩ := he1
              rw [lastN_snoc] at HT
              rw [hsl] at hspl HN3 ⊢
              have HSL := hide hsl
              clear hsl
              replace cS : w3.cell? ⟨g1, ps.length, none⟩ = some (.int .i64 (q : Int)) := cS
              have hq1 := wrap_m1 ps.length (by omega)
              have hq0 := wrap_m0 ps.length (by omega)
              have hq2 : (ps.length : Int) < (ps.length : Int) + 1 := by omega
              have hq3 : (0 : Int) ≤ (ps.length : Int) := by omega
              have hq4 : (ps.length : Int) ≤ (scap : Int) := by omega
              have hq5 : (0 : Int) < (ps.length : Int) + 1 := by omega
              by_cases hqo : q = o' + 1
              · have hqo' : ((q : Int) == (o' : Int) + 1) = true := by rw [beq_iff_eq]; omega
                rw [if_pos (Or.inr ⟨by simp, hqo⟩)] at HT
                clear hqo
                go_wp2_with fail
                go_ret
                exact ⟨by rw [← unhide HT]; exact ret_int (by omega), (unhide HN3).below⟩
              · have hqo' : ((q : Int) == (o' : Int) + 1) = false := by rw [beq_eq_false_iff_ne]; omega
                rw [hy, if_neg (by simp [hqo])] at HT
                clear hqo
                have hsown : w3.ownsRow w.heap.size 3 1 (.slice (some ⟨g1, 0, none⟩) (ps.length + 1) scap) (ps.length + 1) ((ps ++ [q]).map iv) := by
                  have := (unhide HN3).sown
                  rw [unhide HSL] at this
                  exact this
                go_wp2_with (at_builtin; refine wpList_append_lies _ rfl (.tmp 79) (.tmp 81) 24 rfl w.heap.size 3 i0 _ 1 8 Tryz.underlying24 hi0 hz0 hz1 hz2 rfl (by decide) _ _ _ rfl (hsown.alloc _) ⟨_, 0, none⟩ 1 1 [.int .i64 ((o' : Int) + 1)] rfl rfl (cell_one_new _ _ _) (by simp [Value.oneCell']) (by omega) (by unfold maxLen; omega) (by omega) (by simp; omega) _ rfl ?_)
                intro g' cap' w4 hown4 hgrow hat hlt4
                have HN4 := hide ((unhide HN3).pushS (q := o' + 1) (g' := g') (cap' := cap') (by rw [unhide HSL]; omega) (by rw [unhide HSL, List.map_append, List.append_assoc]; exact hown4) hgrow (by rcases hat with h | h; exact Or.inl h; exact Or.inr (by first | omega | (simp at h; omega))))
                rw [unhide HSL] at HN4
                clear hown4 hgrow hat hlt4 hsown
                go_wp2_with fail
                go_roundw
                case rel => exact ⟨k + 1, _, _, by omega, by go_num, unhide HT, by first | exact unhide HN4 | simpa using unhide HN4⟩
                case measure => simp [intOf]; omega
      · have f0 : (x.toList == []) = false := hf.1
        have f1 : (x.toList == [118, 97, 114]) = false := hf.2.1
        have f2 : (x.toList == [97, 114, 114, 97, 121]) = false := hf.2.2.1
        have f3 : (x.toList == [112, 114, 111, 99]) = false := hf.2.2.2.1
        have f4 : (x.toList == [105, 102]) = false := hf.2.2.2.2.1
        have f5 : (x.toList == [119, 104, 105, 108, 101]) = false := hf.2.2.2.2.2.1
        have f6 : (x.toList == [101, 108, 115, 101]) = false := hf.2.2.2.2.2.2.1
        have f7 : (x.toList == [101, 110, 100]) = true := hf.2.2.2.2.2.2.2
        by_cases ho : op.length = 0
        · have ho' : ((op.length : Int) == 0) = true := by rw [beq_iff_eq]; omega
          rw [if_neg (by omega), if_pos (by simp [ho])] at HT
          clear ho
          go_wp2_with fail
          go_ret
          exact ⟨by rw [← unhide HT]; exact ret_int (by omega), (unhide HN2).below⟩
        · have ho' : ((op.length : Int) == 0) = false := by rw [beq_eq_false_iff_ne]; omega
          rw [if_neg (by omega), if_neg (by simp [ho])] at HT
          clear ho
          rw [if_neg (by omega), if_neg (by omega), if_pos rfl] at HT
          obtain ⟨pre, o, rfl⟩ : ∃ pre o, op = pre ++ [o] := by
            rcases nat_snoc op with h | h
            · subst h; simp at ho'
            · exact h
          have hon := (unhide HN2).ops o (by simp)
          obtain ⟨o', rfl⟩ : ∃ o', o = o' + 1 := ⟨o - 1, by omega⟩
          have hol : o' < ls.length := by omega
          obtain ⟨g0, cap0, he0, hcap0, cO⟩ := last_cell (unhide HN2).oown
          simp only [Value.slice.injEq] at he0
          obtain ⟨rfl, hpl, rfl⟩ := he0
          rw [lastN_snoc] at HT
          rw [hpl] at hopl ho' HN2 ⊢
          clear hpl
          replace cO : w2.cell? ⟨g0, pre.length, none⟩ = some (.int .i64 ((o' : Int) + 1)) := cO
          have HP := hide (show ∀ x : Nat, (pre ++ [x]).length = pre.length + 1 by intro x; simp)
          have hm1 := wrap_m1 pre.length (by omega)
          have hm0 := wrap_m0 pre.length (by omega)
          have hm2 : (pre.length : Int) < (pre.length : Int) + 1 := by omega
          have hm3 : (0 : Int) ≤ (pre.length : Int) := by omega
          have hm4 : (pre.length : Int) ≤ (ocap : Int) := by omega
          rw [List.dropLast_concat] at HT
          rcases nat_snoc sp with rfl | ⟨ps, q, rfl⟩
          · rw [if_neg (by simp)] at HT
            simp only [List.length_nil] at hspl HN2 ⊢
            have HNP := hide ((unhide HN2).step.popO)
            go_wp2_with fail
            go_roundw
            case rel => exact ⟨k + 1, pre, [], by omega, by go_num, unhide HT, unhide HNP⟩
            case measure => simp [intOf]; omega
          · obtain ⟨g1, cap1, he1, hcap1, cS⟩ := last_cell (unhide HN2).sown
            simp only [Value.slice.injEq] at he1
            obtain ⟨rfl, hsl, rfl⟩ := he1
            rw [lastN_snoc] at HT
            rw [hsl] at hspl HN2 ⊢
            have HSL := hide hsl
            clear hsl
            replace cS : w2.cell? ⟨g1, ps.length, none⟩ = some (.int .i64 (q : Int)) := cS
            have hq1 := wrap_m1 ps.length (by omega)
            have hq0 := wrap_m0 ps.length (by omega)
            have hq2 : (ps.length : Int) < (ps.length : Int) + 1 := by omega
            have hq3 : (0 : Int) ≤ (ps.length : Int) := by omega
            have hq4 : (ps.length : Int) ≤ (scap : Int) := by omega
            have hq5 : (0 : Int) < (ps.length : Int) + 1 := by omega
            by_cases hqo : q = o' + 1
            · have hqo' : ((q : Int) == (o' : Int) + 1) = true := by rw [beq_iff_eq]; omega
              rw [if_pos ⟨by simp, hqo⟩, List.dropLast_concat] at HT
              clear hqo
              have HNP := hide ((unhide HN2).step.popO.popS)
              go_wp2_with fail
              go_roundw
              case rel => exact ⟨k + 1, pre, ps, by omega, by go_num, unhide HT, unhide HNP⟩
              case measure => simp [intOf]; omega
            · have hqo' : ((q : Int) == (o' : Int) + 1) = false := by rw [beq_eq_false_iff_ne]; omega
              rw [if_neg (by simp [hqo])] at HT
              clear hqo
              have HNP := hide ((unhide HN2).step.popO)
              go_wp2_with fail
              go_roundw
              case rel => exact ⟨k + 1, pre, _, by omega, by go_num, unhide HT, unhide HNP⟩
              case measure => simp [intOf]; omega
      · have f0 : (x.toList == []) = false := hf.1
        have f1 : (x.toList == [118, 97, 114]) = false := hf.2.1
        have f2 : (x.toList == [97, 114, 114, 97, 121]) = false := hf.2.2.1
        have f3 : (x.toList == [112, 114, 111, 99]) = false := hf.2.2.2.1
        have f4 : (x.toList == [105, 102]) = false := hf.2.2.2.2.1
        have f5 : (x.toList == [119, 104, 105, 108, 101]) = false := hf.2.2.2.2.2.1
        have f6 : (x.toList == [101, 108, 115, 101]) = false := hf.2.2.2.2.2.2.1
        have f7 : (x.toList == [101, 110, 100]) = false := hf.2.2.2.2.2.2.2
        by_cases ho : op.length = 0
        · have ho' : ((op.length : Int) == 0) = true := by rw [beq_iff_eq]; omega
          rw [if_neg (by omega), if_pos (by simp [ho])] at HT
          clear ho
          go_wp2_with fail
          go_ret
          exact ⟨by rw [← unhide HT]; exact ret_int (by omega), (unhide HN2).below⟩
        · have ho' : ((op.length : Int) == 0) = false := by rw [beq_eq_false_iff_ne]; omega
          rw [if_neg (by omega), if_neg (by simp [ho])] at HT
          clear ho
          rw [if_neg (by omega), if_neg (by omega), if_neg (by omega)] at HT
          go_wp2_with fail
          go_roundw
          case rel => exact ⟨k + 1, op, sp, by omega, by go_num, unhide HT, (unhide HN2).step⟩
          case measure => simp [intOf]; omega
    · have hlt' : ¬ (k : Int) + 1 ≤ (ls.length : Int) := by omega
      rw [List.drop_eq_nil_of_le (by omega), Rf.nestFrom] at hT
      have HT := hide hT
      clear hT
      have hkl : k = ls.length := by omega
      by_cases ho : op.length = 0
      · have ho' : ¬ (0 : Int) < (op.length : Int) := by omega
        rw [if_pos ho] at HT
        go_wp2_with fail
        go_ret
        exact ⟨by rw [← unhide HT]; rfl, (unhide HN).below⟩
      · have ho' : (0 : Int) < (op.length : Int) := by omega
        rw [if_neg ho] at HT
        subst hkl
        go_wp2_with fail
        go_ret
        exact ⟨by rw [← unhide HT]; rfl, (unhide HN).below⟩
end Go.Proofs.YthleadfkfnnadaaGreat
