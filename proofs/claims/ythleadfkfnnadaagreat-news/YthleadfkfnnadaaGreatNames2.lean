/- The names of a program: expressions. -/
import Derived.Test.YthleadfkfnnadaaGreatNest4
namespace Go.Proofs.YthleadfkfnnadaaGreat
open Go.RowKit
theorem declFrom_end {n : Nat} {pls : List Rt.PL} {x : ByteArray} {k : Nat} (h : Rt.declFrom k (pls.drop k) x = n) (hk : ¬ k < pls.length) : n = 0 := by
  rw [List.drop_eq_nil_of_le (by omega), Rt.declFrom] at h
  exact h.symm
theorem declFrom_hit {n : Nat} {pls : List Rt.PL} {x : ByteArray} {k : Nat} (h : Rt.declFrom k (pls.drop k) x = n) (hk : k < pls.length) (hd : Rt.isDecl pls[k] x = true) : n = k := by
  rw [List.drop_eq_getElem_cons hk, Rt.declFrom, if_pos hd] at h
  exact h.symm
theorem declFrom_miss {n : Nat} {pls : List Rt.PL} {x : ByteArray} {k : Nat} (h : Rt.declFrom k (pls.drop k) x = n) (hk : k < pls.length) (hd : Rt.isDecl pls[k] x = false) : Rt.declFrom (k + 1) (pls.drop (k + 1)) x = n := by
  rw [List.drop_eq_getElem_cons hk, Rt.declFrom, if_neg (by rw [hd]; simp)] at h
  exact h
set_option maxHeartbeats 1000000 in
theorem declaration_any (w : World) (P : Nat) (pls : List Rt.PL) (lv : Value) (cs : List (List Value)) (x : ByteArray) (h : ProgS w P pls lv cs) (hlen : pls.length ≤ 101) :
    Calls Tryz.prog 143 #[.pointer (some ⟨P, 0, none⟩), .string x] w fun e w' => e = .returned (.int .i64 (Rt.declP pls x)) ∧ w' = w := by
  obtain ⟨ad, cap, hlv, cP⟩ := h.lvForm
  have HH := hide h
  have HLV := hide hlv
  clear h hlv
  go_enter Tryz.func143, Tryz.ntmps143
  go_wp2
  go_loop [5] (fun i => ∃ k : Nat, 1 ≤ k ∧ k ≤ pls.length + 1 ∧ i = .int .i64 k ∧ Rt.declFrom k (pls.drop k) x = Rt.declP pls x) (fun i => pls.length + 1 - (intOf i).toNat)
  case atStart => exact ⟨1, Nat.le_refl _, by omega, rfl, rfl⟩
  case round =>
    obtain ⟨k, hk1, hk, rfl, hT⟩ := hrel
    have HT := hide hT
    clear hT
    by_cases hlt : k < pls.length
    · obtain ⟨g, cap', a0, a1, a2, a3, e0, e1, e2, e3, xe, xf, hlv, _, _, ⟨_, d1, d2, _⟩, _, _⟩ := (unhide HH).at hlt
      have hlv2 := (unhide HLV).symm.trans hlv
      simp at hlv2
      obtain ⟨rfl, rfl⟩ := hlv2
      have hlt' : (k : Int) < (pls.length : Int) := by omega
      cases hd : Rt.isDecl pls[k] x with
      | true =>
        have HE := hide (declFrom_hit (unhide HT) hlt hd)
        unfold Rt.isDecl at hd
        simp only [Bool.and_eq_true, Bool.or_eq_true, decide_eq_true_eq] at hd
        obtain ⟨hk3, hnm⟩ := hd
        have hnm' := Rt.str_same hnm
        clear hnm hlv
        generalize pls[k].form.name = nm at *
        generalize pls[k].form.kind = kx at *
        rcases hk3 with (hk3 | hk3) | hk3
        all_goals
          subst hk3
          go_wp2
          go_ret
          exact ⟨by rw [unhide HE]; rfl, rfl⟩
      | false =>
        have HE := hide (declFrom_miss (unhide HT) hlt hd)
        unfold Rt.isDecl at hd
        clear hlv
        generalize pls[k].form.name = nm at *
        generalize pls[k].form.kind = kx at *
        by_cases hnm : nm = x
        · have hk3 : ¬ kx = 1 ∧ ¬ kx = 2 ∧ ¬ kx = 3 := by simpa [hnm, and_assoc] using hd
          have k1 : (kx == 1) = false := by simpa using hk3.1
          have k2 : (kx == 2) = false := by simpa using hk3.2.1
          have k3 : (kx == 3) = false := by simpa using hk3.2.2
          clear hk3 hd hnm
          go_wp2
          go_round
          case rel => exact ⟨k + 1, by omega, by omega, by go_num, unhide HE⟩
          case measure => simp [intOf]; omega
        · have hnm' := Rt.str_ne hnm
          clear hd hnm
          go_wp2
          all_goals
            go_round
            case rel => exact ⟨k + 1, by omega, by omega, by go_num, unhide HE⟩
            case measure => simp [intOf]; omega
    · have HE := hide (declFrom_end (unhide HT) hlt)
      have hlt' : ¬ (k : Int) < (pls.length : Int) := by omega
      go_wp2
      go_ret
      exact ⟨by rw [unhide HE]; simp, rfl⟩
def FormP (P : Nat) (fm : Rt.PForm) (w : World) (e : Ending) (w' : World) : Prop := ∃ fv, e = .returned (.agg fv) ∧ FormV w' (P + 1) fv fm ∧ Below w.heap.size w w'
theorem FormV_set6_ty {w : World} {B N : Nat} {v : Array Value} {fm : Rt.PForm} {cs : Array Value} (h : FormV w B v fm) (hN : w.heap[N]? = some (.cells cs 143 (0, 0))) (a b c d e f : Value) : FormV (W6 w N a b c d e f) B v fm := by
  have hx : ∀ (t : TypeId) (size n : Nat) (v : Value) (xs : List Value), t ≠ 143 → w.ownsRow B t size v n xs → (W6 w N a b c d e f).ownsRow B t size v n xs := by
    intro t size n v xs ht hv
    refine own_set6 hv ?_ _ _ _ _ _ _
    intro g hg e
    subst e
    rcases hv.2 with ⟨h', _⟩ | ⟨g', _, cur, h', _, hh, _⟩
    · rw [h'] at hg; cases hg
    · rw [h'] at hg
      simp [Value.ownBlock] at hg
      subst hg
      rw [hN] at hh
      simp at hh
      exact ht hh.2.symm
  obtain ⟨pv, iv, vv, vs, rfl, h1, h2, h3, h4⟩ := h
  exact ⟨pv, iv, vv, vs, rfl, hx _ _ _ _ _ (by decide) h1, hx _ _ _ _ _ (by decide) h2, hx _ _ _ _ _ (by decide) h3, ExprsR.map (fun x o hh => hx _ _ _ _ _ (by decide) hh) _ _ h4⟩
theorem Tryz.fieldL1 (a0 : Option Addr) (n0 k0 : Nat) (kd : Int) (nm : ByteArray) (cl : Int) (a1 : Option Addr) (n1 k1 : Nat) (a2 : Option Addr) (n2 k2 : Nat) (a3 : Option Addr) (n3 k3 : Nat) (d o x y p : Int) (w : World) :
    (Instr.field 145 (.agg #[.slice a0 n0 k0, .int .i64 kd, .string nm, .int .i64 cl, .slice a1 n1 k1, .slice a2 n2 k2, .slice a3 n3 k3, .int .i64 d, .int .i64 o, .int .i64 x, .int .i64 y, .int .i64 p]) 1).run Tryz.prog w = .ok (.agg #[.int .i64 kd, .string nm, .int .i64 cl, .slice a1 n1 k1, .slice a2 n2 k2, .slice a3 n3 k3]) w := by kernel_rfl
set_option maxHeartbeats 1000000 in
theorem declared_any (w : World) (P : Nat) (pls : List Rt.PL) (lv : Value) (cs : List (List Value)) (x : ByteArray) (h : ProgS w P pls lv cs) (hlen : pls.length ≤ 101) :
    Calls Tryz.prog 128 #[.pointer (some ⟨P, 0, none⟩), .string x] w (FormP P (Rt.declForm pls x) w) := by
  have hb0 := (Below.refl w.heap.size w).alloc (Nat.le_refl _) (.cells zForm 143)
  have h0 := h.later hb0
  have hN0 := heap_alloc_new w (.cells zForm 143)
  clear h
  go_enter Tryz.func128, Tryz.ntmps128
  go_wp2_with fail
  refine (declaration_any _ _ _ _ _ x h0 hlen).mono ?_
  rintro e w1 ⟨rfl, rfl⟩
  go_wp2_with fail
  refine (Line_any _ _ _ _ _ _ h0).mono ?_
  rintro e w2 ⟨ad0, ad1, ad2, ad3, cap0, cap1, cap2, cap3, xe, xf, rfl, _, hfv, hb2⟩
  rw [Rt.lineAtP_form] at hfv ⊢
  generalize (Rt.lineAtP pls (Rt.declP pls x)).depth = dp at *
  generalize (Rt.lineAtP pls (Rt.declP pls x)).opener = opn at *
  generalize (Rt.lineAtP pls (Rt.declP pls x)).proc = pr at *
  generalize (Rt.lineAtP pls (Rt.declP pls x)).toks.length = tl at *
  obtain ⟨c0, c1, c2, c3, c4, c5, f0, f1, f2, f3, f4, f5⟩ := six (block_later hN0 hb2)
  have hz := block_lt (block_later hN0 hb2)
  have HV := hide (FormV_set6_ty hfv (block_later hN0 hb2))
  have HB := hide (hb0.trans (hb2.mono (B' := w.heap.size) (by simp)))
  have hfl := Tryz.fieldL1 ad0 tl cap0 (Rt.formAt pls (Rt.declP pls x)).kind (Rt.formAt pls (Rt.declP pls x)).name (Rt.formAt pls (Rt.declP pls x)).cells ad1 (Rt.formAt pls (Rt.declP pls x)).params.length cap1 ad2 (Rt.formAt pls (Rt.declP pls x)).index.length cap2 ad3 (Rt.formAt pls (Rt.declP pls x)).values.length cap3 dp opn xe xf pr
  clear h0 hb0 hN0 hb2 hfv
  go_wp2_with fail
  refine bodyPost_ret (v := .agg #[.int .i64 (Rt.formAt pls (Rt.declP pls x)).kind, .string (Rt.formAt pls (Rt.declP pls x)).name, .int .i64 (Rt.formAt pls (Rt.declP pls x)).cells, .slice ad1 (Rt.formAt pls (Rt.declP pls x)).params.length cap1, .slice ad2 (Rt.formAt pls (Rt.declP pls x)).index.length cap2, .slice ad3 (Rt.formAt pls (Rt.declP pls x)).values.length cap3]) ?_ rfl ⟨_, rfl, unhide HV _ _ _ _ _ _, below_set6 (unhide HB) (Nat.le_refl _) _ _ _ _ _ _⟩
  simp [results, Tryz.results128, go_sem, c0, c1, c2, c3, c4, c5]
theorem Tryz.fieldF3 (a b c : Value) (ad : Option Addr) (n k : Nat) (e f : Value) (w : World) : (Instr.field 143 (.agg #[a, b, c, .slice ad n k, e, f]) 3).run Tryz.prog w = .ok (.slice ad n k) w := by kernel_rfl
theorem Tryz.fieldF0 (x : Int) (b c d e f : Value) (w : World) : (Instr.field 143 (.agg #[.int .i64 x, b, c, d, e, f]) 0).run Tryz.prog w = .ok (.int .i64 x) w := by kernel_rfl
namespace Rt
def parFrom : Nat → List ByteArray → ByteArray → Int
  | _, [], _ => -1
  | i, y :: r, x => if y = x then (i : Int) else parFrom (i + 1) r x
def parIdx (pls : List PL) (proc : Int) (x : ByteArray) : Int := parFrom 0 (formAt pls proc).params x
theorem parFrom_any : ∀ (l : List ByteArray) (i : Nat) (x : ByteArray), (l.any (fun y => decide (y = x)) = true ∧ 0 ≤ parFrom i l x) ∨ (l.any (fun y => decide (y = x)) = false ∧ parFrom i l x = -1)
  | [], i, x => Or.inr ⟨rfl, rfl⟩
  | y :: r, i, x => by
    rw [parFrom, List.any_cons]
    by_cases h : y = x
    · rw [if_pos h]; exact Or.inl ⟨by simp [h], by omega⟩
    · rw [if_neg h]
      rcases parFrom_any r (i + 1) x with ⟨h1, h2⟩ | ⟨h1, h2⟩
      · exact Or.inl ⟨by simp [h1], h2⟩
      · exact Or.inr ⟨by simp [h1, h], h2⟩
theorem parIdx_is (pls : List PL) (proc : Int) (x : ByteArray) : (isPar pls proc x = true ∧ 0 ≤ parIdx pls proc x) ∨ (isPar pls proc x = false ∧ parIdx pls proc x = -1) := parFrom_any _ _ _
theorem parFrom_hit {l : List ByteArray} {k : Nat} {x : ByteArray} {r : Int} (h : parFrom k (l.drop k) x = r) (hk : k < l.length) (hx : l[k] = x) : r = k := by
  rw [List.drop_eq_getElem_cons hk, parFrom, if_pos hx] at h; exact h.symm
theorem parFrom_miss {l : List ByteArray} {k : Nat} {x : ByteArray} {r : Int} (h : parFrom k (l.drop k) x = r) (hk : k < l.length) (hx : ¬ l[k] = x) : parFrom (k + 1) (l.drop (k + 1)) x = r := by
  rw [List.drop_eq_getElem_cons hk, parFrom, if_neg hx] at h; exact h
theorem parFrom_end {l : List ByteArray} {k : Nat} {x : ByteArray} {r : Int} (h : parFrom k (l.drop k) x = r) (hk : ¬ k < l.length) : r = -1 := by
  rw [List.drop_eq_nil_of_le (by omega), parFrom] at h; exact h.symm
end Rt
set_option maxHeartbeats 1000000 in
set_option maxRecDepth 100000 in
theorem Param_any (w : World) (P : Nat) (pls : List Rt.PL) (lv : Value) (cs : List (List Value)) (n : Int) (x : ByteArray) (h : ProgS w P pls lv cs) (hpar : (Rt.formAt pls n).params.length ≤ 1000) :
    Calls Tryz.prog 191 #[.pointer (some ⟨P, 0, none⟩), .int .i64 n, .string x] w fun e w' => e = .returned (.int .i64 (Rt.parIdx pls n x)) ∧ Below w.heap.size w w' := by
  go_enter Tryz.func191, Tryz.ntmps191
  go_wp2_with fail
  refine (Line_any _ _ _ _ _ _ h).mono ?_
  rintro e w2 ⟨ad0, ad1, ad2, ad3, cap0, cap1, cap2, cap3, xe, xf, rfl, _, hfv, hb2⟩
  rw [Rt.lineAtP_form] at hfv ⊢
  generalize (Rt.lineAtP pls n).depth = dp at *
  generalize (Rt.lineAtP pls n).opener = opn at *
  generalize (Rt.lineAtP pls n).proc = pr at *
  generalize (Rt.lineAtP pls n).toks.length = tl at *
  obtain ⟨pv, iv, vv, vs, hfe, b1, b2, b3, _⟩ := hfv
  have hpv : pv = .slice ad1 (Rt.formAt pls n).params.length cap1 := by simp at hfe; exact hfe.1.symm
  subst hpv
  have HB := hide hb2
  have HO := hide b1
  have HI := hide (show Rt.parIdx pls n x = Rt.parFrom 0 (Rt.formAt pls n).params x from rfl)
  clear h hb2 b1 b2 b3 hfe
  generalize (Rt.formAt pls n) = fm at *
  have hf1 := Tryz.fieldL1 ad0 tl cap0 fm.kind fm.name fm.cells ad1 fm.params.length cap1 ad2 fm.index.length cap2 ad3 fm.values.length cap3 dp opn xe xf pr
  have hfl := Tryz.fieldF3 (.int .i64 fm.kind) (.string fm.name) (.int .i64 fm.cells) ad1 fm.params.length cap1 (.slice ad2 fm.index.length cap2) (.slice ad3 fm.values.length cap3)
  go_wp2
  go_loop [8] (fun i => ∃ k : Nat, k ≤ fm.params.length ∧ i = .int .i64 k ∧ Rt.parFrom k (fm.params.drop k) x = Rt.parIdx pls n x) (fun i => fm.params.length - (intOf i).toNat)
  case atStart => exact ⟨0, Nat.zero_le _, rfl, (unhide HI).symm⟩
  case round =>
    obtain ⟨k, hk, rfl, hT⟩ := hrel
    have HT := hide hT
    clear hT
    by_cases hlt : k < fm.params.length
    · obtain ⟨g, cap', hv, _, _, cx⟩ := own_cell (unhide HO) (j := k) (u := .string fm.params[k]) (by simp [hlt])
      simp at hv
      obtain ⟨rfl, rfl⟩ := hv
      have hlt' : (k : Int) < (fm.params.length : Int) := by omega
      by_cases hx : fm.params[k] = x
      · have HE := hide (Rt.parFrom_hit (unhide HT) hlt hx)
        have hx' := Rt.str_same hx
        clear hx
        go_wp2
        go_ret
        exact ⟨by rw [unhide HE]; rfl, unhide HB⟩
      · have HE := hide (Rt.parFrom_miss (unhide HT) hlt hx)
        have hx' := Rt.str_ne hx
        clear hx
        go_wp2
        go_round
        case rel => exact ⟨k + 1, by omega, by go_num, unhide HE⟩
        case measure => simp [intOf]; omega
    · have HE := hide (Rt.parFrom_end (unhide HT) hlt)
      have hlt' : ¬ (k : Int) < (fm.params.length : Int) := by omega
      go_wp2
      go_ret
      exact ⟨by rw [unhide HE]; rfl, unhide HB⟩
set_option maxHeartbeats 1000000 in
set_option maxRecDepth 100000 in
theorem isVariable_any (w : World) (P : Nat) (pls : List Rt.PL) (lv : Value) (cs : List (List Value)) (n : Int) (x : ByteArray) (h : ProgS w P pls lv cs) (hlen : pls.length ≤ 101) (hpar : (Rt.formAt pls n).params.length ≤ 1000) :
    Calls Tryz.prog 163 #[.pointer (some ⟨P, 0, none⟩), .int .i64 n, .string x] w fun e w' => e = .returned (.bool (Rt.isVar pls n x)) ∧ Below w.heap.size w w' := by
  go_enter Tryz.func163, Tryz.ntmps163
  go_wp2_with fail
  refine (Param_any _ _ _ _ _ _ x h hpar).mono ?_
  rintro e w1 ⟨rfl, hb1⟩
  have hpi := Rt.parIdx_is pls n x
  generalize Rt.parIdx pls n x = R at *
  cases hp : Rt.isPar pls n x with
  | true =>
    have hR : 0 ≤ R := by rcases hpi with h | h; exact h.2; rw [hp] at h; cases h.1
    clear hpi
    have HE := hide (show Rt.isVar pls n x = true by simp [Rt.isVar, hp])
    have HB := hide hb1
    clear h hp hb1
    go_wp2_with fail
    go_ret
    exact ⟨by rw [unhide HE]; rfl, unhide HB⟩
  | false =>
    have hR : ¬ 0 ≤ R := by rcases hpi with h | h; rw [hp] at h; cases h.1; omega
    clear hpi
    have HE := hide (show Rt.isVar pls n x = decide ((Rt.declForm pls x).kind = 1) by simp [Rt.isVar, hp])
    have h1 := h.later hb1
    have hsz := hb1.size
    clear h hp
    go_wp2_with fail
    refine (declared_any _ _ _ _ _ x h1 hlen).mono ?_
    rintro e w2 ⟨fv, rfl, ⟨pv, iv, vv, vs, rfl, b1, b2, b3, _⟩, hb2⟩
    obtain ⟨ad1, cap1, rfl⟩ := ownsRow_form b1
    obtain ⟨ad2, cap2, rfl⟩ := ownsRow_form b2
    obtain ⟨ad3, cap3, rfl⟩ := ownsRow_form b3
    clear b1 b2 b3
    have hfl := Tryz.fieldF0 (Rt.declForm pls x).kind (.string (Rt.declForm pls x).name) (.int .i64 (Rt.declForm pls x).cells) (.slice ad1 (Rt.declForm pls x).params.length cap1) (.slice ad2 (Rt.declForm pls x).index.length cap2) (.slice ad3 (Rt.declForm pls x).values.length cap3)
    have HB := hide (hb1.trans (hb2.mono (B' := w.heap.size) hsz))
    clear h1 hb1 hb2
    go_wp2_with fail
    go_ret
    exact ⟨by rw [unhide HE]; exact ret_bool (by rw [beq_eq_decide]), unhide HB⟩
set_option maxHeartbeats 1000000 in
set_option maxRecDepth 100000 in
theorem isArray_any (w : World) (P : Nat) (pls : List Rt.PL) (lv : Value) (cs : List (List Value)) (n : Int) (x : ByteArray) (h : ProgS w P pls lv cs) (hlen : pls.length ≤ 101) (hpar : (Rt.formAt pls n).params.length ≤ 1000) :
    Calls Tryz.prog 166 #[.pointer (some ⟨P, 0, none⟩), .int .i64 n, .string x] w fun e w' => e = .returned (.bool (Rt.isArr pls n x)) ∧ Below w.heap.size w w' := by
  go_enter Tryz.func166, Tryz.ntmps166
  go_wp2_with fail
  refine (Param_any _ _ _ _ _ _ x h hpar).mono ?_
  rintro e w1 ⟨rfl, hb1⟩
  have hpi := Rt.parIdx_is pls n x
  generalize Rt.parIdx pls n x = R at *
  cases hp : Rt.isPar pls n x with
  | true =>
    have hR : 0 ≤ R := by rcases hpi with h | h; exact h.2; rw [hp] at h; cases h.1
    clear hpi
    have HE := hide (show Rt.isArr pls n x = false by simp [Rt.isArr, hp])
    have HB := hide hb1
    clear h hp hb1
    go_wp2_with fail
    go_ret
    exact ⟨by rw [unhide HE]; rfl, unhide HB⟩
  | false =>
    have hR : ¬ 0 ≤ R := by rcases hpi with h | h; rw [hp] at h; cases h.1; omega
    clear hpi
    have HE := hide (show Rt.isArr pls n x = decide ((Rt.declForm pls x).kind = 2) by simp [Rt.isArr, hp])
    have h1 := h.later hb1
    have hsz := hb1.size
    clear h hp
    go_wp2_with fail
    refine (declared_any _ _ _ _ _ x h1 hlen).mono ?_
    rintro e w2 ⟨fv, rfl, ⟨pv, iv, vv, vs, rfl, b1, b2, b3, _⟩, hb2⟩
    obtain ⟨ad1, cap1, rfl⟩ := ownsRow_form b1
    obtain ⟨ad2, cap2, rfl⟩ := ownsRow_form b2
    obtain ⟨ad3, cap3, rfl⟩ := ownsRow_form b3
    clear b1 b2 b3
    have hfl := Tryz.fieldF0 (Rt.declForm pls x).kind (.string (Rt.declForm pls x).name) (.int .i64 (Rt.declForm pls x).cells) (.slice ad1 (Rt.declForm pls x).params.length cap1) (.slice ad2 (Rt.declForm pls x).index.length cap2) (.slice ad3 (Rt.declForm pls x).values.length cap3)
    have HB := hide (hb1.trans (hb2.mono (B' := w.heap.size) hsz))
    clear h1 hb1 hb2
    go_wp2_with fail
    go_ret
    exact ⟨by rw [unhide HE]; exact ret_bool (by rw [beq_eq_decide]), unhide HB⟩
theorem popsCells_get : ∀ (ts : List Pop) (i : Nat) (h : i < ts.length), (popsCells ts)[i * 3]? = some (.int .i64 ts[i].code) ∧ (popsCells ts)[i * 3 + 1]? = some (.int .i64 ts[i].number) ∧ (popsCells ts)[i * 3 + 2]? = some (.string ts[i].name)
  | [], i, h => by simp at h
  | t :: r, 0, _ => by simp [popsCells, popCells]
  | t :: r, i + 1, h => by
    have ih := popsCells_get r i (by simpa using h)
    have e : popsCells (t :: r) = [Value.int .i64 t.code, Value.int .i64 t.number, Value.string t.name] ++ popsCells r := by simp [popsCells, popCells]
    have e2 : (i + 1) * 3 = i * 3 + 3 := by omega
    rw [e, e2]
    simpa using ih
theorem own_three {w : World} {B : Nat} {ad : Option Addr} {cap : Nat} {ops : List Pop} (h : w.ownsRow B 236 3 (.slice ad ops.length cap) ops.length (popsCells ops)) {k : Nat} (hk : k < ops.length) :
    ∃ g, ad = some ⟨g, 0, none⟩ ∧ w.cell? ⟨g, k * 3, none⟩ = some (.int .i64 ops[k].code) ∧ w.cell? ⟨g, k * 3 + 1, none⟩ = some (.int .i64 ops[k].number) ∧ w.cell? ⟨g, k * 3 + 2, none⟩ = some (.string ops[k].name) := by
  obtain ⟨e0, e1, e2⟩ := popsCells_get ops k hk
  obtain ⟨g, c, hv, _, _, x0⟩ := own_cell h e0
  obtain ⟨g1, c1, hv1, _, _, x1⟩ := own_cell h e1
  obtain ⟨g2, c2, hv2, _, _, x2⟩ := own_cell h e2
  simp at hv hv1 hv2
  rw [hv.1] at hv1 hv2
  simp at hv1 hv2
  refine ⟨g, hv.1, x0, ?_, ?_⟩
  · rw [hv1.1]; exact x1
  · rw [hv2.1]; exact x2
theorem all_end {ops : List Pop} {f : Pop → Bool} {k : Nat} {b : Bool} (h : (ops.drop k).all f = b) (hk : ¬ k < ops.length) : b = true := by
  rw [List.drop_eq_nil_of_le (by omega)] at h
  exact h.symm
theorem all_no {ops : List Pop} {f : Pop → Bool} {k : Nat} {b : Bool} (h : (ops.drop k).all f = b) (hk : k < ops.length) (hd : f ops[k] = false) : b = false := by
  rw [List.drop_eq_getElem_cons hk, List.all_cons, hd] at h
  exact h.symm
theorem all_yes {ops : List Pop} {f : Pop → Bool} {k : Nat} {b : Bool} (h : (ops.drop k).all f = b) (hk : k < ops.length) (hd : f ops[k] = true) : (ops.drop (k + 1)).all f = b := by
  rw [List.drop_eq_getElem_cons hk, List.all_cons, hd] at h
  exact h
set_option maxHeartbeats 2000000 in
set_option maxRecDepth 100000 in
theorem expressionFits_any (w : World) (P : Nat) (pls : List Rt.PL) (lv : Value) (cs : List (List Value)) (n : Int) (ad : Option Addr) (cap : Nat) (ops : List Pop) (h : ProgS w P pls lv cs) (hlen : pls.length ≤ 101) (hpar : (Rt.formAt pls n).params.length ≤ 1000)
    (hx : w.ownsRow (P + 1) 236 3 (.slice ad ops.length cap) ops.length (popsCells ops)) (hops : ops.length ≤ 1000) :
    Calls Tryz.prog 202 #[.pointer (some ⟨P, 0, none⟩), .int .i64 n, .agg #[.slice ad ops.length cap]] w fun e w' => e = .returned (.bool (Rt.exFit pls n ops)) ∧ Below w.heap.size w w' := by
  have hb0 := (Below.refl w.heap.size w).alloc (Nat.le_refl _) (.cells #[.slice ad ops.length cap] 140)
  have hE0 := heap_alloc_new w (.cells #[.slice ad ops.length cap] 140)
  have h0 := h.later hb0
  have hx0 := own_later hx hb0
  clear h hx
  go_enter Tryz.func202, Tryz.ntmps202
  go_wp2_with fail
  go_loopw [7, 8] (fun i _ wr => ∃ k : Nat, k ≤ ops.length ∧ i = .int .i64 k ∧ (ops.drop k).all (Rt.opFit pls n) = Rt.exFit pls n ops ∧ ProgS wr P pls lv cs ∧ wr.heap[w.heap.size]? = some (.cells #[.slice ad ops.length cap] 140 (0, 0)) ∧
      wr.ownsRow (P + 1) 236 3 (.slice ad ops.length cap) ops.length (popsCells ops) ∧ Below w.heap.size w wr)
    (fun i _ _ => ops.length - (intOf i).toNat)
  case atStart => exact ⟨0, Nat.zero_le _, rfl, rfl, h0, hE0, hx0, hb0⟩
  case round =>
    clear h0 hE0 hx0 hb0
    obtain ⟨k, hk, rfl, hT, hpr, hE, hx, hbe⟩ := hrel
    have HT := hide hT
    clear hT
    have cE := cell_of_block hE 0 (by simp)
    simp at cE
    have hsz := hbe.size
    have hElt := block_lt hE
    by_cases hlt : k < ops.length
    · obtain ⟨g, rfl, o0, o1, o2⟩ := own_three hx hlt
      have hlt' : (k : Int) < (ops.length : Int) := by omega
      have hbA := (Below.refl wr.heap.size wr).alloc (Nat.le_refl _) (.cells #[.int .i64 ops[k].code, .int .i64 ops[k].number, .string ops[k].name] 236)
      have hprA := hpr.later hbA
      have hEA := block_later hE hbA
      have hxA := own_later hx hbA
      have hbeA := hbe.trans (hbA.mono (B' := w.heap.size) hsz)
      have hLA := heap_alloc_new wr (.cells #[.int .i64 ops[k].code, .int .i64 ops[k].number, .string ops[k].name] 236)
      have HN := hide (all_no (unhide HT) hlt)
      have HY := hide (all_yes (unhide HT) hlt)
      have HF := hide (show Rt.opFit pls n ops[k] = (if ops[k].code = 2 then Rt.isVar pls n ops[k].name else if ops[k].code = 3 then Rt.isArr pls n ops[k].name else true) from rfl)
      clear hpr hE hx hbe
      generalize ops[k] = o at *
      by_cases h2 : o.code = 2
      · have h2' : (o.code == 2) = true := by simpa using h2
        have h3' : (o.code == 3) = false := by rw [h2]; rfl
        have HF2 := hide ((unhide HF).trans (if_pos h2))
        clear h2
        go_wp2_with fail
        refine (isVariable_any _ _ _ _ _ _ o.name hprA hlen hpar).mono ?_
        rintro e w2 ⟨rfl, hb2⟩
        have hL2 := block_later hLA hb2
        have c0 := cell_of_block hL2 0 (by simp)
        simp at c0
        cases hv : Rt.isVar pls n o.name with
        | true =>
          have HG := hide (And.intro (unhide HY ((unhide HF2).trans hv)) (And.intro (hprA.later hb2) (And.intro (block_later hEA hb2) (And.intro (own_later hxA hb2) (hbeA.trans (hb2.mono (B' := w.heap.size) (by have := hbA.size; omega)))))))
          clear hprA hEA hxA hbeA hLA hL2 hb2 hv
          go_wp2_with fail
          go_roundw
          case rel =>
            obtain ⟨q1, q2, q3, q4, q5⟩ := unhide HG
            exact ⟨k + 1, by omega, by go_num, q1, q2, q3, q4, q5⟩
          case measure => simp [intOf]; omega
        | false =>
          have HG := hide (And.intro (unhide HN ((unhide HF2).trans hv)) (hbeA.trans (hb2.mono (B' := w.heap.size) (by have := hbA.size; omega))))
          clear hprA hEA hxA hbeA hLA hL2 hb2 hv
          go_wp2_with fail
          go_ret
          exact ⟨by rw [(unhide HG).1]; rfl, (unhide HG).2⟩
      have h2' : (o.code == 2) = false := by simpa using h2
      by_cases h3 : o.code = 3
      · have h3' : (o.code == 3) = true := by simpa using h3
        have HF2 := hide ((unhide HF).trans ((if_neg h2).trans (if_pos h3)))
        clear h2 h3
        go_wp2_with fail
        refine (isArray_any _ _ _ _ _ _ o.name hprA hlen hpar).mono ?_
        rintro e w2 ⟨rfl, hb2⟩
        cases hv : Rt.isArr pls n o.name with
        | true =>
          have HG := hide (And.intro (unhide HY ((unhide HF2).trans hv)) (And.intro (hprA.later hb2) (And.intro (block_later hEA hb2) (And.intro (own_later hxA hb2) (hbeA.trans (hb2.mono (B' := w.heap.size) (by have := hbA.size; omega)))))))
          clear hprA hEA hxA hbeA hLA hb2 hv
          go_wp2_with fail
          go_roundw
          case rel =>
            obtain ⟨q1, q2, q3, q4, q5⟩ := unhide HG
            exact ⟨k + 1, by omega, by go_num, q1, q2, q3, q4, q5⟩
          case measure => simp [intOf]; omega
        | false =>
          have HG := hide (And.intro (unhide HN ((unhide HF2).trans hv)) (hbeA.trans (hb2.mono (B' := w.heap.size) (by have := hbA.size; omega))))
          clear hprA hEA hxA hbeA hLA hb2 hv
          go_wp2_with fail
          go_ret
          exact ⟨by rw [(unhide HG).1]; rfl, (unhide HG).2⟩
      · have h3' : (o.code == 3) = false := by simpa using h3
        have HF2 := hide ((unhide HF).trans ((if_neg h2).trans (if_neg h3)))
        clear h2 h3
        have HG := hide (And.intro (unhide HY (unhide HF2)) (And.intro hprA (And.intro hEA (And.intro hxA hbeA))))
        clear hprA hEA hxA hbeA hLA
        go_wp2_with fail
        go_roundw
        case rel =>
          obtain ⟨q1, q2, q3, q4, q5⟩ := unhide HG
          exact ⟨k + 1, by omega, by go_num, q1, q2, q3, q4, q5⟩
        case measure => simp [intOf]; omega
    · have HE := hide (all_end (unhide HT) hlt)
      have hlt' : ¬ (k : Int) < (ops.length : Int) := by omega
      have HB := hide hbe
      clear hpr hE hx hbe
      go_wp2_with fail
      go_ret
      exact ⟨by rw [unhide HE]; rfl, unhide HB⟩
end Go.Proofs.YthleadfkfnnadaaGreat
