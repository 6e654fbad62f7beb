/- Two sessions beside each other. -/
import Derived.Test.YtbpajiljfppjcaaGreatDoorSeD
import Derived.Test.YtbpajiljfppjcaaGreatDoorSeC
namespace Go.Proofs.YtbpajiljfppjcaaGreatDoor
open Go.RowKit
attribute [local go_sem ↓] Go.wp_at_zero Go.wp_at_succ

theorem valsC_len (S : Rt.Src) (m : Rt.Mc) : ∀ k, (Rt.valsC S m k).length = 2 * k
  | 0 => rfl
  | k + 1 => by rw [Rt.valsC, List.length_append, valsC_len S m k]; rfl
theorem values_len (S : Rt.Src) (m : Rt.Mc) : (Rt.valuesL S m).length = 18 := by
  unfold Rt.valuesL
  rw [List.length_append, valsC_len]
  rfl
/-- A view of a place, apart from a session. -/
structure Vw (w : World) (P : Nat) (X : McX) (jv : Value) (S : Rt.Src) (n : Nat) (va vc vo : Value) : Prop where
  a : w.ownsRow 0 3 1 va (Rt.valuesL S (Rt.atM S n)).length (intsV (Rt.valuesL S (Rt.atM S n)))
  c : w.ownsRow 0 3 1 vc (Rt.callsL (Rt.atM S n)).length (intsV (Rt.callsL (Rt.atM S n)))
  o : w.ownsRow 0 3 1 vo (Rt.atM S n).output.length (intsV (Rt.atM S n).output)
  pa : ∀ g, va.ownBlock = some g → g ∉ ownL P X jv
  pc : ∀ g, vc.ownBlock = some g → g ∉ ownL P X jv
  po : ∀ g, vo.ownBlock = some g → g ∉ ownL P X jv
def vwA (S : Rt.Src) (n : Nat) (va vc vo : Value) : Array Value := vwC (Rt.atM S n).fin (Rt.atM S n).line ((Rt.atM S n).frames.length : Int) n va vc vo
section
variable {w w' : World} {P B : Nat} {S : Rt.Src} {cap : Int} {n low : Nat} {mk : List Bool} {X X' : McX} {jv jv' : Value} {s' : Rt.Se} {va vc vo : Value}
theorem Vw.later (h : Vw w P X jv S n va vc vo) (hb : Below w.heap.size w w') : Vw w' P X jv S n va vc vo := ⟨own_later h.a hb, own_later h.c hb, own_later h.o hb, h.pa, h.pc, h.po⟩
theorem Vw.after (h : Vw w P X jv S n va vc vo) (hA : SAft P B S cap X X' jv jv' s' w w') : Vw w' P X' jv' S n va vc vo :=
  ⟨(hA.rowKept h.a h.pa).1, (hA.rowKept h.c h.pc).1, (hA.rowKept h.o h.po).1, (hA.rowKept h.a h.pa).2, (hA.rowKept h.c h.pc).2, (hA.rowKept h.o h.po).2⟩
theorem Vw.forms (h : Vw w P X jv S n va vc vo) : ∃ a1 c1 a2 c2 a3 c3, va = .slice a1 (Rt.valuesL S (Rt.atM S n)).length c1 ∧ vc = .slice a2 (Rt.callsL (Rt.atM S n)).length c2 ∧ vo = .slice a3 (Rt.atM S n).output.length c3 := by
  obtain ⟨a1, c1, e1⟩ := ownsRow_form h.a
  obtain ⟨a2, c2, e2⟩ := ownsRow_form h.c
  obtain ⟨a3, c3, e3⟩ := ownsRow_form h.o
  exact ⟨a1, c1, a2, c2, a3, c3, e1, e2, e3⟩
theorem Sess.look (h : Sess w P B S cap n low mk X jv) (hc : Cst S cap mk) :
    Calls Tryz.prog 25 #[.pointer (some ⟨P, 0, none⟩)] w fun e w' => Below w.heap.size w w' ∧ ∃ va vc vo, e = .returned (.agg (vwA S n va vc vo)) ∧ Vw w' P X jv S n va vc vo := by
  refine (look_any w P B S cap n low mk X jv h hc _ rfl _ _ _ rfl rfl rfl).mono ?_
  rintro e w' ⟨hb, va, vc, vo, he, h1, h2, h3⟩
  have hx : ∀ g, w.heap.size ≤ g → g ∉ ownL P X jv := fun g hg hm => by have := h.ses.own_lt hm; omega
  exact ⟨hb, va, vc, vo, he, ownsRow_mono h1 (Nat.zero_le _), ownsRow_mono h2 (Nat.zero_le _), ownsRow_mono h3 (Nat.zero_le _), fun g hg => hx g (h1.lt g hg).1, fun g hg => hx g (h2.lt g hg).1, fun g hg => hx g (h3.lt g hg).1⟩
theorem views_same {P2 : Nat} {X2 : McX} {jv2 va' vc' vo' : Value} (h : Vw w P X jv S n va vc vo) (h' : Vw w P2 X2 jv2 S n va' vc' vo') (hS : Plc S) :
    Calls Tryz.prog 26 #[.agg (vwA S n va vc vo), .agg (vwA S n va' vc' vo')] w fun e w' => e = .returned (.bool true) ∧ Below w.heap.size w w' := by
  have hk := hS.keep n
  refine sameView_same w 0 0 va vc vo va' vc' vo' _ _ _ _ _ _ _ h.a h.c h.o h'.a h'.c h'.o (by rw [values_len]; omega) ?_ (by have := hk.out; omega)
  unfold Rt.callsL
  rw [List.length_map, List.length_drop]
  have := hk.hi
  omega
end
/-- What a function of the statements keeps of its session, its own blocks and views. -/
structure UnI (w wr : World) (P B : Nat) (S : Rt.Src) (cap : Int) (mk : List Bool) (X0 : McX) (jv0 : Value) (n low : Nat) (X : McX) (jv : Value) (bl : List (Nat × Array Value × TypeId)) (vs : List (Nat × Value × Value × Value)) : Prop where
  aft : SAft P B S cap X0 X jv0 jv (Rt.seAt S n low mk) w wr
  ok : Rt.SeOk S cap n low
  bls : ∀ b ∈ bl, wr.heap[b.1]? = some (.cells b.2.1 b.2.2 (0, 0)) ∧ w.heap.size ≤ b.1 ∧ OutTy b.2.2
  vws : ∀ v ∈ vs, Vw wr P X jv S v.1 v.2.1 v.2.2.1 v.2.2.2
section
variable {w wr w2 : World} {P B : Nat} {S : Rt.Src} {cap : Int} {mk : List Bool} {X0 X X2 : McX} {jv0 jv jv2 : Value} {n low n2 low2 : Nat} {bl : List (Nat × Array Value × TypeId)} {vs : List (Nat × Value × Value × Value)}
theorem UnI.sess (h : UnI w wr P B S cap mk X0 jv0 n low X jv bl vs) : Sess wr P B S cap n low mk X jv := ⟨h.aft.ses, h.ok⟩
theorem UnI.start (h : Sess w P B S cap n low mk X jv) : UnI w w P B S cap mk X jv n low X jv [] [] := ⟨SAft.start h.ses (Below.refl _ _), h.ok, fun _ h => by simp at h, fun _ h => by simp at h⟩
theorem UnI.later (h : UnI w wr P B S cap mk X0 jv0 n low X jv bl vs) (hb : Below wr.heap.size wr w2) : UnI w w2 P B S cap mk X0 jv0 n low X jv bl vs :=
  ⟨h.aft.below hb, h.ok, fun b hm => ⟨block_later (h.bls b hm).1 hb, (h.bls b hm).2⟩, fun v hm => (h.vws v hm).later hb⟩
theorem UnI.alloc (h : UnI w wr P B S cap mk X0 jv0 n low X jv bl vs) (c : Array Value) (t : TypeId) (ht : OutTy t) : UnI w (wr.alloc (.cells c t)) P B S cap mk X0 jv0 n low X jv ((wr.heap.size, c, t) :: bl) vs := by
  have hb := (Below.refl wr.heap.size wr).alloc (Nat.le_refl _) (.cells c t)
  have h2 := h.later hb
  refine ⟨h2.aft, h2.ok, fun b hm => ?_, h2.vws⟩
  rcases List.mem_cons.mp hm with rfl | hm
  · exact ⟨heap_alloc_new wr _, h.aft.frm.size, ht⟩
  · exact h2.bls b hm
theorem UnI.move (h : UnI w wr P B S cap mk X0 jv0 n low X jv bl vs) (hA : SAft P B S cap X X2 jv jv2 (Rt.seAt S n2 low2 mk) wr w2) (hk : Rt.SeOk S cap n2 low2) : UnI w w2 P B S cap mk X0 jv0 n2 low2 X2 jv2 bl vs :=
  ⟨h.aft.trans hA, hk, fun b hm => ⟨SAft.keeps h.aft.ses hA (h.bls b hm).1 (by have := (h.bls b hm).2.1; have := h.aft.lt; omega) (h.bls b hm).2.2, (h.bls b hm).2⟩, fun v hm => (h.vws v hm).after hA⟩
theorem UnI.view (h : UnI w wr P B S cap mk X0 jv0 n low X jv bl vs) {k : Nat} {va vc vo : Value} (hv : Vw wr P X jv S k va vc vo) : UnI w wr P B S cap mk X0 jv0 n low X jv bl ((k, va, vc, vo) :: vs) :=
  ⟨h.aft, h.ok, h.bls, fun v hm => by
    rcases List.mem_cons.mp hm with rfl | hm
    · exact hv
    · exact h.vws v hm⟩
theorem UnI.fewer (h : UnI w wr P B S cap mk X0 jv0 n low X jv bl vs) {bl' : List (Nat × Array Value × TypeId)} {vs' : List (Nat × Value × Value × Value)} (h1 : ∀ b ∈ bl', b ∈ bl) (h2 : ∀ v ∈ vs', v ∈ vs) : UnI w wr P B S cap mk X0 jv0 n low X jv bl' vs' := ⟨h.aft, h.ok, fun b hm => h.bls b (h1 b hm), fun v hm => h.vws v (h2 v hm)⟩
theorem Vw.set1 {w : World} {P : Nat} {X : McX} {jv : Value} {S : Rt.Src} {n : Nat} {va vc vo : Value} (h : Vw w P X jv S n va vc vo) {N i : Nat} {c : Array Value} {t : TypeId} (hN : w.heap[N]? = some (.cells c t (0, 0))) (ht : OutTy t) (u : Value) : Vw (w.setCell ⟨N, i, none⟩ u) P X jv S n va vc vo := by
  have hx : ∀ {v : Value} {k : Nat} {xs : List Value}, w.ownsRow 0 3 1 v k xs → ∀ g, v.ownBlock = some g → g ≠ N := fun hr g hg e => by
    obtain ⟨c', hc⟩ := own_blk hr hg
    rw [e, hN] at hc
    injection hc with hc
    injection hc with _ hc
    exact ht.2.1 hc
  exact ⟨own_set1 h.a (hx h.a) u, own_set1 h.c (hx h.c) u, own_set1 h.o (hx h.o) u, h.pa, h.pc, h.po⟩
theorem UnI.set1 {N : Nat} {c : Array Value} {t : TypeId} (h : UnI w wr P B S cap mk X0 jv0 n low X jv ((N, c, t) :: bl) vs) (hne : ∀ b ∈ bl, b.1 ≠ N) (i : Nat) (u : Value) : UnI w (wr.setCell ⟨N, i, none⟩ u) P B S cap mk X0 jv0 n low X jv ((N, c.setIfInBounds i u, t) :: bl) vs := by
  obtain ⟨h1, h2, h3⟩ := h.bls (N, c, t) (List.mem_cons_self ..)
  refine ⟨h.aft.other h1 h2 h3 i u, h.ok, fun b hm => ?_, fun v hm => (h.vws v hm).set1 h1 h3 u⟩
  rcases List.mem_cons.mp hm with rfl | hm
  · exact ⟨set_block h1 i u, h2, h3⟩
  · obtain ⟨g1, g2⟩ := h.bls b (List.mem_cons_of_mem _ hm)
    exact ⟨(Below.heap_setCell wr ⟨N, i, none⟩ u b.1 (hne b hm)).trans g1, g2⟩
theorem UnI.set6 {N : Nat} {v0 v1 v2 v3 v4 v5 : Value} {t : TypeId} (h : UnI w wr P B S cap mk X0 jv0 n low X jv ((N, #[v0, v1, v2, v3, v4, v5], t) :: bl) vs) (hne : ∀ b ∈ bl, b.1 ≠ N) (a0 a1 a2 a3 a4 a5 : Value) : UnI w (W6 wr N a0 a1 a2 a3 a4 a5) P B S cap mk X0 jv0 n low X jv ((N, #[a0, a1, a2, a3, a4, a5], t) :: bl) vs := by
  have := (((((h.set1 hne 0 a0).set1 hne 1 a1).set1 hne 2 a2).set1 hne 3 a3).set1 hne 4 a4).set1 hne 5 a5
  simpa using this
end
end Go.Proofs.YtbpajiljfppjcaaGreatDoor

namespace Go.Proofs.YtbpajiljfppjcaaGreatDoor
open Go.RowKit
attribute [local go_sem ↓] Go.wp_at_zero Go.wp_at_succ

theorem cellb2_lt {w : World} {b o : Nat} {v : Value} (h : w.cell? ⟨b, o, none⟩ = some v) : b < w.heap.size := by
  unfold World.cell? at h
  split at h
  · rename_i hb; exact (Array.getElem?_eq_some_iff.1 hb).1
  · cases h
def mk0 : List Bool := List.replicate 101 false
theorem plc_of {s : ByteArray} {pls : List Rt.PL} {inp : List Int} (hR : Rt.readS s = (0, 0, pls)) (hl : inp.length ≤ 100) : Plc (srcOf s pls inp) := ⟨good_of hR hl, call4_of hR, first_keepG (good_of hR hl)⟩
theorem begun_at (s : ByteArray) (iv : Value) (inp : List Int) (cap : Int) (w : World) (pls : List Rt.PL) (hs : s.size ≤ maxLen) (hi : Ints w iv inp) (hR : Rt.readS s = (0, 0, pls)) (hl : inp.length ≤ 100) (hc : 5 ≤ cap ∧ cap ≤ 500) :
    Calls Tryz.prog 15 #[.string s, iv, .int .i64 cap] w fun e w' => Below w.heap.size w w' ∧ ∃ P B X jv, e = .returned (.pointer (some ⟨P, 0, none⟩)) ∧ (∀ k ∈ ownL P X jv, w.heap.size ≤ k) ∧ Sess w' P B (srcOf s pls inp) cap 0 0 mk0 X jv := by
  refine (begun_any s iv inp cap w pls hs hi hR hl hc).mono ?_
  rintro e w' ⟨hb, P, B, X, he, hP, hX, hses⟩
  refine ⟨hb, P, B, X, .slice none 0 0, he, fun k hk => ?_, hses, ⟨fun i hi => by omega, Nat.le_refl _, ?_⟩⟩
  · rcases in_ownL hk with e | e | e
    · omega
    · exact hX k e
    · cases e
  · show ((0 : Nat) : Int) ≤ cap
    omega
theorem six_set {w : World} {b : Nat} {v0 v1 v2 v3 v4 v5 : Value} {t : TypeId} (h : w.heap[b]? = some (.cells #[v0, v1, v2, v3, v4, v5] t (0, 0))) (a0 a1 a2 a3 a4 a5 : Value) : (W6 w b a0 a1 a2 a3 a4 a5).heap[b]? = some (.cells #[a0, a1, a2, a3, a4, a5] t (0, 0)) := by
  have := set_block (set_block (set_block (set_block (set_block (set_block h 0 a0) 1 a1) 2 a2) 3 a3) 4 a4) 5 a5
  simpa using this
theorem ints_at {w : World} {N : Nat} {ad : Option Addr} {cap : Nat} {l : List Int} (h : IntsR w N (.slice ad l.length cap) l) {k : Nat} (hk : k < l.length) : ∃ b off, ad = some ⟨b, off, none⟩ ∧ b < w.heap.size ∧ w.cell? ⟨b, off + k, none⟩ = some (.int .i64 l[k]) := by
  obtain ⟨ad', cap', h1, _, _, _, h5⟩ := h
  simp at h1
  obtain ⟨rfl, rfl⟩ := h1
  rcases h5 with h5 | ⟨b, off, h6, h7, h8, h9⟩
  · rw [h5] at hk; simp at hk
  · exact ⟨b, off, h6, cellb2_lt (h9 k hk), h9 k hk⟩
theorem ints_in {w : World} {N : Nat} {v : Value} {l : List Int} (h : IntsR w N v l) {k : Nat} (hk : k < l.length) : -9223372036854775808 ≤ l[k] ∧ l[k] ≤ 9223372036854775807 := by
  obtain ⟨ad', cap', _, _, _, h4, _⟩ := h
  exact h4 _ (List.getElem_mem hk)
theorem first_fin (S : Rt.Src) : (Rt.atM S 0).fin = 0 := rfl
end Go.Proofs.YtbpajiljfppjcaaGreatDoor

namespace Go.Proofs.YtbpajiljfppjcaaGreatDoor
open Go.RowKit

/-- Another session's blocks, and the program's, stay. -/
theorem SesS.away {w w' : World} {P B : Nat} {S : Rt.Src} {cap : Int} {s s' : Rt.Se} {X X' : McX} {jv jv' : Value} {P2 B2 : Nat} {S2 : Rt.Src} {cap2 : Int} {s2 : Rt.Se} {X2 : McX} {jv2 : Value} (hb : SesS w P2 B2 S2 cap2 s2 X2 jv2) (ha : SesS w P B S cap s X jv) (hA : SAft P B S cap X X' jv jv' s' w w') (hd : ∀ k ∈ ownL P2 X2 jv2, k ∉ ownL P X jv) : SesS w' P2 B2 S2 cap2 s2 X2 jv2 := by
  have hk : ∀ k ∈ ownL P2 X2 jv2, w'.heap[k]? = w.heap[k]? := fun k hm => hA.kept (hb.own_lt hm) (hd k hm)
  refine ⟨hb.mc.next ((hk P2 (ownL_in (Or.inl rfl))).trans hb.mc.block) hA.frm.size ?_ ⟨fun r hr => own_same (hb.mc.own.rows r hr) (fun g hg => hk g (ownL_in (Or.inr (Or.inl ?_)))), hb.mc.own.apart⟩ rfl rfl hb.mc.fl hb.mc.vl, own_same hb.jr (fun g hg => hk g (ownL_in (Or.inr (Or.inr hg))))⟩
  · intro k x hx _ hp
    obtain ⟨c, t, rfl, hp⟩ := hp
    refine (hA.kept (block_lt hx) (fun hm => ?_)).trans hx
    rcases in_ownL hm with e | e | e
    · rw [e, ha.mc.block] at hx
      injection hx with hx
      injection hx with _ hx
      rw [← hx] at hp
      exact absurd hp (by unfold PTy; decide)
    · rw [← ha.mc.blks] at e
      refine rows_not ha.mc.own hx ⟨fun e => ?_, fun e => ?_, fun e => ?_⟩ e
      · rw [e] at hp; exact absurd hp (by unfold PTy; decide)
      · rw [e] at hp; exact absurd hp (by unfold PTy; decide)
      · rw [e] at hp; exact absurd hp (by unfold PTy; decide)
    · obtain ⟨c', hc⟩ := own_blk ha.jr e
      rw [hx] at hc
      injection hc with hc
      injection hc with _ hc
      rw [hc] at hp
      exact absurd hp (by unfold PTy; decide)
  · rw [← hb.mc.blks]
    exact List.mem_filterMap.mpr ⟨r, hr, hg⟩
/-- What a function of the statements keeps of two sessions and its own blocks. -/
structure TwI (w wr : World) (Pa Ba Pb Bb : Nat) (S : Rt.Src) (ca cb : Int) (mk mkb : List Bool) (na la : Nat) (Xa : McX) (ja : Value) (nb lb : Nat) (Xb : McX) (jb : Value) (bl : List (Nat × Array Value × TypeId)) : Prop where
  below : Below w.heap.size w wr
  a : Sess wr Pa Ba S ca na la mk Xa ja
  b : Sess wr Pb Bb S cb nb lb mkb Xb jb
  oa : ∀ k ∈ ownL Pa Xa ja, w.heap.size ≤ k
  ob : ∀ k ∈ ownL Pb Xb jb, w.heap.size ≤ k
  dis : ∀ k ∈ ownL Pa Xa ja, k ∉ ownL Pb Xb jb
  bls : ∀ b ∈ bl, wr.heap[b.1]? = some (.cells b.2.1 b.2.2 (0, 0)) ∧ w.heap.size ≤ b.1 ∧ OutTy b.2.2 ∧ b.2.2 ≠ 93
section
variable {w wr w2 : World} {Pa Ba Pb Bb : Nat} {S : Rt.Src} {ca cb : Int} {mk mkb mk2 : List Bool} {na la nb lb n2 l2 : Nat} {Xa Xb X2 : McX} {ja jb j2 : Value} {bl : List (Nat × Array Value × TypeId)}
theorem blk_ne {w : World} {P B : Nat} {S : Rt.Src} {cap : Int} {s : Rt.Se} {X : McX} {jv : Value} (h : SesS w P B S cap s X jv) {N : Nat} {c : Array Value} {t : TypeId} (hN : w.heap[N]? = some (.cells c t (0, 0))) (ht : t ≠ 93) : N ≠ P := fun e => by
  rw [e, h.mc.block] at hN
  injection hN with hN
  injection hN with _ hN
  exact ht hN.symm
theorem TwI.later (h : TwI w wr Pa Ba Pb Bb S ca cb mk mkb na la Xa ja nb lb Xb jb bl) (hb : Below wr.heap.size wr w2) : TwI w w2 Pa Ba Pb Bb S ca cb mk mkb na la Xa ja nb lb Xb jb bl :=
  ⟨h.below.trans (hb.mono h.below.size), h.a.later hb, h.b.later hb, h.oa, h.ob, h.dis, fun b hm => ⟨block_later (h.bls b hm).1 hb, (h.bls b hm).2⟩⟩
theorem TwI.alloc (h : TwI w wr Pa Ba Pb Bb S ca cb mk mkb na la Xa ja nb lb Xb jb bl) (c : Array Value) (t : TypeId) (ht : OutTy t ∧ t ≠ 93) : TwI w (wr.alloc (.cells c t)) Pa Ba Pb Bb S ca cb mk mkb na la Xa ja nb lb Xb jb ((wr.heap.size, c, t) :: bl) := by
  have h2 := h.later ((Below.refl wr.heap.size wr).alloc (Nat.le_refl _) (.cells c t))
  refine ⟨h2.below, h2.a, h2.b, h2.oa, h2.ob, h2.dis, fun b hm => ?_⟩
  rcases List.mem_cons.mp hm with rfl | hm
  · exact ⟨heap_alloc_new wr _, h.below.size, ht⟩
  · exact h2.bls b hm
theorem TwI.moveA (h : TwI w wr Pa Ba Pb Bb S ca cb mk mkb na la Xa ja nb lb Xb jb bl) (hA : SAft Pa Ba S ca Xa X2 ja j2 (Rt.seAt S n2 l2 mk2) wr w2) (hk : Rt.SeOk S ca n2 l2) : TwI w w2 Pa Ba Pb Bb S ca cb mk2 mkb n2 l2 X2 j2 nb lb Xb jb bl := by
  have hd : ∀ k ∈ ownL Pb Xb jb, k ∉ ownL Pa Xa ja := fun k hm hm' => h.dis k hm' hm
  refine ⟨h.below.trans (hA.low h.below.size h.oa), ⟨hA.ses, hk⟩, ⟨h.b.ses.away h.a.ses hA hd, h.b.ok⟩, hA.high h.below.size h.oa, h.ob, fun k hm hm' => ?_, fun b hm => ?_⟩
  · rcases hA.owns hm with e | e
    · exact h.dis k e hm'
    · have := h.b.ses.own_lt hm'; omega
  · obtain ⟨h1, h2, h3, h4⟩ := h.bls b hm
    exact ⟨SAft.keeps h.a.ses hA h1 (blk_ne h.a.ses h1 h4) h3, h2, h3, h4⟩
theorem TwI.moveB (h : TwI w wr Pa Ba Pb Bb S ca cb mk mkb na la Xa ja nb lb Xb jb bl) (hA : SAft Pb Bb S cb Xb X2 jb j2 (Rt.seAt S n2 l2 mk2) wr w2) (hk : Rt.SeOk S cb n2 l2) : TwI w w2 Pa Ba Pb Bb S ca cb mk mk2 na la Xa ja n2 l2 X2 j2 bl := by
  refine ⟨h.below.trans (hA.low h.below.size h.ob), ⟨h.a.ses.away h.b.ses hA h.dis, h.a.ok⟩, ⟨hA.ses, hk⟩, h.oa, hA.high h.below.size h.ob, fun k hm hm' => ?_, fun b hm => ?_⟩
  · rcases hA.owns hm' with e | e
    · exact h.dis k hm e
    · have := h.a.ses.own_lt hm; omega
  · obtain ⟨h1, h2, h3, h4⟩ := h.bls b hm
    exact ⟨SAft.keeps h.b.ses hA h1 (blk_ne h.b.ses h1 h4) h3, h2, h3, h4⟩
theorem TwI.fewer (h : TwI w wr Pa Ba Pb Bb S ca cb mk mkb na la Xa ja nb lb Xb jb bl) {bl' : List (Nat × Array Value × TypeId)} (h1 : ∀ b ∈ bl', b ∈ bl) : TwI w wr Pa Ba Pb Bb S ca cb mk mkb na la Xa ja nb lb Xb jb bl' := ⟨h.below, h.a, h.b, h.oa, h.ob, h.dis, fun b hm => h.bls b (h1 b hm)⟩
theorem TwI.set1 {N : Nat} {c : Array Value} {t : TypeId} (h : TwI w wr Pa Ba Pb Bb S ca cb mk mkb na la Xa ja nb lb Xb jb ((N, c, t) :: bl)) (hne : ∀ b ∈ bl, b.1 ≠ N) (i : Nat) (u : Value) : TwI w (wr.setCell ⟨N, i, none⟩ u) Pa Ba Pb Bb S ca cb mk mkb na la Xa ja nb lb Xb jb ((N, c.setIfInBounds i u, t) :: bl) := by
  obtain ⟨h1, h2, h3, h4⟩ := h.bls (N, c, t) (List.mem_cons_self ..)
  refine ⟨h.below.setCell (p := ⟨N, i, none⟩) h2 u, ⟨h.a.ses.other h1 (blk_ne h.a.ses h1 h4) h3 i u, h.a.ok⟩, ⟨h.b.ses.other h1 (blk_ne h.b.ses h1 h4) h3 i u, h.b.ok⟩, h.oa, h.ob, h.dis, fun b hm => ?_⟩
  rcases List.mem_cons.mp hm with rfl | hm
  · exact ⟨set_block h1 i u, h2, h3, h4⟩
  · obtain ⟨g1, g2⟩ := h.bls b (List.mem_cons_of_mem _ hm)
    exact ⟨(Below.heap_setCell wr ⟨N, i, none⟩ u b.1 (hne b hm)).trans g1, g2⟩
theorem TwI.set6 {N : Nat} {v0 v1 v2 v3 v4 v5 : Value} {t : TypeId} (h : TwI w wr Pa Ba Pb Bb S ca cb mk mkb na la Xa ja nb lb Xb jb ((N, #[v0, v1, v2, v3, v4, v5], t) :: bl)) (hne : ∀ b ∈ bl, b.1 ≠ N) (a0 a1 a2 a3 a4 a5 : Value) : TwI w (W6 wr N a0 a1 a2 a3 a4 a5) Pa Ba Pb Bb S ca cb mk mkb na la Xa ja nb lb Xb jb ((N, #[a0, a1, a2, a3, a4, a5], t) :: bl) := by
  have := (((((h.set1 hne 0 a0).set1 hne 1 a1).set1 hne 2 a2).set1 hne 3 a3).set1 hne 4 a4).set1 hne 5 a5
  simpa using this
/-- The second session is new. -/
theorem TwI.start {w1 : World} (hb : Below w.heap.size w w1) (h : Sess w1 Pa Ba S ca na la mk Xa ja) (ho : ∀ k ∈ ownL Pa Xa ja, w.heap.size ≤ k) (hb2 : Below w1.heap.size w1 w2) (h2 : Sess w2 Pb Bb S cb nb lb mkb Xb jb) (ho2 : ∀ k ∈ ownL Pb Xb jb, w1.heap.size ≤ k) : TwI w w2 Pa Ba Pb Bb S ca cb mk mkb na la Xa ja nb lb Xb jb [] :=
  ⟨hb.trans (hb2.mono hb.size), h.later hb2, h2, ho, fun k hm => Nat.le_trans hb.size (ho2 k hm), fun k hm hm' => by have := h.ses.own_lt hm; have := ho2 k hm'; omega, fun _ h => by simp at h⟩
end
theorem outV2 : OutTy 56 ∧ 56 ≠ 93 := by unfold OutTy PTy; decide
theorem outR2 : OutTy 36 ∧ 36 ≠ 93 := by unfold OutTy PTy; decide
end Go.Proofs.YtbpajiljfppjcaaGreatDoor

