/- Two lists of whole numbers, held together. -/
import Derived.Test.YtnjhgcanglkfiaaSoA
import Derived.Test.YtnjhgcanglkfiaaKit0
import Derived.Deep.RegionHeld3
import Derived.Deep.AppendLies
import Derived.Deep.DrawnRows
import Derived.Deep.QuietTactic
import Derived.BigQuiet
import Derived.Deep.RegionLaw
namespace Go.Proofs.Ytnjhgcanglkfiaa
open Go.RowKit
namespace Rt
/-- So many steps at most lead from a machine to another. -/
def Goes (S : Src) (m : Mc) (c : Nat) (m' : Mc) : Prop := ∃ k, k ≤ c ∧ ∀ j, runM S (k + j) m = ((runM S j m').1, (runM S j m').2 + k)
theorem Goes.step {S : Src} {m m' : Mc} (h : m.fin = 0) (hs : (stepM S m).1 = m') : Goes S m 1 m' :=
  ⟨1, Nat.le_refl _, fun j => by rw [Nat.add_comm 1 j]; exact runM_step h hs j⟩
theorem Goes.trans {S : Src} {m m' m'' : Mc} {c d : Nat} (h : Goes S m c m') (g : Goes S m' d m'') : Goes S m (c + d) m'' := by
  obtain ⟨k, hk, h⟩ := h
  obtain ⟨l, hl, g⟩ := g
  refine ⟨k + l, by omega, fun j => ?_⟩
  rw [Nat.add_assoc, h, g]
  exact Prod.ext rfl (by show _ + l + k = _ + (k + l); omega)
theorem Goes.mono {S : Src} {m m' : Mc} {c d : Nat} (h : Goes S m c m') (hc : c ≤ d) : Goes S m d m' := by
  obtain ⟨k, hk, h⟩ := h
  exact ⟨k, by omega, h⟩
theorem Goes.ends {S : Src} {m m' : Mc} {c n : Nat} (h : Goes S m c m') (hc : c ≤ n) (hf : m'.fin ≠ 0) : (runM S n m).1 = m' := by
  obtain ⟨k, hk, h⟩ := h
  have := h (n - k)
  rw [show k + (n - k) = n by omega, runM_end S (n - k) m' hf] at this
  rw [this]
theorem set_mid (x y : Int) (r : List Int) : ∀ (p : List Int) (k : Nat), p.length = k → (p ++ x :: r).set k y = p ++ y :: r := by
  intro p
  induction p with
  | nil => intro k hk; subst hk; rfl
  | cons z p ih =>
    intro k hk
    subst hk
    show z :: (p ++ x :: r).set p.length y = _
    rw [ih _ rfl]
    rfl
section
variable (inp : List Int) (n i v t : Int) (o : List Int)
theorem so_inner : ∀ (N : Nat) (p q : List Int) (x : Int) (r : List Int) (j : Int), p.length = N → j = (p.length : Nat) → N + 2 + (q ++ r).length ≤ 14 →
    ∃ p1 p2 j', p = p1 ++ p2 ∧ (∀ y ∈ p2, v < y) ∧ (∀ y, p1.getLast? = some y → y ≤ v) ∧
      Goes (soSrc inp) (soM n i j v (v :: (p ++ x :: (q ++ r))) t o 12) (3 * N + 2) (soM n i j' v (v :: (p1 ++ v :: (p2 ++ (q ++ r)))) t o 17) := by
  intro N
  induction N with
  | zero =>
    intro p q x r j hp hj hl
    have : p = [] := List.length_eq_zero_iff.mp hp
    subst this
    have hj0 : j = ((0 : Nat) : Int) := by simpa using hj
    refine ⟨[], [], j, rfl, by simp, by simp, ?_⟩
    have h12 := so_st12 inp n i j v (v :: ([] ++ x :: (q ++ r))) t o 0 hj0 (by simp) false (by simp)
    have h16 := so_st16 inp n i j v (v :: ([] ++ x :: (q ++ r))) t o 1 (by rw [hj0, IntWalk.wrap64_in _ (by omega)]; rfl) (by simp)
    exact ((Goes.step rfl h12).trans (Goes.step rfl h16)).mono (by omega)
  | succ N ih =>
    intro p q x r j hp hj hl
    obtain ⟨p', y, rfl⟩ : ∃ p' y, p = p' ++ [y] := by
      have hne : p ≠ [] := by intro h; rw [h] at hp; simp at hp
      exact ⟨p.dropLast, p.getLast hne, (List.dropLast_concat_getLast hne).symm⟩
    have hp' : p'.length = N := by simpa using hp
    have hjN : j = ((N + 1 : Nat) : Int) := by rw [hj]; simp [hp']
    have hat : (v :: ((p' ++ [y]) ++ x :: (q ++ r)))[N + 1]'(by simp; omega) = y := by
      simp [hp']
    by_cases hv : v < y
    · have h12 := so_st12 inp n i j v (v :: ((p' ++ [y]) ++ x :: (q ++ r))) t o (N + 1) hjN (by simp; omega) true (by rw [hat]; simpa using hv)
      have h13 := so_st13 inp n i j v (v :: ((p' ++ [y]) ++ x :: (q ++ r))) t o (N + 1) hjN (by rw [IntWalk.wrap64_in _ (by simp at hl; omega)]; omega) (by simp; omega)
      rw [hat] at h13
      have hset : (v :: ((p' ++ [y]) ++ x :: (q ++ r))).set (N + 1 + 1) y = v :: (p' ++ y :: ((y :: q) ++ r)) := by
        rw [List.set_cons_succ, set_mid x y (q ++ r) (p' ++ [y]) (N + 1) (by simp [hp'])]
        simp
      rw [hset] at h13
      have h14 := so_st14 inp n i j v (v :: (p' ++ y :: ((y :: q) ++ r))) t o
      have hj14 : wrap64 (j - 1) = ((p'.length : Nat) : Int) := by rw [IntWalk.wrap64_in _ (by simp at hl; omega)]; omega
      obtain ⟨p1, p2, j', e1, e2, e3, e4⟩ := ih p' (y :: q) y r (wrap64 (j - 1)) hp' hj14 (by simp at hl ⊢; omega)
      refine ⟨p1, p2 ++ [y], j', by rw [e1, List.append_assoc], ?_, e3, ?_⟩
      · intro z hz
        rcases List.mem_append.mp hz with hz | hz
        · exact e2 z hz
        · rw [List.mem_singleton.mp hz]; exact hv
      · have hg := (((Goes.step rfl h12).trans (Goes.step rfl h13)).trans (Goes.step rfl h14)).trans e4
        have : p2 ++ [y] ++ (q ++ r) = p2 ++ (y :: q ++ r) := by simp
        rw [this]
        exact hg.mono (by omega)
    · have h12 := so_st12 inp n i j v (v :: ((p' ++ [y]) ++ x :: (q ++ r))) t o (N + 1) hjN (by simp; omega) false (by rw [hat]; simpa using hv)
      have h16 := so_st16 inp n i j v (v :: ((p' ++ [y]) ++ x :: (q ++ r))) t o (N + 2) (by rw [IntWalk.wrap64_in _ (by simp at hl; omega)]; omega) (by simp; omega)
      have hset : (v :: ((p' ++ [y]) ++ x :: (q ++ r))).set (N + 2) v = v :: ((p' ++ [y]) ++ v :: (q ++ r)) := by
        rw [List.set_cons_succ, set_mid x v (q ++ r) (p' ++ [y]) (N + 1) (by simp [hp'])]
      rw [hset] at h16
      refine ⟨p' ++ [y], [], j, by simp, by simp, ?_, ?_⟩
      · intro z hz
        simp at hz
        omega
      · exact ((Goes.step rfl h12).trans (Goes.step rfl h16)).mono (by omega)
end
/-- A number put where it belongs. -/
theorem sorted_put {p1 p2 : List Int} {v : Int} (hs : (p1 ++ p2).Pairwise (· ≤ ·)) (h2 : ∀ y ∈ p2, v < y) (h1 : ∀ y, p1.getLast? = some y → y ≤ v) : (p1 ++ v :: p2).Pairwise (· ≤ ·) := by
  rw [List.pairwise_append] at hs ⊢
  obtain ⟨a, b, c⟩ := hs
  have hle : ∀ y ∈ p1, y ≤ v := by
    intro y hy
    have hne : p1 ≠ [] := by intro h; rw [h] at hy; cases hy
    have hl := h1 (p1.getLast hne) (List.getLast?_eq_some_getLast hne)
    have e := List.dropLast_concat_getLast hne
    rw [← e] at hy a
    rcases List.mem_append.mp hy with hy | hy
    · have := (List.pairwise_append.mp a).2.2 y hy (p1.getLast hne) (by simp)
      omega
    · rw [List.mem_singleton.mp hy]; exact hl
  refine ⟨a, List.pairwise_cons.mpr ⟨fun y hy => by have := h2 y hy; omega, b⟩, ?_⟩
  intro y hy z hz
  rcases List.mem_cons.mp hz with rfl | hz
  · exact hle y hy
  · exact c y hy z hz
section
variable (l : List Int) (hl : l.length ≤ 13)
include hl
theorem so_outer : ∀ (d i : Nat) (I T : Int), i + d = l.length → I = i → T = ((i + 1 : Nat) : Int) → ∀ (j v x0 : Int) (s r : List Int), s.length = i → r.length = 13 - i → s.Pairwise (· ≤ ·) → s.Perm (l.take i) →
    ∃ (s' : List Int) (I' j' v' x0' T' : Int) (r' : List Int), s'.length = l.length ∧ s'.Pairwise (· ≤ ·) ∧ s'.Perm l ∧ s'.length + r'.length = 13 ∧
      Goes (soSrc ((l.length : Int) :: l)) (soM l.length I j v (x0 :: (s ++ r)) T [] 8) (50 * d + 1) (soM l.length I' j' v' (x0' :: (s' ++ r')) T' [] 19) := by
  intro d
  induction d with
  | zero =>
    intro i I T hi hI hT j v x0 s r hs hr hso hp
    have hil : i = l.length := by omega
    have h8 := so_st8 ((l.length : Int) :: l) l.length I j v (x0 :: (s ++ r)) T [] false (by rw [decide_eq_false_iff_not]; omega)
    refine ⟨s, I, j, v, x0, T, r, by omega, hso, ?_, by omega, Goes.step rfl h8⟩
    rw [hil, List.take_length] at hp
    exact hp
  | succ d ih =>
    intro i I T hi hI hT j v x0 s r hs hr hso hp
    have hil : i < l.length := by omega
    have h8 := so_st8 ((l.length : Int) :: l) l.length I j v (x0 :: (s ++ r)) T [] true (by rw [decide_eq_true_eq]; omega)
    have h9 := so_st9 ((l.length : Int) :: l) l.length I j v (x0 :: (s ++ r)) T [] (i + 1) hT (by simp; omega) (by simp; omega)
    have hx : ((l.length : Int) :: l)[i + 1]'(by simp; omega) = l[i] := by simp
    rw [hx] at h9
    have h10 := so_st10 ((l.length : Int) :: l) l.length I j l[i] (x0 :: (s ++ r)) ((i + 1 + 1 : Nat) : Int) [] (by simp)
    have h11 := so_st11 ((l.length : Int) :: l) l.length I j l[i] (l[i] :: (s ++ r)) ((i + 1 + 1 : Nat) : Int) []
    cases r with
    | nil => simp at hr; omega
    | cons x r =>
      have hr' : r.length = 13 - (i + 1) := by simp at hr; omega
      obtain ⟨p1, p2, j', e1, e2, e3, e4⟩ := so_inner ((l.length : Int) :: l) l.length I l[i] ((i + 1 + 1 : Nat) : Int) [] i s [] x r I hs (by rw [hs]; exact hI) (by simp; omega)
      have h17 := so_st17 ((l.length : Int) :: l) l.length I j' l[i] (l[i] :: (p1 ++ l[i] :: (p2 ++ ([] ++ r)))) ((i + 1 + 1 : Nat) : Int) []
      have hlen : p1.length + p2.length = i := by rw [← hs, e1, List.length_append]
      obtain ⟨s', I2, j2, v2, x2, T2, r2, q1, q2, q3, q4, q5⟩ := ih (i + 1) (wrap64 (I + 1)) ((i + 1 + 1 : Nat) : Int) (by omega) (by rw [IntWalk.wrap64_in _ (by omega)]; omega) rfl j' l[i] l[i] (p1 ++ l[i] :: p2) r (by simp; omega) hr' (sorted_put (e1 ▸ hso) e2 e3) (by
        rw [List.take_add_one, List.getElem?_eq_getElem hil]
        refine List.perm_middle.trans ?_
        refine List.Perm.trans ?_ (List.perm_append_comm (l₁ := [l[i]]))
        exact List.Perm.cons _ (e1 ▸ hp))
      refine ⟨s', I2, j2, v2, x2, T2, r2, q1, q2, q3, q4, ?_⟩
      have hsame : p1 ++ l[i] :: p2 ++ r = p1 ++ l[i] :: (p2 ++ ([] ++ r)) := by simp
      rw [hsame] at q5
      exact ((((((Goes.step rfl h8).trans (Goes.step rfl h9)).trans (Goes.step rfl h10)).trans (Goes.step rfl h11)).trans e4).trans (Goes.step rfl h17)).trans q5 |>.mono (by omega)
theorem so_print (inp : List Int) (j v x0 T : Int) (s r : List Int) (hs : s.length = l.length) : ∀ (d k : Nat) (I : Int), k + d = l.length → I = ((k + 1 : Nat) : Int) →
    ∃ I', Goes (soSrc inp) (soM l.length I j v (x0 :: (s ++ r)) T (s.take k) 20) (3 * d + 1) (soM l.length I' j v (x0 :: (s ++ r)) T s 24) := by
  have hw : wrap64 ((l.length : Int) + 1) = (l.length : Int) + 1 := IntWalk.wrap64_in _ (by omega)
  intro d
  induction d with
  | zero =>
    intro k I hk hI
    have h20 := so_st20 inp l.length I j v (x0 :: (s ++ r)) T (s.take k) false (by rw [hw, decide_eq_false_iff_not]; omega)
    rw [show k = s.length by omega, List.take_length] at h20 ⊢
    exact ⟨I, Goes.step rfl h20⟩
  | succ d ih =>
    intro k I hk hI
    have h20 := so_st20 inp l.length I j v (x0 :: (s ++ r)) T (s.take k) true (by rw [hw, decide_eq_true_eq]; omega)
    have h21 := so_st21 inp l.length I j v (x0 :: (s ++ r)) T (s.take k) (k + 1) hI (by simp; omega) (by simp; omega)
    have hat : (x0 :: (s ++ r))[k + 1]'(by simp; omega) = s[k]'(by omega) := by
      simp [show k < s.length by omega]
    rw [hat] at h21
    have htk : s.take k ++ [s[k]'(by omega)] = s.take (k + 1) := by
      rw [List.take_add_one, List.getElem?_eq_getElem (by omega)]
      rfl
    rw [htk] at h21
    have h22 := so_st22 inp l.length I j v (x0 :: (s ++ r)) T (s.take (k + 1))
    obtain ⟨I', g⟩ := ih (k + 1) (wrap64 (I + 1)) (by omega) (by rw [IntWalk.wrap64_in _ (by omega)]; omega)
    exact ⟨I', (((Goes.step rfl h20).trans (Goes.step rfl h21)).trans (Goes.step rfl h22)).trans g |>.mono (by omega)⟩
/-- What the program that sorts prints. -/
theorem so_run : ∃ s : List Int, s.Pairwise (· ≤ ·) ∧ s.Perm l ∧ (runM (soSrc ((l.length : Int) :: l)) 1000 (firstM (soSrc ((l.length : Int) :: l)))).1.fin = 1 ∧ (runM (soSrc ((l.length : Int) :: l)) 1000 (firstM (soSrc ((l.length : Int) :: l)))).1.output = s := by
  have h7 := so_st7 0 0 0 0 [0, 0, 0, 0, 0, 0, 0, 0, 0, 0, 0, 0, 0, 0] [] (l.length : Int) l
  obtain ⟨s, I, j, v, x0, T, r, q1, q2, q3, q4, q5⟩ := so_outer l hl l.length 0 0 1 (by omega) rfl rfl 0 0 0 [] [0, 0, 0, 0, 0, 0, 0, 0, 0, 0, 0, 0, 0] rfl rfl List.Pairwise.nil (by simp)
  have h19 := so_st19 ((l.length : Int) :: l) l.length I j v (x0 :: (s ++ r)) T []
  obtain ⟨I', g⟩ := so_print l hl ((l.length : Int) :: l) j v x0 T s r q1 l.length 0 1 (by omega) rfl
  have h24 := so_st24 ((l.length : Int) :: l) l.length I' j v (x0 :: (s ++ r)) T s
  have hg := ((((Goes.step rfl h7).trans q5).trans (Goes.step rfl h19)).trans g).trans (Goes.step rfl h24)
  rw [← so_first] at hg
  have he := hg.ends (n := 1000) (by omega) (by show (1 : Int) ≠ 0; decide)
  exact ⟨s, q2, q3, by rw [he], by rw [he]; rfl⟩
end
end Rt
end Go.Proofs.Ytnjhgcanglkfiaa

namespace Go.Proofs.Ytnjhgcanglkfiaa
open Go.RowKit

def ints (l : List Int) : List Value := l.map (Value.int .i64)

/-- The numbers of a row can be read. -/
theorem int_cell {w : World} {B n : Nat} {v : Value} {l : List Int} (h : w.ownsRow B 3 1 v n (ints l)) {j : Nat} (hj : j < l.length) : ∃ g cap, v = .slice (some ⟨g, 0, none⟩) n cap ∧ w.cell? ⟨g, j, none⟩ = some (.int .i64 l[j]) := by
  obtain ⟨g, cap, he, _, _, hc⟩ := own_cell h (j := j) (u := .int .i64 l[j]) (by simp [ints, hj])
  exact ⟨g, cap, he, hc⟩

theorem ints_eq_from {a b : List Int} (hn : a.length = b.length) (h : ∀ j (h : j < a.length) (h' : j < b.length), a[j] = b[j]) : a = b := List.ext_getElem hn h

set_option maxHeartbeats 2000000 in
set_option maxRecDepth 100000 in
theorem sameInts_keep (w : World) (B B' : Nat) (va vb : Value) (a b : List Int) (ha : w.ownsRow B 3 1 va a.length (ints a)) (hb : w.ownsRow B' 3 1 vb b.length (ints b)) (hl : a.length ≤ 1000) (hl2 : b.length ≤ 1000) :
    Calls Try.prog 7 #[va, vb] w fun e w' => e = .returned (.bool (decide (a = b))) ∧ Below w.heap.size w w' := by
  obtain ⟨ad, ca, rfl⟩ := ownsRow_form ha
  obtain ⟨bd, cb, rfl⟩ := ownsRow_form hb
  by_cases hn : a.length = b.length
  · have hn' : ((a.length : Int) == (b.length : Int)) = true := by rw [beq_iff_eq]; omega
    have HN := hide hn
    clear hn
    go_enter Try.func7, Try.ntmps7
    go_wp2
    go_loopw [5] (fun i wr => ∃ k : Nat, k ≤ a.length ∧ i = .int .i64 k ∧ (∀ j (h : j < a.length) (h' : j < b.length), j < k → a[j] = b[j]) ∧ wr.ownsRow B 3 1 (.slice ad a.length ca) a.length (ints a) ∧ wr.ownsRow B' 3 1 (.slice bd b.length cb) b.length (ints b) ∧ Below w.heap.size w wr) (fun i _ => a.length - (intOf i).toNat)
    case atStart => exact ⟨0, Nat.zero_le _, rfl, fun j _ _ h => by omega, ha, hb, Below.refl _ _⟩
    case round =>
      obtain ⟨k, hk, rfl, hall, ha2, hb2, hbe⟩ := hrel
      have HX := hide (And.intro hall (And.intro ha2 (And.intro hb2 hbe)))
      by_cases hlt : k < a.length
      · have hlt' : (k : Int) < (a.length : Int) := by omega
        have hlb : k < b.length := by have := unhide HN; omega
        have hlb' : (k : Int) < (b.length : Int) := by omega
        have hk0 : (0 : Int) ≤ (k : Int) := by omega
        obtain ⟨g, cap, he, cx⟩ := int_cell ha2 hlt
        obtain ⟨g', cap', he', cy⟩ := int_cell hb2 hlb
        simp at he he'
        obtain ⟨rfl, rfl⟩ := he
        obtain ⟨rfl, rfl⟩ := he'
        have HE := hide (show a[k] = b[k] → ∀ j (h : j < a.length) (h' : j < b.length), j < k + 1 → a[j] = b[j] from fun e j h h' hj => by
          by_cases hjk : j = k
          · subst hjk; exact e
          · exact hall j h h' (by omega))
        have HF := hide (show ¬ a[k] = b[k] → decide (a = b) = false from fun e => by
          rw [decide_eq_false_iff_not]
          intro hab
          subst hab
          exact e rfl)
        clear hall ha2 hb2 hbe
        generalize a[k] = x at *
        generalize b[k] = y at *
        cases hxy : (x == y) with
        | true =>
          have hx := unhide HE (by simpa using hxy)
          have HE2 := hide hx
          clear hx
          go_wp2_with fail
          go_region_held3 (fun w' => w'.cell? ⟨g, k, none⟩ = some (.int .i64 x) ∧ w'.cell? ⟨g', k, none⟩ = some (.int .i64 y)) (go_keep) (fail)
          go_wp2_with fail
          go_roundw
          case rel =>
            obtain ⟨_, q2, q3, q4⟩ := unhide HX
            exact ⟨k + 1, by omega, by go_num, unhide HE2, own_later q2 (below_to_drew _), own_later q3 (below_to_drew _), q4.trans ((below_to_drew _).mono q4.size)⟩
          case measure => simp [intOf]; omega
        | false =>
          have hx := unhide HF (by simpa using hxy)
          have HF2 := hide hx
          clear hx
          go_wp2_with fail
          go_region_held3 (fun w' => w'.cell? ⟨g, k, none⟩ = some (.int .i64 x) ∧ w'.cell? ⟨g', k, none⟩ = some (.int .i64 y)) (go_keep) (fail)
          go_wp2_with fail
          go_ret
          obtain ⟨_, q2, q3, q4⟩ := unhide HX
          exact ⟨by rw [unhide HF2]; rfl, q4.trans ((below_to_drew _).mono q4.size)⟩
      · have hlt' : ¬ (k : Int) < (a.length : Int) := by omega
        have HE := hide (show decide (a = b) = true from by
          rw [decide_eq_true_eq]
          exact ints_eq_from (unhide HN) (fun j h h' => hall j h h' (by omega)))
        clear hall ha2 hb2 hbe
        go_wp2_with fail
        go_ret
        exact ⟨by rw [unhide HE]; rfl, (unhide HX).2.2.2⟩
  · have hn' : ((a.length : Int) == (b.length : Int)) = false := by rw [beq_eq_false_iff_ne]; omega
    go_enter Try.func7, Try.ntmps7
    go_wp2
    go_ret
    exact ⟨ret_bool (by rw [eq_comm, decide_eq_false_iff_not]; intro e; exact hn (by rw [e])), Below.refl _ _⟩


end Go.Proofs.Ytnjhgcanglkfiaa

