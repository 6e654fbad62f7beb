/- Retreats, walked. -/
import Derived.Test.YtbpajiljfppjcaaGreatDoorSdD
import Derived.Deep.DeepCutAuto
namespace Go.Proofs.YtbpajiljfppjcaaGreatDoor
open Go.RowKit
attribute [local go_sem ↓] Go.wp_at_zero Go.wp_at_succ

theorem TwI.add {w wr : World} {Pa Ba Pb Bb : Nat} {S : Rt.Src} {ca cb : Int} {mk mkb : List Bool} {na la nb lb : Nat} {Xa Xb : McX} {ja jb : Value} {bl : List (Nat × Array Value × TypeId)} (h : TwI w wr Pa Ba Pb Bb S ca cb mk mkb na la Xa ja nb lb Xb jb bl) {N : Nat} {c : Array Value} {t : TypeId} (hN : wr.heap[N]? = some (.cells c t (0, 0))) (hle : w.heap.size ≤ N) (ht : OutTy t ∧ t ≠ 93) : TwI w wr Pa Ba Pb Bb S ca cb mk mkb na la Xa ja nb lb Xb jb ((N, c, t) :: bl) :=
  ⟨h.below, h.a, h.b, h.oa, h.ob, h.dis, fun b hm => by
    rcases List.mem_cons.mp hm with rfl | hm
    · exact ⟨hN, hle, ht⟩
    · exact h.bls b hm⟩
set_option maxRecDepth 100000 in
theorem Tryz.makeMarks (w : World) : (Instr.makeSlice 44 (.int .i64 101) (.int .i64 101)).run Tryz.prog w = .ok (.slice (some ⟨w.heap.size, 0, none⟩) 101 101) (w.alloc (.cells (mkC mk0) 4)) := by kernel_rfl
/-- What twin says. -/
def TwP (w : World) (nm : Nat) (e : Ending) (w' : World) : Prop := ∃ (S : Rt.Src) (cap : Int) (T M Pa Ba Pb Bb n low : Nat) (mk : List Bool) (Xa Xb : McX) (ja jb : Value), e = .returned (.pointer (some ⟨T, 0, none⟩)) ∧ Cst S cap mk ∧ n ≤ 60 * nm ∧ TwI w w' Pa Ba Pb Bb S cap cap mk mk n low Xa ja n low Xb jb [(T, twC Pa Pb M, 46), (M, mkC mk, 4)]
set_option maxHeartbeats 4000000 in
set_option maxRecDepth 100000 in
theorem twin_any (w : World) (cv iv kv mv : Value) (code input marks moves : List Int) (cp : Int) (hc : IntsR w w.heap.size cv code) (hi : IntsR w w.heap.size iv input) (hkk : IntsR w w.heap.size kv marks) (hm : IntsR w w.heap.size mv moves) (hcp : -9223372036854775808 ≤ cp ∧ cp ≤ 9223372036854775807) (hkl : marks.length ≤ 70368744177664) (hml : moves.length ≤ 70368744177664) :
    Calls Tryz.prog 19 #[cv, iv, .int .i64 cp, kv, mv] w (TwP w moves.length) := by
  obtain ⟨pls, r1, r5⟩ := Rt.made_src code
  have hl100 : (input.take 100).length ≤ 100 := by simp; omega
  have cform : ∃ ad cap, cv = .slice ad code.length cap := by obtain ⟨ad, cap, h, _⟩ := hc; exact ⟨ad, cap, h⟩
  have iform : ∃ ad cap, iv = .slice ad input.length cap := by obtain ⟨ad, cap, h, _⟩ := hi; exact ⟨ad, cap, h⟩
  have kform : ∃ ad cap, kv = .slice ad marks.length cap := by obtain ⟨ad, cap, h, _⟩ := hkk; exact ⟨ad, cap, h⟩
  have mform : ∃ ad cap, mv = .slice ad moves.length cap := by obtain ⟨ad, cap, h, _⟩ := hm; exact ⟨ad, cap, h⟩
  obtain ⟨cad, ccap, rfl⟩ := cform
  obtain ⟨iad, icap, rfl⟩ := iform
  obtain ⟨kad, kcap, rfl⟩ := kform
  obtain ⟨mad, mcap, rfl⟩ := mform
  have hcap := pick_range2 cp 496 (by omega)
  have HRM := hide (fun W => room_any W cp hcp.1 hcp.2)
  obtain ⟨cap, hcapE⟩ : ∃ c, c = 5 + Rt.pickP cp 496 := ⟨_, rfl⟩
  rw [← hcapE] at HRM
  have hcap5 : 5 ≤ cap ∧ cap ≤ 500 := by omega
  clear hcapE hcap
  have HH := hide (And.intro hc (And.intro hi (And.intro hkk (And.intro hm (And.intro r1 (plc_of (inp := input.take 100) r1 hl100))))))
  clear hc hi hkk hm r1 hcp
  go_enter Tryz.func19, Tryz.ntmps19
  go_wp2_with fail
  refine (source_any _ _ code (unhide HH).1).mono ?_
  rintro e w1 ⟨rfl, hb1⟩
  generalize Rt.srcB code = text at *
  have HB1 := hide hb1
  clear hb1
  have hms := Tryz.makeMarks w1
  go_wp2_with fail
  have hbA := ((Below.refl w1.heap.size w1).alloc (Nat.le_refl _) (.cells (mkC mk0) 4)).alloc (by simp) (.cells #[.pointer none, .pointer none, .slice (some ⟨w1.heap.size, 0, none⟩) 101 101] 46)
  have bM := block_alloc (heap_alloc_new w1 (.cells (mkC mk0) 4)) (.cells #[.pointer none, .pointer none, .slice (some ⟨w1.heap.size, 0, none⟩) 101 101] 46)
  have bT := alloc2_plain w1 (.cells (mkC mk0) 4) (.cells #[.pointer none, .pointer none, .slice (some ⟨w1.heap.size, 0, none⟩) 101 101] 46)
  have HA := hide (And.intro ((unhide HB1).trans (hbA.mono (unhide HB1).size)) (And.intro bM (And.intro bT (unhide HB1).size)))
  clear hbA bM bT HB1 hms
  revert HA
  generalize (w1.alloc (.cells (mkC mk0) 4)).alloc (.cells #[.pointer none, .pointer none, .slice (some ⟨w1.heap.size, 0, none⟩) 101 101] 46) = wT
  generalize w1.heap.size = M at *
  intro HA
  refine (fed_any wT wT.heap.size _ input (IntsR.keeps (unhide HH).2.1 (unhide HA).1)).mono ?_
  rintro e w2 ⟨hb2, u2, rfl, hu2⟩
  have hui2 := row_ints hu2 rfl
  obtain ⟨uad2, ucap2, rfl⟩ := ownsRow_form hu2
  obtain ⟨S, hSE⟩ : ∃ S, S = srcOf text pls (input.take 100) := ⟨_, rfl⟩
  have HN := hide (begun_at text _ (input.take 100) cap w2 pls (by unfold maxLen; omega) hui2 (unhide HH).2.2.2.2.1 hl100 hcap5)
  rw [← hSE] at HN
  have HCs := hide (show ∀ mk : List Bool, mk.length = 101 → Cst S cap mk from fun mk hk => ⟨by rw [hSE]; exact (unhide HH).2.2.2.2.2, hcap5.1, hcap5.2, hk⟩)
  have HSE := hide hSE
  have HB2 := hide hb2
  clear hb2 hu2 hui2 hSE
  have HL100 := hide hl100
  clear hl100
  generalize (input.take 100).length = il at HN
  go_wp2_with fail
  refine (unhide HRM _).mono ?_
  rintro e w2' ⟨rfl, rfl⟩
  go_wp2_with fail
  refine (unhide HN).mono ?_
  rintro e w3 ⟨hb3, Pa, Ba, Xa, ja, rfl, howna, hsesa⟩
  have hb23 := (unhide HB2).trans (hb3.mono (unhide HB2).size)
  have bM3 := block_later (unhide HA).2.1 hb23
  have bT3 := block_later (unhide HA).2.2.1 hb23
  have hTP : M + 1 ≠ Pa := by
    have h1 := block_lt (unhide HA).2.2.1
    have h2 := howna Pa (ownL_in (Or.inl rfl))
    have h3 := (unhide HB2).size
    omega
  have hsa := hsesa.ses.other bT3 hTP outT.1 0 (.pointer (some ⟨Pa, 0, none⟩))
  have bT4 := set_block bT3 0 (.pointer (some ⟨Pa, 0, none⟩))
  have bM4 : (w3.setCell ⟨M + 1, 0, none⟩ (.pointer (some ⟨Pa, 0, none⟩))).heap[M]? = some (.cells (mkC mk0) 4 (0, 0)) := (Below.heap_setCell w3 ⟨M + 1, 0, none⟩ _ M (by show M ≠ M + 1; omega)).trans bM3
  have hbw : Below w.heap.size w (w3.setCell ⟨M + 1, 0, none⟩ (.pointer (some ⟨Pa, 0, none⟩))) := ((unhide HA).1.trans (hb23.mono (unhide HA).1.size)).setCell (p := ⟨M + 1, 0, none⟩) (by show w.heap.size ≤ M + 1; have := (unhide HA).2.2.2; omega) _
  have HS := hide (And.intro hbw (And.intro (show Sess _ Pa Ba S cap 0 0 mk0 Xa ja from ⟨hsa, hsesa.ok⟩) (And.intro (show ∀ k ∈ ownL Pa Xa ja, w.heap.size ≤ k from fun k hk => Nat.le_trans (unhide HA).1.size (Nat.le_trans (unhide HB2).size (howna k hk))) (And.intro bT4 bM4))))
  obtain ⟨t0, t1, t2⟩ := three_cells bT3
  have tz := free_of_block bT3 0
  have HM := hide (unhide HA).2.2.2
  clear hb3 howna hsesa HN HB2 hb23 bM3 bT3 hTP hsa bT4 bM4 hbw HA
  go_wp2_with fail
  clear t0 t1 t2 tz
  revert HS
  generalize w3.setCell ⟨M + 1, 0, none⟩ (.pointer (some ⟨Pa, 0, none⟩)) = w3'
  intro HS
  refine (fed_any w3' w3'.heap.size _ input (IntsR.keeps (unhide HH).2.1 (unhide HS).1)).mono ?_
  rintro e w4 ⟨hb4, u4, rfl, hu4⟩
  have hui4 := row_ints hu4 rfl
  obtain ⟨uad4, ucap4, rfl⟩ := ownsRow_form hu4
  have HN := hide (begun_at text _ (input.take 100) cap w4 pls (by unfold maxLen; omega) hui4 (unhide HH).2.2.2.2.1 (unhide HL100) hcap5)
  rw [← unhide HSE] at HN
  have HB4 := hide hb4
  clear hb4 hu4 hui4
  generalize (input.take 100).length = il4 at HN
  go_wp2_with fail
  refine (unhide HRM _).mono ?_
  rintro e w4' ⟨rfl, rfl⟩
  go_wp2_with fail
  refine (unhide HN).mono ?_
  rintro e w5 ⟨hb5, Pb, Bb, Xb, jb, rfl, hownb, hsesb⟩
  have hb45 := (unhide HB4).trans (hb5.mono (unhide HB4).size)
  have hT0 := TwI.start (unhide HS).1 (unhide HS).2.1 (unhide HS).2.2.1 hb45 hsesb (fun k hk => Nat.le_trans (unhide HB4).size (hownb k hk))
  have bM5 := block_later (unhide HS).2.2.2.2 hb45
  have bT5 : w5.heap[M + 1]? = some (.cells #[.pointer (some ⟨Pa, 0, none⟩), .pointer none, .slice (some ⟨M, 0, none⟩) 101 101] 46 (0, 0)) := by
    have := block_later (unhide HS).2.2.2.1 hb45
    simpa using this
  have hT1 := (hT0.add bM5 (unhide HM) outB).add bT5 (by have := unhide HM; omega) outT
  have hq := hide (hT1.set1 (by intro b hb; simp at hb; rw [hb]; show M ≠ M + 1; omega) 1 (.pointer (some ⟨Pb, 0, none⟩)))
  obtain ⟨t0, t1, t2⟩ := three_cells bT5
  have tz := free_of_block bT5 1
  clear hb5 hownb hsesb HN HB4 hb45 hT0 bM5 bT5 hT1 HS HRM HSE HL100
  have HTs := hide (show TwI w (w5.setCell ⟨M + 1, 1, none⟩ (.pointer (some ⟨Pb, 0, none⟩))) Pa Ba Pb Bb S cap cap mk0 mk0 0 0 Xa ja 0 0 Xb jb [(M + 1, twC Pa Pb M, 46), (M, mkC mk0, 4)] by have := unhide hq; simpa [twC] using this)
  clear hq
  go_wp2_with fail
  obtain ⟨T, hTE⟩ : ∃ T, T = M + 1 := ⟨_, rfl⟩
  rw [← hTE] at HTs ⊢
  clear hTE t0 t1 t2 tz
  have HTs2 := hide ((unhide HTs).fewer (bl' := [(M, mkC mk0, 4), (T, twC Pa Pb M, 46)]) (fun b hb => by simp at hb ⊢; rcases hb with h | h; exact Or.inr h; exact Or.inl h))
  clear HTs
  go_loopw [13, 14] (fun i _ wr => ∃ (k : Nat) (mk : List Bool), k ≤ marks.length ∧ i = .int .i64 k ∧ mk.length = 101 ∧ TwI w wr Pa Ba Pb Bb S cap cap mk mk 0 0 Xa ja 0 0 Xb jb [(M, mkC mk, 4), (T, twC Pa Pb M, 46)])
    (fun i _ _ => marks.length + 1 - (intOf i).toNat)
  case atStart => first | exact ⟨0, mk0, Nat.zero_le _, rfl, by simp [mk0], unhide HTs2⟩ | exact ⟨0, mk0, Nat.zero_le _, rfl, by simp [mk0], (unhide HTs2).later (below_to_drew _)⟩
  case round =>
    obtain ⟨k, mk, hk, rfl, hmk, hT⟩ := hrel
    have HX := hide hT
    clear hT HTs2
    by_cases hlt : k < marks.length
    · have hlt' : (k : Int) < (marks.length : Int) := by omega
      have hk0 : (0 : Int) ≤ (k : Int) := by omega
      obtain ⟨kb, ko, rfl, hkb, hkc⟩ := ints_at (unhide HH).2.2.1 hlt
      have m1 := cell_later (unhide HX).below hkc
      have hraw := ints_in (unhide HH).2.2.1 hlt
      have HMk := hide (tmark_any w wr Pa Ba Pb Bb T M S cap cap mk 0 0 0 0 Xa Xb ja jb [] (unhide HX) (fun _ h => by simp at h) hmk marks[k] hraw)
      have HLn := hide (turn_len S mk (mkLine marks[k]))
      clear hkc hraw
      generalize turn S mk (mkLine marks[k]) = mk2 at *
      generalize marks[k] = raw at *
      have HML := hide hmk
      clear hmk
      go_wp2_with fail
      refine (unhide HMk).mono ?_
      rintro e w6 ⟨rfl, hT⟩
      have HX2 := hide hT
      clear hT HMk m1
      go_wp2_with fail
      go_roundw
      case rel => exact ⟨k + 1, mk2, by omega, by go_num, (unhide HLn).trans (unhide HML), unhide HX2⟩
      case measure => simp [intOf]; omega
    · have hlt' : ¬ (k : Int) < (marks.length : Int) := by omega
      have HX2 := hide ((unhide HX).fewer (bl' := [(T, twC Pa Pb M, 46), (M, mkC mk, 4)]) (fun b hb => by simp at hb ⊢; rcases hb with h | h; exact Or.inr h; exact Or.inl h))
      have HCk := hide (unhide HCs mk hmk)
      clear HX
      go_wp2_with fail
      go_loopw [15, 16, 17, 18, 19] (fun i _ _ _ _ wr => ∃ (k n low : Nat) (Xa' Xb' : McX) (ja' jb' : Value), k ≤ moves.length ∧ i = .int .i64 k ∧ n ≤ 60 * k ∧ TwI w wr Pa Ba Pb Bb S cap cap mk mk n low Xa' ja' n low Xb' jb' [(T, twC Pa Pb M, 46), (M, mkC mk, 4)])
        (fun i _ _ _ _ _ => moves.length + 1 - (intOf i).toNat)
      case atStart => exact ⟨0, 0, 0, Xa, Xb, ja, jb, Nat.zero_le _, rfl, by omega, unhide HX2⟩
      case round =>
        obtain ⟨k, n, low, Xa', Xb', ja', jb', hk, rfl, hn, hT⟩ := hrel
        have HX := hide hT
        obtain ⟨t0, t1, t2⟩ := three_cells (hT.bls (T, twC Pa Pb M, 46) (by simp)).1
        clear hT HX2
        by_cases hlt : k < moves.length
        · have hlt' : (k : Int) < (moves.length : Int) := by omega
          have hk0 : (0 : Int) ≤ (k : Int) := by omega
          obtain ⟨mb, mo, rfl, hmb, hmc⟩ := ints_at (unhide HH).2.2.2.1 hlt
          have m1 := cell_later (unhide HX).below hmc
          have hraw := ints_in (unhide HH).2.2.2.1 hlt
          have HMa := hide (fun (W : World) (h : Sess W Pa Ba S cap n low mk Xa' ja') => h.moves (unhide HCk) (by omega) moves[k] hraw)
          have HMb := hide (fun (W : World) (h : Sess W Pb Bb S cap n low mk Xb' jb') => h.moves (unhide HCk) (by omega) moves[k] hraw)
          have HNa := hide ((Rt.moveR_at (show 0 ≤ cap by omega) (unhide HCk).plc.input mk moves[k] n low (unhide HX).a.ok (by omega)).2)
          have HMC := hide (show ∀ W, Below w.heap.size w W → W.cell? ⟨mb, mo + k, none⟩ = some (.int .i64 moves[k]) from fun W hW => cell_later hW hmc)
          clear hmc hraw
          generalize moves[k] = raw at *
          generalize Rt.moveLow S cap mk low raw n = low2 at *
          generalize Rt.mvF raw = fu at *
          rcases hres : Rt.moveN S mk low raw n with ⟨n2, ka, ra⟩
          rw [hres] at HMa HNa HMb
          simp only at HMa HNa HMb
          clear hres
          go_wp2_with fail
          go_cut [16, 17] (fun p e wx => ∃ (A : Nat) (X2 : McX) (j2 : Value), p = .pointer (some ⟨A, 0, none⟩) ∧ e = .int .i64 0 ∧ TwI w wx Pa Ba Pb Bb S cap cap mk mk n2 low2 X2 j2 n low Xb' jb' [(A, replyN S ra ka n2, 36), (T, twC Pa Pb M, 46), (M, mkC mk, 4)])
          case first =>
            have hx1 : ¬ T = wr.heap.size := by have := block_lt ((unhide HX).bls (T, twC Pa Pb M, 46) (by simp)).1; simp only at this; omega
            have hx2 : ¬ wr.heap.size = T := fun e => hx1 e.symm
            have hx3 : ¬ mb = wr.heap.size := by have := (unhide HX).below.size; omega
            have hx4 : ¬ wr.heap.size = mb := fun e => hx3 e.symm
            have hx5 : ¬ M = wr.heap.size := by have := block_lt ((unhide HX).bls (M, mkC mk, 4) (by simp)).1; simp only at this; omega
            have HA0 := hide (((unhide HX).alloc #[.int .i64 0, .int .i64 0, .int .i64 0, .int .i64 0, .int .i64 0, .int .i64 0] 36 outR2).later (below_to_drew _))
            go_region_held3 (fun w' => w'.cell? ⟨T, 0, none⟩ = some (.pointer (some ⟨Pa, 0, none⟩)) ∧ w'.cell? ⟨mb, mo + k, none⟩ = some (.int .i64 raw)) (go_keep) (first
              | (go_at_call 28; refine (unhide HMa _ ((unhide HX).a.later (below_to_drew _))).mono ?_; rintro e w6 ⟨rfl, X2, j2, hA, hok⟩; unfold replyN; have hT6 := ((unhide HX).later (below_to_drew _)).moveA hA hok; have tA := (three_cells (hT6.bls (T, twC Pa Pb M, 46) (by simp)).1).1; have mA := unhide HMC _ hT6.below; have hy1 : ¬ T = w6.heap.size := (by have := block_lt (hT6.bls (T, twC Pa Pb M, 46) (by simp)).1; simp only at this; omega); have hy2 : ¬ mb = w6.heap.size := (by have := hT6.below.size; omega); have HT6 := hide hT6; clear hT6 hA hok)
              | (go_at_call 28; refine (unhide HMa _ (unhide HA0).a).mono ?_; rintro e w6 ⟨rfl, X2, j2, hA, hok⟩; unfold replyN; have hT6 := (unhide HA0).moveA hA hok; have tA := (three_cells (hT6.bls (T, twC Pa Pb M, 46) (by simp)).1).1; have mA := unhide HMC _ hT6.below; obtain ⟨o0, o1, o2, o3, o4, o5, oz⟩ := six_any (hT6.bls (wr.heap.size, #[.int .i64 0, .int .i64 0, .int .i64 0, .int .i64 0, .int .i64 0, .int .i64 0], 36) (by simp)).1; have HT7 := hide hT6; clear hT6 hA hok))
            · go_wp2_with fail
              go_meet
              case rel => exact ⟨_, X2, j2, rfl, rfl, (unhide HT6).alloc (replyN S ra ka n2) 36 outR2⟩
            · go_wp2_with fail
              go_meet
              case rel => exact ⟨_, X2, j2, rfl, rfl, (unhide HT7).set6 (by intro b hb; simp at hb; rcases hb with rfl | rfl; exact hx1; exact hx5) (.int .i64 ra) (.int .i64 (ka : Int)) (.int .i64 (Rt.atM S n2).fin) (.int .i64 (Rt.atM S n2).line) (.int .i64 ((Rt.atM S n2).frames.length : Int)) (.int .i64 (n2 : Int))⟩
          case rest =>
            obtain ⟨A, X2, j2, rfl, rfl, hT⟩ := hcut
            have HX3 := hide hT
            clear hT HX HMa m1 t0 t1 t2
            obtain ⟨t0, t1, t2⟩ := three_cells ((unhide HX3).bls (T, twC Pa Pb M, 46) (by simp)).1
            have m1 := unhide HMC _ (unhide HX3).below
            go_wp2_with fail
            go_cut [18, 19] (fun p e wx => ∃ (A2 : Nat) (X3 : McX) (j3 : Value), p = .pointer (some ⟨A2, 0, none⟩) ∧ e = .int .i64 0 ∧ TwI w wx Pa Ba Pb Bb S cap cap mk mk n2 low2 X2 j2 n2 low2 X3 j3 [(A2, replyN S ra ka n2, 36), (A, replyN S ra ka n2, 36), (T, twC Pa Pb M, 46), (M, mkC mk, 4)])
            case first =>
              have hx1 : ¬ T = wc.heap.size := by have := block_lt ((unhide HX3).bls (T, twC Pa Pb M, 46) (by simp)).1; simp only at this; omega
              have hx2 : ¬ wc.heap.size = T := fun e => hx1 e.symm
              have hx3 : ¬ mb = wc.heap.size := by have := (unhide HX3).below.size; omega
              have hx4 : ¬ wc.heap.size = mb := fun e => hx3 e.symm
              have hx5 : ¬ M = wc.heap.size := by have := block_lt ((unhide HX3).bls (M, mkC mk, 4) (by simp)).1; simp only at this; omega
              have hx6 : ¬ A = wc.heap.size := by have := block_lt ((unhide HX3).bls (A, replyN S ra ka n2, 36) (by simp)).1; simp only at this; omega
              have HA0 := hide (((unhide HX3).alloc #[.int .i64 0, .int .i64 0, .int .i64 0, .int .i64 0, .int .i64 0, .int .i64 0] 36 outR2).later (below_to_drew _))
              go_region_held3 (fun w' => w'.cell? ⟨T, 1, none⟩ = some (.pointer (some ⟨Pb, 0, none⟩)) ∧ w'.cell? ⟨mb, mo + k, none⟩ = some (.int .i64 raw)) (go_keep) (first
                | (go_at_call 28; refine (unhide HMb _ ((unhide HX3).b.later (below_to_drew _))).mono ?_; rintro e w6 ⟨rfl, X3, j3, hA, hok⟩; unfold replyN; have hT6 := ((unhide HX3).later (below_to_drew _)).moveB hA hok; have tA := (three_cells (hT6.bls (T, twC Pa Pb M, 46) (by simp)).1).2.1; have mA := unhide HMC _ hT6.below; have hy1 : ¬ T = w6.heap.size := (by have := block_lt (hT6.bls (T, twC Pa Pb M, 46) (by simp)).1; simp only at this; omega); have hy2 : ¬ mb = w6.heap.size := (by have := hT6.below.size; omega); have HT6 := hide hT6; clear hT6 hA hok)
                | (go_at_call 28; refine (unhide HMb _ (unhide HA0).b).mono ?_; rintro e w6 ⟨rfl, X3, j3, hA, hok⟩; unfold replyN; have hT6 := (unhide HA0).moveB hA hok; have tA := (three_cells (hT6.bls (T, twC Pa Pb M, 46) (by simp)).1).2.1; have mA := unhide HMC _ hT6.below; obtain ⟨o0, o1, o2, o3, o4, o5, oz⟩ := six_any (hT6.bls (wc.heap.size, #[.int .i64 0, .int .i64 0, .int .i64 0, .int .i64 0, .int .i64 0, .int .i64 0], 36) (by simp)).1; have HT7 := hide hT6; clear hT6 hA hok))
              · go_wp2_with fail
                go_meet
                case rel => exact ⟨_, X3, j3, rfl, rfl, (unhide HT6).alloc (replyN S ra ka n2) 36 outR2⟩
              · go_wp2_with fail
                go_meet
                case rel => exact ⟨_, X3, j3, rfl, rfl, (unhide HT7).set6 (by intro b hb; simp at hb; rcases hb with rfl | rfl | rfl; exact hx6; exact hx1; exact hx5) (.int .i64 ra) (.int .i64 (ka : Int)) (.int .i64 (Rt.atM S n2).fin) (.int .i64 (Rt.atM S n2).line) (.int .i64 ((Rt.atM S n2).frames.length : Int)) (.int .i64 (n2 : Int))⟩
            case rest =>
              obtain ⟨A2, X3, j3, rfl, rfl, hT⟩ := hcut
              have HX4 := hide hT
              have g1 := (hT.bls (A2, replyN S ra ka n2, 36) (by simp)).1
              have g2 := (hT.bls (A, replyN S ra ka n2, 36) (by simp)).1
              unfold replyN at g1 g2
              obtain ⟨y0, y1, y2, y3, y4, y5, yz⟩ := six_any g1
              obtain ⟨z0, z1, z2, z3, z4, z5, zz⟩ := six_any g2
              clear hT HX3 HMb g1 g2 m1 t0 t1 t2
              go_wp2_with fail
              go_roundw
              case rel => exact ⟨k + 1, n2, low2, X2, X3, j2, j3, by omega, by go_num, by have := (unhide HNa).2.1; omega, (unhide HX4).fewer (fun b hb => by simp at hb ⊢; exact Or.inr (Or.inr hb))⟩
              case measure => simp [intOf]; omega
        · have hlt' : ¬ (k : Int) < (moves.length : Int) := by omega
          have HR := hide (And.intro hn hk)
          go_wp2_with fail
          go_ret
          exact ⟨S, cap, T, M, Pa, Ba, Pb, Bb, n, low, mk, Xa', Xb', ja', jb', rfl, unhide HCk, by have := unhide HR; omega, unhide HX⟩
end Go.Proofs.YtbpajiljfppjcaaGreatDoor

namespace Go.Proofs.YtbpajiljfppjcaaGreatDoor
open Go.RowKit
attribute [local go_sem ↓] Go.wp_at_zero Go.wp_at_succ

set_option maxHeartbeats 4000000 in
set_option maxRecDepth 100000 in
theorem Retreats_any (w : World) (cv iv kv mv : Value) (code input marks moves : List Int) (cp kn fu : Int) (hc : IntsR w w.heap.size cv code) (hi : IntsR w w.heap.size iv input) (hkk : IntsR w w.heap.size kv marks) (hm : IntsR w w.heap.size mv moves) (hcp : -9223372036854775808 ≤ cp ∧ cp ≤ 9223372036854775807) (hkn : -9223372036854775808 ≤ kn ∧ kn ≤ 9223372036854775807) (hfu : -9223372036854775808 ≤ fu ∧ fu ≤ 9223372036854775807) (hkl : marks.length ≤ 70368744177664) (hml : moves.length ≤ 70368744177664) :
    Calls Tryz.prog 9 #[cv, iv, .int .i64 cp, kv, mv, .int .i64 kn, .int .i64 fu] w fun e w' => e = .returned (.bool true) ∧ Below w.heap.size w w' := by
  have HT := hide (twin_any w cv iv kv mv code input marks moves cp hc hi hkk hm hcp hkl hml)
  have hp1 := pick_range2 kn 4 (by omega)
  have hp2 := pick_range2 fu 201 (by omega)
  have HK := hide (fun W => pick_any W kn 4 hkn.1 hkn.2 (by omega) (by omega))
  have HF := hide (fun W => pick_any W fu 201 hfu.1 hfu.2 (by omega) (by omega))
  obtain ⟨kind, hq1⟩ : ∃ q, q = Rt.pickP kn 4 := ⟨_, rfl⟩
  obtain ⟨fuel, hq2⟩ := Int.eq_ofNat_of_zero_le hp2.1
  rw [← hq1] at HK hp1
  rw [hq2] at HF hp2
  clear hq1 hq2
  have cform : ∃ ad cap, cv = .slice ad code.length cap := by obtain ⟨ad, cap, h, _⟩ := hc; exact ⟨ad, cap, h⟩
  have iform : ∃ ad cap, iv = .slice ad input.length cap := by obtain ⟨ad, cap, h, _⟩ := hi; exact ⟨ad, cap, h⟩
  have kform : ∃ ad cap, kv = .slice ad marks.length cap := by obtain ⟨ad, cap, h, _⟩ := hkk; exact ⟨ad, cap, h⟩
  have mform : ∃ ad cap, mv = .slice ad moves.length cap := by obtain ⟨ad, cap, h, _⟩ := hm; exact ⟨ad, cap, h⟩
  obtain ⟨cad, ccap, rfl⟩ := cform
  obtain ⟨iad, icap, rfl⟩ := iform
  obtain ⟨kad, kcap, rfl⟩ := kform
  obtain ⟨mad, mcap, rfl⟩ := mform
  clear hc hi hkk hm hcp hkn hfu
  go_enter Tryz.func9, Tryz.ntmps9
  go_wp2_with fail
  refine (unhide HT).mono ?_
  rintro e w1 ⟨S, cap, T, M, Pa, Ba, Pb, Bb, n, low, mk, Xa, Xb, ja, jb, rfl, hcst, hn, hT⟩
  have HX := hide hT
  have HC := hide hcst
  clear hT hcst HT
  go_wp2_with fail
  refine (unhide HK _).mono ?_
  rintro e w2 ⟨rfl, rfl⟩
  go_wp2_with fail
  refine (unhide HF _).mono ?_
  rintro e w3 ⟨rfl, rfl⟩
  obtain ⟨t0, t1, t2⟩ := three_cells ((unhide HX).bls (T, twC Pa Pb M, 46) (by simp)).1
  obtain ⟨F, hF⟩ : ∃ F, Rt.backN S mk low kind fuel (Rt.atM S n).frames.length (fuel + 1) n 0 = F := ⟨_, rfl⟩
  have HMa := hide (fun (W : World) (h : Sess W Pa Ba S cap n low mk Xa ja) => h.bwd (unhide HC) kind fuel (by omega) (by omega) (by omega))
  rw [hF] at HMa
  have HFF := hide hF
  clear hF
  go_wp2_with fail
  refine (unhide HMa _ (unhide HX).a).mono ?_
  rintro e w4 ⟨rfl, X2, j2, hA, hok⟩
  have HX2 := hide ((unhide HX).moveA hA hok)
  clear hA hok HX HMa t0 t1 t2
  unfold replyN
  obtain ⟨f1, hf1⟩ : ∃ f, f = (Rt.atM S F.1).fin := ⟨_, rfl⟩
  obtain ⟨l1, hl1⟩ : ∃ f, f = (Rt.atM S F.1).line := ⟨_, rfl⟩
  obtain ⟨d1, hd1⟩ : ∃ f : Int, f = ((Rt.atM S F.1).frames.length : Int) := ⟨_, rfl⟩
  rw [← hf1, ← hl1, ← hd1]
  have HQ := hide (And.intro hf1 (And.intro hl1 hd1))
  clear hf1 hl1 hd1
  obtain ⟨pn, pk, pr⟩ := F
  simp only at *
  go_wp2_with fail
  have hq := hide ((unhide HX2).alloc #[.int .i64 pr, .int .i64 (pk : Int), .int .i64 f1, .int .i64 l1, .int .i64 d1, .int .i64 (pn : Int)] 36 outR2)
  obtain ⟨A, hA⟩ : ∃ A, A = w4.heap.size := ⟨_, rfl⟩
  rw [← hA] at hq ⊢
  clear HX2
  revert hq
  generalize w4.alloc (.cells #[.int .i64 pr, .int .i64 (pk : Int), .int .i64 f1, .int .i64 l1, .int .i64 d1, .int .i64 (pn : Int)] 36) = wa
  intro HX3
  clear hA
  have HX3' := hide ((unhide HX3).fewer (bl' := [(T, twC Pa Pb M, 46), (M, mkC mk, 4), (A, #[.int .i64 pr, .int .i64 (pk : Int), .int .i64 f1, .int .i64 l1, .int .i64 d1, .int .i64 (pn : Int)], 36)]) (fun b hb => by simp at hb ⊢; rcases hb with h | h | h; exact Or.inr (Or.inl h); exact Or.inr (Or.inr h); exact Or.inl h))
  refine (behind_any w wa Pa Ba Pb Bb T M S cap mk _ _ n low _ Xb _ jb [(A, #[.int .i64 pr, .int .i64 (pk : Int), .int .i64 f1, .int .i64 l1, .int .i64 d1, .int .i64 (pn : Int)], 36)] (unhide HX3') (unhide HC) kind fuel (by omega) (by omega) (by omega) _ (unhide HFF)).mono ?_
  rintro e w5 ⟨rfl, X3, j3, hT5⟩
  have g1 := (hT5.bls (A, #[.int .i64 pr, .int .i64 (pk : Int), .int .i64 f1, .int .i64 l1, .int .i64 d1, .int .i64 (pn : Int)], 36) (by simp)).1
  obtain ⟨y0, y1, y2, y3, y4, y5, yz⟩ := six_any g1
  have HX5 := hide (hT5.fewer (bl' := [(T, twC Pa Pb M, 46)]) (fun b hb => by simp at hb ⊢; exact Or.inl hb))
  have HAL := hide (alike_any w w5 Pa Ba Pb Bb T M S cap mk _ _ _ _ _ _ (unhide HX5) (unhide HC) pr (pk : Int))
  rw [← (unhide HQ).1, ← (unhide HQ).2.1, ← (unhide HQ).2.2] at HAL
  clear hT5 g1 HX3 HX3' HX5
  dsimp only
  go_wp2_with fail
  refine (unhide HAL).mono ?_
  rintro e w6 ⟨rfl, hb6⟩
  have HB := hide hb6
  clear hb6 y0 y1 y2 y3 y4 y5 yz
  go_wp2_with fail
  go_ret
  exact ⟨rfl, unhide HB⟩
end Go.Proofs.YtbpajiljfppjcaaGreatDoor

