/- The document's answer: the parts between commas. -/
import Derived.Test.YthleadfkfnnadaaGreatRef4
set_option maxHeartbeats 4000000
set_option maxRecDepth 100000
namespace Go.Proofs.YthleadfkfnnadaaGreat
open Go.RowKit
def zBi (fn:Nat) (F:List ByteArray→Bool) (t:List ByteArray):Prop:=
 ∀(w:World) (v:Value),zu w v t→Calls Tryz.prog fn #[v] w fun e w'=>e=.returned (.bool (F t))∧Below w.heap.size w w'
def Few (t:List ByteArray):Prop:=t.length≤1000∧∀x∈t,x.size≤40000
theorem Few.take {t:List ByteArray} (h:Few t) (k:Nat):Few (t.take k):=⟨by have:=h.1;simp;omega,fun x hx=>h.2 x (List.mem_of_mem_take hx)⟩
theorem Few.drop {t:List ByteArray} (h:Few t) (k:Nat):Few (t.drop k):=⟨by have:=h.1;simp;omega,fun x hx=>h.2 x (List.mem_of_mem_drop hx)⟩
theorem zu.take {w:World} {b o cap:Nat} {t:List ByteArray} (h:zu w (.slice (some ⟨b,o,none⟩) t.length cap) t) (k c:Nat) (hk:k≤t.length) (hc:k≤c):zu w (.slice (some ⟨b,o,none⟩) k c) (t.take k):=by
 obtain⟨ad,cap',h1,_,h2⟩:=h
 refine⟨some ⟨b,o,none⟩,c,by simp[Nat.min_eq_left hk],by simp;omega,?_⟩
 rcases h2 with rfl | ⟨b',o',rfl,h2⟩
 ·left;simp
 ·simp at h1
  obtain⟨⟨rfl,rfl⟩,rfl⟩:=h1
  refine Or.inr ⟨b,o,rfl,fun j hj=>?_⟩
  simp at hj
  rw[h2 j (by omega)];simp
theorem zu.drop {w:World} {b o cap:Nat} {t:List ByteArray} (h:zu w (.slice (some ⟨b,o,none⟩) t.length cap) t) (k n c:Nat) (hn:n=t.length-k) (hc:n≤c):zu w (.slice (some ⟨b,o+k,none⟩) n c) (t.drop k):=by
 obtain⟨ad,cap',h1,_,h2⟩:=h
 refine⟨some ⟨b,o+k,none⟩,c,by simp[hn],by simp;omega,?_⟩
 rcases h2 with rfl | ⟨b',o',rfl,h2⟩
 ·left;simp
 ·simp at h1
  obtain⟨⟨rfl,rfl⟩,rfl⟩:=h1
  refine Or.inr ⟨b,o+k,rfl,fun j hj=>?_⟩
  simp at hj
  rw[show o+k+j=o+(k+j) by omega,h2 (k+j) (by omega)];simp
theorem zu.gone {w:World} {ad:Option Addr} {t:List ByteArray} {n k c:Nat} (h:t.length≤k) (hn:n=t.length-k):zu w (.slice ad n c) (t.drop k):=by
 refine⟨ad,c,by simp[hn],by simp;omega,Or.inl ?_⟩
 simp;omega
theorem zu.zAM {w:World} {ad:Option Addr} {n cap:Nat} {t:List ByteArray} (h:zu w (.slice ad n cap) t) (hne:t≠[]):∃b o,ad=some ⟨b,o,none⟩:=by
 obtain⟨ad',cap',h1,_,h2⟩:=h
 rcases h2 with h2 | ⟨b',o',h2,_⟩
 ·exact absurd h2 hne
 ·simp at h1
  exact⟨b',o',by rw[h1.1,h2]⟩
theorem zNa (t:List ByteArray) (hf:Few t) (S:List ByteArray→Bool) (h0:Rf.last Rf.zBG t < 0→zBi 176 S t)
  (h1:∀k:Nat,Rf.last Rf.zBG t=k→zBi 176 S (t.take k)∧zBi 176 S (t.drop (k+1))):zBi 135 (Rf.zEF S) t:=by
 intro w v hv
 have hl:=hf.1
 have HF:=zB hf
 clear hf
 have HA:=zB (And.intro h0 h1)
 clear h0 h1
 obtain⟨ad,cap,rfl,hcap⟩:=hv.form
 go_enter Tryz.func135,Tryz.ntmps135
 go_wp2_with fail
 refine(zGY _).mono ?_
 rintro e w1 ⟨sv,rfl,hsv,hb1⟩
 have hv1:=hv.zH hb1
 have hnil:=hv.zAM
 go_wp2_with fail
 refine(zEk _ _ _ t Rf.zBG hv1 hsv (by omega) (by decide) (zA HF).2).mono ?_
 rintro e w2 ⟨rfl,hb2⟩
 have HB:=zB (hb1.trans (hb2.mono (B':=w.heap.size) hb1.size))
 have HV:=zB (hv1.zH hb2)
 clear hv hb1 hv1 hb2 hsv
 have hlb:=Rf.zDK Rf.zBG t t.length
 have hlb':-1≤Rf.last Rf.zBG t∧Rf.last Rf.zBG t < (t.length:Int)∧(Rf.last Rf.zBG t=-1∨0 < Rf.last Rf.zBG t):=hlb
 clear hlb
 by_cases hneg:Rf.last Rf.zBG t < 0
 ·have HE:=zB (show Rf.zEF S t=S t by rw[Rf.zEF,if_pos hneg])
  go_wp2_with fail
  refine((zA HA).1 hneg _ _ (zA HV)).mono ?_
  rintro e w3 ⟨rfl,hb3⟩
  have HB3:=zB ((zA HB).trans (hb3.mono (B':=w.heap.size) (zA HB).size))
  clear hb3
  go_wp2_with fail
  go_ret
  exact⟨by rw[zA HE];rfl,zA HB3⟩
 ·obtain⟨k,hk⟩:∃k:Nat,Rf.last Rf.zBG t=k:=⟨(Rf.last Rf.zBG t).toNat,by omega⟩
  have HE:=zB (show Rf.zEF S t=(S (t.take k) && S (t.drop (k+1))) by rw[Rf.zEF,if_neg hneg,hk];rfl)
  obtain⟨ha,hb⟩:=(zA HA).2 k hk
  rw[hk]at hlb' hneg ⊢
  obtain⟨b,o,rfl⟩:=hnil (by intro h;rw[h]at hlb';simp at hlb';omega)
  have hkl:k < t.length:=by omega
  have HS:=zB (And.intro ha hb)
  clear ha hb
  go_wp2_with fail
  refine((zA HS).1 _ _ ((zA HV).take k _ (by omega) (by omega))).mono ?_
  rintro e w3 ⟨rfl,hb3⟩
  have HV3:=zB ((zA HV).zH hb3)
  have HB3:=zB ((zA HB).trans (hb3.mono (B':=w.heap.size) (zA HB).size))
  clear hb3
  go_wp2_with fail
  all_goals
   refine((zA HS).2 _ _ (by first | exact zu.gone (by omega) rfl | exact(zA HV3).drop (k+1) _ _ rfl (by omega))).mono ?_
   rintro e w4 ⟨rfl,hb4⟩
   have HB4:=zB ((zA HB3).trans (hb4.mono (B':=w.heap.size) (zA HB3).size))
   clear hb4
   go_wp2_with fail
   all_goals
    go_ret
    exact⟨by rw[zA HE];exact zj (by simp_all),zA HB4⟩
theorem zOv (t:List ByteArray) (hf:Few t) (S T:List ByteArray→Bool) (h0:Rf.last Rf.zBL t < 0→zBi 205 T t)
  (h1:∀k:Nat,Rf.last Rf.zBL t=k→zBi 176 S (t.take k)∧zBi 205 T (t.drop (k+1))):zBi 176 (Rf.zGj S T) t:=by
 intro w v hv
 have hl:=hf.1
 have HF:=zB hf
 clear hf
 have HA:=zB (And.intro h0 h1)
 clear h0 h1
 obtain⟨ad,cap,rfl,hcap⟩:=hv.form
 go_enter Tryz.func176,Tryz.ntmps176
 go_wp2_with fail
 refine(zKl _).mono ?_
 rintro e w1 ⟨sv,rfl,hsv,hb1⟩
 have hv1:=hv.zH hb1
 have hnil:=hv.zAM
 go_wp2_with fail
 refine(zEk _ _ _ t Rf.zBL hv1 hsv (by omega) (by decide) (zA HF).2).mono ?_
 rintro e w2 ⟨rfl,hb2⟩
 have HB:=zB (hb1.trans (hb2.mono (B':=w.heap.size) hb1.size))
 have HV:=zB (hv1.zH hb2)
 clear hv hb1 hv1 hb2 hsv
 have hlb:=Rf.zDK Rf.zBL t t.length
 have hlb':-1≤Rf.last Rf.zBL t∧Rf.last Rf.zBL t < (t.length:Int)∧(Rf.last Rf.zBL t=-1∨0 < Rf.last Rf.zBL t):=hlb
 clear hlb
 by_cases hneg:Rf.last Rf.zBL t < 0
 ·have HE:=zB (show Rf.zGj S T t=T t by rw[Rf.zGj,if_pos hneg])
  go_wp2_with fail
  refine((zA HA).1 hneg _ _ (zA HV)).mono ?_
  rintro e w3 ⟨rfl,hb3⟩
  have HB3:=zB ((zA HB).trans (hb3.mono (B':=w.heap.size) (zA HB).size))
  clear hb3
  go_wp2_with fail
  go_ret
  exact⟨by rw[zA HE];rfl,zA HB3⟩
 ·obtain⟨k,hk⟩:∃k:Nat,Rf.last Rf.zBL t=k:=⟨(Rf.last Rf.zBL t).toNat,by omega⟩
  have HE:=zB (show Rf.zGj S T t=(S (t.take k) && T (t.drop (k+1))) by rw[Rf.zGj,if_neg hneg,hk];rfl)
  obtain⟨ha,hb⟩:=(zA HA).2 k hk
  rw[hk]at hlb' hneg ⊢
  obtain⟨b,o,rfl⟩:=hnil (by intro h;rw[h]at hlb';simp at hlb';omega)
  have hkl:k < t.length:=by omega
  have HS:=zB (And.intro ha hb)
  clear ha hb
  go_wp2_with fail
  refine((zA HS).1 _ _ ((zA HV).take k _ (by omega) (by omega))).mono ?_
  rintro e w3 ⟨rfl,hb3⟩
  have HV3:=zB ((zA HV).zH hb3)
  have HB3:=zB ((zA HB).trans (hb3.mono (B':=w.heap.size) (zA HB).size))
  clear hb3
  go_wp2_with fail
  all_goals
   refine((zA HS).2 _ _ (by first | exact zu.gone (by omega) rfl | exact(zA HV3).drop (k+1) _ _ rfl (by omega))).mono ?_
   rintro e w4 ⟨rfl,hb4⟩
   have HB4:=zB ((zA HB3).trans (hb4.mono (B':=w.heap.size) (zA HB3).size))
   clear hb4
   go_wp2_with fail
   all_goals
    go_ret
    exact⟨by rw[zA HE];exact zj (by simp_all),zA HB4⟩
theorem zNX (t:List ByteArray) (hf:Few t) (S T:List ByteArray→Bool) (h0:Rf.last Rf.zBh t < 0→zBi 217 T t)
  (h1:∀k:Nat,Rf.last Rf.zBh t=k→zBi 205 S (t.take k)∧zBi 217 T (t.drop (k+1))):zBi 205 (Rf.zDs S T) t:=by
 intro w v hv
 have hl:=hf.1
 have HF:=zB hf
 clear hf
 have HA:=zB (And.intro h0 h1)
 clear h0 h1
 obtain⟨ad,cap,rfl,hcap⟩:=hv.form
 go_enter Tryz.func205,Tryz.ntmps205
 go_wp2_with fail
 refine(zHi _).mono ?_
 rintro e w1 ⟨sv,rfl,hsv,hb1⟩
 have hv1:=hv.zH hb1
 have hnil:=hv.zAM
 go_wp2_with fail
 refine(zEk _ _ _ t Rf.zBh hv1 hsv (by omega) (by decide) (zA HF).2).mono ?_
 rintro e w2 ⟨rfl,hb2⟩
 have HB:=zB (hb1.trans (hb2.mono (B':=w.heap.size) hb1.size))
 have HV:=zB (hv1.zH hb2)
 clear hv hb1 hv1 hb2 hsv
 have hlb:=Rf.zDK Rf.zBh t t.length
 have hlb':-1≤Rf.last Rf.zBh t∧Rf.last Rf.zBh t < (t.length:Int)∧(Rf.last Rf.zBh t=-1∨0 < Rf.last Rf.zBh t):=hlb
 clear hlb
 by_cases hneg:Rf.last Rf.zBh t < 0
 ·have HE:=zB (show Rf.zDs S T t=T t by rw[Rf.zDs,if_pos hneg])
  go_wp2_with fail
  refine((zA HA).1 hneg _ _ (zA HV)).mono ?_
  rintro e w3 ⟨rfl,hb3⟩
  have HB3:=zB ((zA HB).trans (hb3.mono (B':=w.heap.size) (zA HB).size))
  clear hb3
  go_wp2_with fail
  go_ret
  exact⟨by rw[zA HE];rfl,zA HB3⟩
 ·obtain⟨k,hk⟩:∃k:Nat,Rf.last Rf.zBh t=k:=⟨(Rf.last Rf.zBh t).toNat,by omega⟩
  have HE:=zB (show Rf.zDs S T t=(S (t.take k) && T (t.drop (k+1))) by rw[Rf.zDs,if_neg hneg,hk];rfl)
  obtain⟨ha,hb⟩:=(zA HA).2 k hk
  rw[hk]at hlb' hneg ⊢
  obtain⟨b,o,rfl⟩:=hnil (by intro h;rw[h]at hlb';simp at hlb';omega)
  have hkl:k < t.length:=by omega
  have HS:=zB (And.intro ha hb)
  clear ha hb
  go_wp2_with fail
  refine((zA HS).1 _ _ ((zA HV).take k _ (by omega) (by omega))).mono ?_
  rintro e w3 ⟨rfl,hb3⟩
  have HV3:=zB ((zA HV).zH hb3)
  have HB3:=zB ((zA HB).trans (hb3.mono (B':=w.heap.size) (zA HB).size))
  clear hb3
  go_wp2_with fail
  all_goals
   refine((zA HS).2 _ _ (by first | exact zu.gone (by omega) rfl | exact(zA HV3).drop (k+1) _ _ rfl (by omega))).mono ?_
   rintro e w4 ⟨rfl,hb4⟩
   have HB4:=zB ((zA HB3).trans (hb4.mono (B':=w.heap.size) (zA HB3).size))
   clear hb4
   go_wp2_with fail
   all_goals
    go_ret
    exact⟨by rw[zA HE];exact zj (by simp_all),zA HB4⟩
theorem zu.mid {w:World} {b o cap:Nat} {t:List ByteArray} (h:zu w (.slice (some ⟨b,o,none⟩) t.length cap) t) (i j n c:Nat) (hj:j≤t.length) (hn:n=j-i) (hc:n≤c):zu w (.slice (some ⟨b,o+i,none⟩) n c) ((t.take j).drop i):=by
 have h1:=h.take j j hj (Nat.le_refl _)
 have h2:zu w (.slice (some ⟨b,o,none⟩) (t.take j).length j) (t.take j):=by rw[List.length_take,Nat.min_eq_left hj];exact h1
 exact h2.drop i n c (by rw[List.length_take,Nat.min_eq_left hj];exact hn) hc
theorem zK4 (t:List ByteArray) (hf:Few t) (F E C:List ByteArray→Bool) (h0:2≤t.length→zBi 217 F (t.drop 1))
  (h1:2≤t.length→zBi 135 E ((t.take (t.length-1)).drop 1)) (h2:zBi 177 C t):zBi 217 (Rf.zBT F E C) t:=by
 intro w v hv
 have hl:=hf.1
 have HA:=zB (And.intro h0 (And.intro h1 h2))
 clear h0 h1 h2
 obtain⟨ad,cap,rfl,hcap⟩:=hv.form
 by_cases hz:t.length=0
 ·have HE:=zB (show Rf.zBT F E C t=false by rw[Rf.zBT,if_pos hz])
  have hz':(t.length:Int)=0:=by omega
  go_enter Tryz.func217,Tryz.ntmps217
  go_wp2_with fail
  go_ret
  exact⟨by rw[zA HE];rfl,Below.refl _ _⟩
 ·obtain⟨b,o,rfl⟩:=hv.zAM (by intro h;rw[h]at hz;simp at hz)
  have h0l:0 < t.length:=by omega
  have h1l:t.length-1 < t.length:=by omega
  have hx0:=hf.2 _ (List.getElem_mem h0l)
  have HV:=zB hv
  have cells:∀w',zu w' (.slice (some ⟨b,o,none⟩) t.length cap) t→w'.cell? ⟨b,o,none⟩=some (.string t[0])∧w'.cell? ⟨b,o+(t.length-1),none⟩=some (.string t[t.length-1]):=by
   intro w' h
   obtain⟨b',o',cap',he,c0⟩:=h.cell h0l
   obtain⟨b2,o2,cap2,he2,c1⟩:=h.cell h1l
   simp at he he2
   obtain⟨⟨rfl,rfl⟩,rfl⟩:=he
   obtain⟨⟨rfl,rfl⟩,rfl⟩:=he2
   exact⟨c0,c1⟩
  obtain⟨c0,c1⟩:=cells _ hv
  have HC:=zB cells
  clear cells hv
  have F0:=zB (Rf.zAi h0l)
  have F1:=zB (Rf.zAi h1l)
  have hx0':t[0].size≤maxLen:=by unfold maxLen;omega
  have HE:=zB (show Rf.zBT F E C t=if t.length=1 then Rf.zi t[0] || Rf.zAF t[0]else if (t[0].toList==[45])=true then F (t.drop 1)else if (t[0].toList==[40])=true∧(t[t.length-1].toList==[41])=true then E ((t.take (t.length-1)).drop 1)else C t by
   rw[Rf.zBT,if_neg hz,Rf.first,Rf.final,zA F0,zA F1])
  clear hx0
  generalize t[0]=x at *
  generalize t[t.length-1]=y at *
  have hz':¬(t.length:Int)=0:=by omega
  go_enter Tryz.func217,Tryz.ntmps217
  go_wp2_with fail
  refine(zDJ x _ hx0').mono ?_
  rintro e w1 ⟨rfl,hb1⟩
  have HV1:=zB ((zA HV).zH hb1)
  have HB1:=zB hb1
  obtain⟨d0,d1⟩:=zA HC _ (zA HV1)
  clear hb1 c0 c1
  by_cases h1:t.length=1
  ·have h1':(t.length:Int)=1:=by omega
   rw[if_pos h1]at HE
   go_wp2_with (go_at_call 139;refine(zC5 x _ hx0').mono ?_;rintro e w' ⟨rfl,rfl⟩)
   all_goals
    go_ret
    exact⟨by rw[zA HE];exact zj (by simp_all),zA HB1⟩
  ·have h1':¬(t.length:Int)=1:=by omega
   rw[if_neg h1]at HE
   cases hm:(x.toList==[45])with
   | true=>
    rw[if_pos hm]at HE
    go_wp2_with fail
    all_goals
     refine((zA HA).1 (by omega) _ _ (by first | exact zu.gone (by omega) rfl | exact(zA HV1).drop 1 _ _ rfl (by omega))).mono ?_
     rintro e w2 ⟨rfl,hb2⟩
     have HB2:=zB ((zA HB1).trans (hb2.mono (B':=w.heap.size) (zA HB1).size))
     clear hb2
     go_wp2_with fail
     go_ret
     exact⟨by rw[zA HE];first | rfl | exact zj (by simp),zA HB2⟩
   | false=>
    rw[if_neg (by rw[hm];decide)]at HE
    by_cases hp:(x.toList==[40])=true∧(y.toList==[41])=true
    ·rw[if_pos hp]at HE
     obtain⟨p1,p2⟩:=hp
     go_wp2_with fail
     all_goals
      refine((zA HA).2.1 (by omega) _ _ (by first | exact(zA HV1).mid 1 (t.length-1) _ _ (by omega) rfl (by omega)| exact(zA HV1).mid 1 (t.length-1) _ _ (by omega) (by omega) (by omega))).mono ?_
      rintro e w2 ⟨rfl,hb2⟩
      have HB2:=zB ((zA HB1).trans (hb2.mono (B':=w.heap.size) (zA HB1).size))
      clear hb2
      go_wp2_with fail
      go_ret
      exact⟨by rw[zA HE];first | rfl | exact zj (by simp),zA HB2⟩
    ·rw[if_neg hp]at HE
     cases p1:(x.toList==[40])
     ·go_wp2_with fail
      refine((zA HA).2.2 _ _ (zA HV1)).mono ?_
      rintro e w2 ⟨rfl,hb2⟩
      have HB2:=zB ((zA HB1).trans (hb2.mono (B':=w.heap.size) (zA HB1).size))
      clear hb2
      go_wp2_with fail
      go_ret
      exact⟨by rw[zA HE];first | rfl | exact zj (by simp),zA HB2⟩
     ·have p2:(y.toList==[41])=false:=by cases h:(y.toList==[41])with | false=>rfl | true=>exact absurd ⟨p1,h⟩ hp
      go_wp2_with fail
      refine((zA HA).2.2 _ _ (zA HV1)).mono ?_
      rintro e w2 ⟨rfl,hb2⟩
      have HB2:=zB ((zA HB1).trans (hb2.mono (B':=w.heap.size) (zA HB1).size))
      clear hb2
      go_wp2_with fail
      go_ret
      exact⟨by rw[zA HE];first | rfl | exact zj (by simp),zA HB2⟩
theorem zNb (t:List ByteArray) (hf:Few t) (E:List ByteArray→Bool) (h1:4≤t.length→zBi 135 E ((t.take (t.length-1)).drop 2)):zBi 177 (Rf.zBW E) t:=by
 intro w v hv
 have hl:=hf.1
 have HA:=zB h1
 clear h1
 obtain⟨ad,cap,rfl,hcap⟩:=hv.form
 by_cases hz:t.length < 4
 ·have HE:=zB (show Rf.zBW E t=false by rw[Rf.zBW,if_pos (Or.inl hz)])
  have hz':(t.length:Int) < 4:=by omega
  go_enter Tryz.func177,Tryz.ntmps177
  go_wp2_with fail
  go_ret
  exact⟨by rw[zA HE];rfl,Below.refl _ _⟩
 ·obtain⟨b,o,rfl⟩:=hv.zAM (by intro h;rw[h]at hz;simp at hz)
  have h0l:0 < t.length:=by omega
  have h1l:1 < t.length:=by omega
  have h2l:t.length-1 < t.length:=by omega
  have hx0:=hf.2 _ (List.getElem_mem h0l)
  have HV:=zB hv
  have cells:∀w',zu w' (.slice (some ⟨b,o,none⟩) t.length cap) t→w'.cell? ⟨b,o,none⟩=some (.string t[0])∧w'.cell? ⟨b,o+1,none⟩=some (.string t[1])∧w'.cell? ⟨b,o+(t.length-1),none⟩=some (.string t[t.length-1]):=by
   intro w' h
   obtain⟨b',o',cap',he,c0⟩:=h.cell h0l
   obtain⟨b2,o2,cap2,he2,c1⟩:=h.cell h1l
   obtain⟨b3,o3,cap3,he3,c2⟩:=h.cell h2l
   simp at he he2 he3
   obtain⟨⟨rfl,rfl⟩,rfl⟩:=he
   obtain⟨⟨rfl,rfl⟩,rfl⟩:=he2
   obtain⟨⟨rfl,rfl⟩,rfl⟩:=he3
   exact⟨c0,c1,c2⟩
  obtain⟨c0,c1,c2⟩:=cells _ hv
  clear cells hv
  have F0:=zB (Rf.zAi h0l)
  have F1:=zB (Rf.zAi h1l)
  have F2:=zB (Rf.zAi h2l)
  have hx0':t[0].size≤maxLen:=by unfold maxLen;omega
  have HE:=zB (show Rf.zBW E t=if (t[1].toList==[91])=false∨(t[t.length-1].toList==[93])=false then false else Rf.zi t[0] && E ((t.take (t.length-1)).drop 2) by
   rw[Rf.zBW,Rf.first,Rf.final,zA F0,zA F1,zA F2]
   by_cases h:(t[1].toList==[91])=false∨(t[t.length-1].toList==[93])=false
   ·rw[if_pos h,if_pos (Or.inr h)]
   ·rw[if_neg h,if_neg (by rintro (h' | h');exact hz h';exact h h')])
  clear hx0
  generalize t[0]=x at *
  generalize t[1]=z at *
  generalize t[t.length-1]=y at *
  have hz':¬(t.length:Int) < 4:=by omega
  cases q1:(z.toList==[91])with
  | false=>
   rw[if_pos (Or.inl q1)]at HE
   go_enter Tryz.func177,Tryz.ntmps177
   go_wp2_with fail
   go_ret
   exact⟨by rw[zA HE];rfl,Below.refl _ _⟩
  | true=>
   cases q2:(y.toList==[93])with
   | false=>
    rw[if_pos (Or.inr q2)]at HE
    go_enter Tryz.func177,Tryz.ntmps177
    go_wp2_with fail
    go_ret
    exact⟨by rw[zA HE];rfl,Below.refl _ _⟩
   | true=>
    rw[if_neg (by simp[q1,q2])]at HE
    go_enter Tryz.func177,Tryz.ntmps177
    go_wp2_with fail
    refine(zDJ x _ hx0').mono ?_
    rintro e w1 ⟨rfl,hb1⟩
    have HV1:=zB ((zA HV).zH hb1)
    have HB1:=zB hb1
    clear hb1 c0 c1 c2
    go_wp2_with fail
    refine(zA HA (by omega) _ _ (by first | exact(zA HV1).mid 2 (t.length-1) _ _ (by omega) rfl (by omega)| exact(zA HV1).mid 2 (t.length-1) _ _ (by omega) (by omega) (by omega))).mono ?_
    rintro e w2 ⟨rfl,hb2⟩
    have HB2:=zB ((zA HB1).trans (hb2.mono (B':=w.heap.size) (zA HB1).size))
    clear hb2
    go_wp2_with fail
    all_goals
     go_ret
     exact⟨by rw[zA HE];exact zj (by simp_all),zA HB2⟩
theorem zBD:∀(f:Nat) (t:List ByteArray),Few t→
  (5*t.length+5≤f→zBi 135 (Rf.gr f 0) t)∧(5*t.length+4≤f→zBi 176 (Rf.gr f 1) t)∧(5*t.length+3≤f→zBi 205 (Rf.gr f 2) t)∧
  (5*t.length+2≤f→zBi 217 (Rf.gr f 3) t)∧(5*t.length+1≤f→zBi 177 (Rf.gr f 4) t)
 | 0,t,_=>⟨by omega,by omega,by omega,by omega,by omega⟩
 | f+1,t,hf=>by
  refine⟨fun h=>?_,fun h=>?_,fun h=>?_,fun h=>?_,fun h=>?_⟩
  ·refine zNa t hf (Rf.gr f 1) (fun _=>(zBD f t hf).2.1 (by omega)) (fun k hk=>?_)
   have hlb:=Rf.zDK Rf.zBG t t.length
   have hk':Rf.zBS Rf.zBG t t.length=k:=hk
   exact⟨(zBD f _ (hf.take k)).2.1 (by simp;omega),(zBD f _ (hf.drop (k+1))).2.1 (by simp;omega)⟩
  ·refine zOv t hf (Rf.gr f 1) (Rf.gr f 2) (fun _=>(zBD f t hf).2.2.1 (by omega)) (fun k hk=>?_)
   have hlb:=Rf.zDK Rf.zBL t t.length
   have hk':Rf.zBS Rf.zBL t t.length=k:=hk
   exact⟨(zBD f _ (hf.take k)).2.1 (by simp;omega),(zBD f _ (hf.drop (k+1))).2.2.1 (by simp;omega)⟩
  ·refine zNX t hf (Rf.gr f 2) (Rf.gr f 3) (fun _=>(zBD f t hf).2.2.2.1 (by omega)) (fun k hk=>?_)
   have hlb:=Rf.zDK Rf.zBh t t.length
   have hk':Rf.zBS Rf.zBh t t.length=k:=hk
   exact⟨(zBD f _ (hf.take k)).2.2.1 (by simp;omega),(zBD f _ (hf.drop (k+1))).2.2.2.1 (by simp;omega)⟩
  ·exact zK4 t hf (Rf.gr f 3) (Rf.gr f 0) (Rf.gr f 4) (fun _=>(zBD f _ (hf.drop 1)).2.2.2.1 (by simp;omega)) (fun _=>(zBD f _ ((hf.take _).drop 1)).1 (by simp;omega)) ((zBD f t hf).2.2.2.2 (by omega))
  ·exact zNb t hf (Rf.gr f 0) (fun _=>(zBD f _ ((hf.take _).drop 2)).1 (by simp;omega))
theorem zBi.of {fn:Nat} {F G:List ByteArray→Bool} {t:List ByteArray} (h:zBi fn F t) (e:G t=F t):zBi fn G t:=by
 unfold zBi at h ⊢;rw[e];exact h
theorem zD9 (t:List ByteArray) (hf:Few t):zBi 135 Rf.zAV t:=((zBD (5*t.length+5) t hf).1 (Nat.le_refl _)).of (by unfold Rf.zAV;rfl)
theorem zOy (t:List ByteArray) (hf:Few t):zBi 177 Rf.zE8 t:=((zBD (5*t.length+1) t hf).2.2.2.2 (Nat.le_refl _)).of (by unfold Rf.zE8;rfl)
theorem zAm (w:World) (tv:Value) (t:List ByteArray) (ht:zu w tv t) (hf:Few t) :
  Calls Tryz.prog 134 #[tv] w fun e w'=>e=.returned (.bool (Rf.zBd t))∧Below w.heap.size w w':=by
 have hl:=hf.1
 obtain⟨ad,cap,rfl,hcap⟩:=ht.form
 go_enter Tryz.func134,Tryz.ntmps134
 go_wp2
 go_loopw [3] (fun i wr=>∃k:Nat,k≤t.length∧i=.int .i64 k∧(t.drop k).all Rf.zi=Rf.zBd t∧zu wr (.slice ad t.length cap) t∧Below w.heap.size w wr) (fun i _=>t.length-(intOf i).toNat)
 case atStart=>exact⟨0,Nat.zero_le _,rfl,rfl,ht,Below.refl _ _⟩
 case round=>
  obtain⟨k,hk,rfl,hT,ht2,hbe⟩:=hrel
  by_cases hlt:k < t.length
  ·obtain⟨b,o,cap',he,cx⟩:=ht2.cell hlt
   simp at he
   obtain⟨rfl,rfl⟩:=he
   have hx:=hf.2 _ (List.getElem_mem hlt)
   rw[List.drop_eq_getElem_cons hlt,List.all_cons]at hT
   have HT:=zB hT
   have HX:=zB (And.intro ht2 hbe)
   have hx':t[k].size≤maxLen:=by unfold maxLen;omega
   have hlt':(k:Int) < (t.length:Int):=by omega
   clear hT hx ht2 hbe
   generalize t[k]=x at *
   go_wp2_with fail
   refine(zDJ x _ hx').mono ?_
   rintro e w1 ⟨rfl,hb1⟩
   have HB:=zB hb1
   clear hb1
   cases hn:Rf.zi x with
   | true=>
    go_wp2_with fail
    go_roundw
    case rel=>exact⟨k+1,by omega,by go_num,by have h:=zA HT;rw[hn]at h;simpa using h,(zA HX).1.zH (zA HB),(zA HX).2.trans ((zA HB).mono (zA HX).2.size)⟩
    case measure=>simp[intOf];omega
   | false=>
    go_wp2_with fail
    go_ret
    exact⟨by rw[←zA HT,hn];rfl,(zA HX).2.trans ((zA HB).mono (zA HX).2.size)⟩
  ·have hlt':¬(k:Int) < (t.length:Int):=by omega
   rw[List.drop_eq_nil_of_le (by omega)]at hT
   go_wp2_with fail
   go_ret
   exact⟨by rw[←hT];rfl,hbe⟩
theorem zFF (w:World) (tv:Value) (t:List ByteArray) (ht:zu w tv t) (hf:Few t) :
  Calls Tryz.prog 153 #[tv] w fun e w'=>e=.returned (.int .i64 (Rf.behind t))∧w'=w:=by
 have hl:=hf.1
 obtain⟨ad,cap,rfl,hcap⟩:=ht.form
 have HV:=zB ht
 clear ht
 go_enter Tryz.func153,Tryz.ntmps153
 go_wp2
 go_loop [3] (fun i=>∃k:Nat,k≤t.length∧i=.int .i64 k∧Rf.behindFrom (t.drop k) k=Rf.behind t) (fun i=>t.length-(intOf i).toNat)
 case atStart=>exact⟨0,Nat.zero_le _,rfl,rfl⟩
 case round=>
  obtain⟨k,hk,rfl,hT⟩:=hrel
  by_cases hlt:k < t.length
  ·obtain⟨b,o,cap',he,cx⟩:=(zA HV).cell hlt
   simp at he
   obtain⟨rfl,rfl⟩:=he
   rw[Rf.zNy hlt]at hT
   have HT:=zB hT
   have hlt':(k:Int) < (t.length:Int):=by omega
   clear hT
   generalize t[k]=x at *
   cases hn:(x.toList==[116,111])with
   | true=>
    rw[hn,if_pos rfl]at HT
    go_wp2_with fail
    go_ret
    exact⟨by rw[←zA HT];rfl,rfl⟩
   | false=>
    rw[hn,if_neg (by decide)]at HT
    go_wp2_with fail
    go_round
    case rel=>exact⟨k+1,by omega,by go_num,zA HT⟩
    case measure=>simp[intOf];omega
  ·have hlt':¬(k:Int) < (t.length:Int):=by omega
   rw[List.drop_eq_nil_of_le (by omega)]at hT
   go_wp2_with fail
   go_ret
   exact⟨by rw[←hT];rfl,rfl⟩
theorem zQe (t:List ByteArray) (hf:Few t):zBi 136 Rf.isSet t:=by
 intro w v hv
 have hl:=hf.1
 have HF:=zB hf
 obtain⟨ad,cap,rfl,hcap⟩:=hv.form
 have HV:=zB hv
 have hbb:=Rf.behind_b t
 have HE:=zB (show Rf.isSet t=if Rf.behind t < 2 then false else if Rf.behind t=2 then Rf.zi (Rf.at' t 1) && Rf.zAV (t.drop 3)else Rf.zE8 ((t.take (Rf.behind t)).drop 1) && Rf.zAV (t.drop (Rf.behind t+1))from rfl)
 clear hf
 by_cases h2:Rf.behind t < 2
 ·rw[if_pos h2]at HE
  clear hv
  go_enter Tryz.func136,Tryz.ntmps136
  go_wp2_with (go_at_call 153;refine(zFF _ _ t (zA HV) (zA HF)).mono ?_;rintro e w' ⟨rfl,rfl⟩)
  go_ret
  exact⟨by rw[zA HE];rfl,Below.refl _ _⟩
 ·rw[if_neg h2]at HE
  obtain⟨b,o,rfl⟩:=hv.zAM (by intro h;rw[h]at hbb;simp at hbb;rw[h]at h2;omega)
  have h1l:1 < t.length:=by omega
  have hx1:=(zA HF).2 _ (List.getElem_mem h1l)
  have hx1':t[1].size≤maxLen:=by unfold maxLen;omega
  have F1:=zB (Rf.zAi h1l)
  rw[zA F1]at HE
  have HC:Hid (∀w',zu w' (.slice (some ⟨b,o,none⟩) t.length cap) t→w'.cell? ⟨b,o+1,none⟩=some (.string t[1])):=zB (by
   intro w' h
   obtain⟨b',o',cap',he,c0⟩:=h.cell h1l
   simp at he
   obtain⟨⟨rfl,rfl⟩,rfl⟩:=he
   exact c0)
  clear hx1 hv
  generalize t[1]=x at *
  have hk:Rf.behind t < t.length:=by omega
  clear hbb
  go_enter Tryz.func136,Tryz.ntmps136
  go_wp2_with (go_at_call 153;refine(zFF _ _ t (zA HV) (zA HF)).mono ?_;rintro e w' ⟨rfl,rfl⟩)
  all_goals
   refine(zD9 _ ((zA HF).drop (Rf.behind t+1)) _ _ (by first | exact zu.gone (by omega) rfl | exact(zA HV).drop (Rf.behind t+1) _ _ rfl (by omega))).mono ?_
   rintro e w1 ⟨rfl,hb1⟩
   have HV1:=zB ((zA HV).zH hb1)
   have HB1:=zB hb1
   have cx:=zA HC _ (zA HV1)
   clear hb1
   by_cases hk2:Rf.behind t=2
   ·have hk2':(Rf.behind t:Int)=2:=by omega
    rw[if_pos hk2]at HE
    go_wp2_with (go_at_call 138;refine(zDJ x _ hx1').mono ?_;rintro e w2 ⟨rfl,hb2⟩;have HB2:=zB ((zA HB1).trans (hb2.mono (B':=w'.heap.size) (zA HB1).size));clear hb2)
    all_goals
     go_ret
     exact⟨by rw[zA HE];exact zj (by simp_all),zA HB2⟩
   ·have hk2':¬(Rf.behind t:Int)=2:=by omega
    rw[if_neg hk2]at HE
    go_wp2_with fail
    all_goals
     refine(zOy _ (((zA HF).take (Rf.behind t)).drop 1) _ _ (by first | exact(zA HV1).mid 1 (Rf.behind t) _ _ (by omega) rfl (by omega)| exact(zA HV1).mid 1 (Rf.behind t) _ _ (by omega) (by omega) (by omega))).mono ?_
     rintro e w2 ⟨rfl,hb2⟩
     have HB2:=zB ((zA HB1).trans (hb2.mono (B':=w'.heap.size) (zA HB1).size))
     clear hb2
     go_wp2_with fail
     all_goals
      go_ret
      exact⟨by rw[zA HE];exact zj (by simp_all),zA HB2⟩
theorem Tryz.zNd:(Tryz.prog.info? 87).map (fun i=>(i.zero,i.size,i.bytes))=some (some (.slice none 0 0),1,24):=by kernel_rfl
def zFG (w:World) (vs:List Value) (us:List (List ByteArray)):Prop:=vs.length=us.length∧∀j (h:j < us.length),∃v,vs[j]?=some v∧zu w v us[j]
theorem zFG.zH {w w':World} {vs:List Value} {us:List (List ByteArray)} (h:zFG w vs us) (hb:Below w.heap.size w w'):zFG w' vs us:=
 ⟨h.1,fun j hj=>let ⟨v,h1,h2⟩:=h.2 j hj;⟨v,h1,h2.zH hb⟩⟩
theorem zFG.snoc {w:World} {vs:List Value} {us:List (List ByteArray)} (h:zFG w vs us) {v:Value} {u:List ByteArray} (hv:zu w v u):zFG w (vs++[v]) (us++[u]):=by
 refine⟨by simp[h.1],fun j hj=>?_⟩
 by_cases hj':j < us.length
 ·obtain⟨v',h1,h2⟩:=h.2 j hj'
  exact⟨v',by rw[List.getElem?_append_left (by rw[h.1];exact hj')];exact h1,by rw[List.getElem_append_left hj'];exact h2⟩
 ·have hjj:j=us.length:=by simp at hj;omega
  subst hjj
  exact⟨v,by rw[List.getElem?_append_right (by rw[h.1];exact Nat.le_refl _),h.1];simp,by simpa using hv⟩
theorem zIE (w:World) (tv:Value) (t:List ByteArray) (ht:zu w tv t) (hf:Few t) :
  Calls Tryz.prog 156 #[tv] w fun e w'=>Below w.heap.size w w'∧∃v vs,e=.returned v∧w'.ownsRow w.heap.size 87 1 v (Rf.parts t).length vs∧zFG w' vs (Rf.parts t):=by
 have hl:=hf.1
 obtain⟨i0,hi,hz0,hz1,hz2⟩:=info_parts Tryz.zNd
 obtain⟨ad,cap,rfl,hcap⟩:=ht.form
 by_cases hz:t.length=0
 ·have hz':(t.length:Int)=0:=by omega
  have HE:=zB (show Rf.parts t=[] by rw[Rf.parts,if_pos hz])
  go_enter Tryz.func156,Tryz.ntmps156
  go_wp2_with fail
  go_ret
  exact⟨Below.refl _ _,_,[],rfl,by rw[zA HE];exact World.ownsRow_nil _ _ _ _,by rw[zA HE];exact⟨rfl,fun j h=>by simp at h⟩⟩
 ·have hz':((t.length:Int)==0)=false:=by rw[beq_eq_false_iff_ne];omega
  obtain⟨b,o,rfl⟩:=ht.zAM (by intro h;rw[h]at hz;simp at hz)
  have HE:=zB (show Rf.parts t=(Rf.zg t t.length).1++[t.drop (Rf.zg t t.length).2] by rw[Rf.parts,if_neg hz])
  go_enter Tryz.func156,Tryz.ntmps156
  go_wp2_with fail
  have HV:=zB ht
  clear ht
  go_loopw [3,4,5,6] (fun v d fr i wr=>∃(k:Nat) (vs:List Value),k≤t.length∧i=.int .i64 k∧fr=.int .i64 (Rf.zg t k).2∧d=.int .i64 (Rf.depth t k)∧wr.ownsRow w.heap.size 87 1 v (Rf.zg t k).1.length vs∧zFG w vs (Rf.zg t k).1∧Below w.heap.size w wr)
   (fun _ _ _ i _=>t.length-(intOf i).toNat)
  case atStart=>exact⟨0,[],Nat.zero_le _,rfl,rfl,rfl,World.ownsRow_nil _ _ _ _,⟨rfl,fun j h=>by simp[Rf.zg]at h⟩,Below.refl _ _⟩
  case round=>
   obtain⟨k,vs,hk,rfl,rfl,rfl,hown,hvs,hbe⟩:=hrel
   obtain⟨ad,cp,rfl⟩:=zE hown
   obtain⟨pb1,pb2⟩:=Rf.zGB t k
   have hsz:=hbe.size
   have hvl:=hvs.1
   by_cases hlt:k < t.length
   ·obtain⟨b',o',cap',he,cx⟩:=((zA HV).zH hbe).cell hlt
    simp at he
    obtain⟨⟨rfl,rfl⟩,rfl⟩:=he
    have hdb:=Rf.zMc t k
    have HD:=zB (show Rf.depth t (k+1)=Rf.depth t k+Rf.dch t[k] by rw[Rf.depth,Rf.zAi hlt])
    have HP:=zB (show Rf.zg t (k+1)=if (t[k].toList==[44])=true∧Rf.depth t k=0 then ((Rf.zg t k).1++[(t.take k).drop (Rf.zg t k).2],k+1)else Rf.zg t k by rw[Rf.zg,Rf.zAi hlt])
    have hlt':(k:Int) < (t.length:Int):=by omega
    have HX:=zB hvs
    clear hvs
    generalize t[k]=x at *
    generalize Rf.depth t k=d at *
    rcases Rf.zIO x with⟨h1,hd⟩| ⟨h1,h2,hd⟩| ⟨h1,h2,h3,hd⟩| ⟨h1,h2,h3,h4,hd⟩| ⟨h1,h2,h3,h4,hd⟩
    case inr.inr.inr.inr=>
     rw[hd]at HD
     clear hd
     by_cases h5:(x.toList==[44])=true∧d=0
     ·rw[if_pos h5]at HP
      obtain⟨h5,rfl⟩:=h5
      have hM:=(zA HV).mid (Rf.zg t k).2 k (k-(Rf.zg t k).2) (cap-(Rf.zg t k).2) (by omega) rfl (by omega)
      have HN:=zB ((zA HX).snoc hM)
      clear hM
      generalize (Rf.zg t k).2=fr at *
      generalize (Rf.zg t k).1=ps at *
      go_wp2_with (at_builtin;refine wpList_append_own _ rfl _ _ 83 rfl w.heap.size 87 i0 _ 1 24 Tryz.underlying83 hi hz0 hz1 hz2 rfl (by decide) _ _ _ rfl (hown.alloc _) ⟨_,0,none⟩ 1 1 [.slice (some ⟨b,o+fr,none⟩) (k-fr) (cap-fr)] rfl rfl (cell_one_new _ _ _) ?c2 ?c3 ?c4 ?c5 ?_)
      case c2=>first | rfl | (intro u hu;simp at hu;rcases hu with rfl;rfl)
      case c3=>unfold maxLen;omega
      case c4=>omega
      case c5=>first | omega | (simp;omega)
      intro v' w1 hown' hgrow _
      have hb2:=zAW hbe hsz hown hgrow
      clear hgrow hown hbe
      go_wp2_with fail
      go_roundw
      case rel=>exact⟨k+1,_,by omega,by go_num,by rw[zA HP];go_num,by rw[zA HD];rfl,by rw[zA HP];simpa using hown',by rw[zA HP];exact zA HN,hb2⟩
      case measure=>simp[intOf];omega
     ·rw[if_neg h5]at HP
      cases h6:(x.toList==[44])with
      | true=>
       have hd0:¬d=0:=fun h=>h5 ⟨h6,h⟩
       go_wp2_with fail
       go_roundw
       case rel=>exact⟨k+1,_,by omega,by go_num,by rw[zA HP],by rw[zA HD] <;> go_num,by rw[zA HP];exact hown,by rw[zA HP];exact zA HX,hbe⟩
       case measure=>simp[intOf];omega
      | false=>
       go_wp2_with fail
       go_roundw
       case rel=>exact⟨k+1,_,by omega,by go_num,by rw[zA HP],by rw[zA HD] <;> go_num,by rw[zA HP];exact hown,by rw[zA HP];exact zA HX,hbe⟩
       case measure=>simp[intOf];omega
    all_goals
     have h6:(x.toList==[44])=false:=by simp_all
     rw[hd]at HD
     rw[if_neg (by rw[h6];simp)]at HP
     clear hd h6
     go_wp2_with fail
     go_roundw
     case rel=>exact⟨k+1,_,by omega,by go_num,by rw[zA HP],by rw[zA HD] <;> go_num,by rw[zA HP];exact hown,by rw[zA HP];exact zA HX,hbe⟩
     case measure=>simp[intOf];omega
   ·have hlt':¬(k:Int) < (t.length:Int):=by omega
    have hkk:k=t.length:=by omega
    subst hkk
    have hM:∃o' c',zu w (.slice (some ⟨b,o',none⟩) (t.length-(Rf.zg t t.length).2) c') (t.drop (Rf.zg t t.length).2)∧(cap=(Rf.zg t t.length).2→o'=o∧c'=0)∧(¬cap=(Rf.zg t t.length).2→o'=o+(Rf.zg t t.length).2∧c'=cap-(Rf.zg t t.length).2):=by
     by_cases hc:cap=(Rf.zg t t.length).2
     ·exact⟨o,0,zu.gone (by omega) rfl,fun _=>⟨rfl,rfl⟩,fun h=>absurd hc h⟩
     ·exact⟨_,_,(zA HV).drop _ _ (cap-(Rf.zg t t.length).2) rfl (by omega),fun h=>absurd h hc,fun _=>⟨rfl,rfl⟩⟩
    obtain⟨o',c',hM1,hM2,hM3⟩:=hM
    have HN:=zB (hvs.snoc hM1)
    clear hM1 hvs
    generalize (Rf.zg t t.length).2=fr at *
    generalize (Rf.zg t t.length).1=ps at *
    by_cases hc:cap=fr
    ·obtain⟨rfl,rfl⟩:=hM2 hc
     clear hM2 hM3
     have hfl:fr=t.length:=by omega
     have hcl:cap=t.length:=by omega
     subst hfl
     rw[Nat.sub_self]at HN
     clear hc
     rw[hcl]
     clear hcl
     go_wp2_with (at_builtin;refine wpList_append_own _ rfl _ _ 83 rfl w.heap.size 87 i0 _ 1 24 Tryz.underlying83 hi hz0 hz1 hz2 rfl (by decide) _ _ _ rfl (hown.alloc _) ⟨_,0,none⟩ 1 1 [.slice (some ⟨b,o',none⟩) 0 0] rfl rfl (cell_one_new _ _ _) ?c2 ?c3 ?c4 ?c5 ?_)
     case c2=>first | rfl | (intro u hu;simp at hu;rcases hu with rfl;rfl)
     case c3=>unfold maxLen;omega
     case c4=>omega
     case c5=>first | omega | (simp;omega)
     intro v' w1 hown' hgrow _
     have hb2:=zAW hbe hsz hown hgrow
     clear hgrow hown hbe
     go_wp2
     go_ret
     exact⟨hb2,_,_,rfl,by rw[zA HE];simpa using hown',by rw[zA HE];exact(zA HN).zH hb2⟩
    ·obtain⟨rfl,rfl⟩:=hM3 hc
     clear hM2 hM3
     have hc1:¬cap-fr=0:=by omega
     have hc2:¬fr=cap:=by omega
     have hc3:¬cap≤fr:=by omega
     go_wp2_with (at_builtin;refine wpList_append_own _ rfl _ _ 83 rfl w.heap.size 87 i0 _ 1 24 Tryz.underlying83 hi hz0 hz1 hz2 rfl (by decide) _ _ _ rfl (hown.alloc _) ⟨_,0,none⟩ 1 1 [.slice (some ⟨b,o+fr,none⟩) (t.length-fr) (cap-fr)] rfl rfl (cell_one_new _ _ _) ?c2 ?c3 ?c4 ?c5 ?_)
     case c2=>first | rfl | (intro u hu;simp at hu;rcases hu with rfl;rfl)
     case c3=>unfold maxLen;omega
     case c4=>omega
     case c5=>first | omega | (simp;omega)
     intro v' w1 hown' hgrow _
     have hb2:=zAW hbe hsz hown hgrow
     clear hgrow hown hbe
     go_wp2
     go_ret
     exact⟨hb2,_,_,rfl,by rw[zA HE];simpa using hown',by rw[zA HE];exact(zA HN).zH hb2⟩
end Go.Proofs.YthleadfkfnnadaaGreat
