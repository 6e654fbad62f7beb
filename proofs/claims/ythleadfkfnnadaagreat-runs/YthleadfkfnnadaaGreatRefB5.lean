/- The document's answer: what a line may be, by its first word. -/
import Derived.Test.YthleadfkfnnadaaGreatRef9
set_option maxHeartbeats 4000000
set_option maxRecDepth 100000
namespace Go.Proofs.YthleadfkfnnadaaGreat
open Go.RowKit
theorem zFa {t:List ByteArray} (h:Few t):∀i,∀u∈(Rf.zg t i).1,Few u
 | 0,u,hu=>by simp[Rf.zg]at hu
 | i+1,u,hu=>by
  rw[Rf.zg]at hu
  split at hu
  ·simp at hu
   rcases hu with hu | rfl
   ·exact zFa h i u hu
   ·exact(h.take _).drop _
  ·exact zFa h i u hu
theorem zQG {t:List ByteArray} (h:Few t):∀u∈Rf.parts t,Few u:=by
 intro u hu
 rw[Rf.parts]at hu
 split at hu
 ·simp at hu
 ·simp at hu
  rcases hu with hu | rfl
  ·exact zFa h _ u hu
  ·exact h.drop _
theorem zHK (t:List ByteArray):(Rf.parts t).length≤t.length+1:=by
 have:=(Rf.zGB t t.length).2
 rw[Rf.parts];split <;> simp;omega
theorem zOz (t:List ByteArray) (hf:Few t):zBi 137 Rf.zEA t:=by
 intro w v hv
 have hl:=hf.1
 have HF:=zB hf
 obtain⟨ad,cap,rfl,hcap⟩:=hv.form
 by_cases h2:t.length < 2
 ·have HE:=zB (show Rf.zEA t=false by rw[Rf.zEA,if_pos h2])
  have h2':(t.length:Int) < 2:=by omega
  go_enter Tryz.func137,Tryz.ntmps137
  go_wp2_with fail
  go_ret
  exact⟨by rw[zA HE];rfl,Below.refl _ _⟩
 ·obtain⟨b,o,rfl⟩:=hv.zAM (by intro h;rw[h]at h2;simp at h2)
  have h1l:1 < t.length:=by omega
  have HE:=zB (show Rf.zEA t=((Rf.parts (t.drop 2)).all Rf.zAV && Rf.zi t[1]) by rw[Rf.zEA,if_neg h2,Rf.zAi h1l])
  have hx1:=hf.2 _ (List.getElem_mem h1l)
  have hx1':t[1].size≤maxLen:=by unfold maxLen;omega
  have HV:=zB hv
  obtain⟨b',o',cap',he,cx⟩:=hv.cell h1l
  simp at he
  obtain⟨⟨rfl,rfl⟩,rfl⟩:=he
  clear hx1 hv
  generalize t[1]=x at *
  have h2':¬(t.length:Int) < 2:=by omega
  have HP:=zB (And.intro (zQG (hf.drop 2)) (zHK (t.drop 2)))
  clear hf
  go_enter Tryz.func137,Tryz.ntmps137
  go_wp2_with fail
  refine(zDJ x _ hx1').mono ?_
  rintro e w1 ⟨rfl,hb1⟩
  have HV1:=zB ((zA HV).zH hb1)
  have HB1:=zB hb1
  clear hb1 cx
  go_wp2_with fail
  all_goals
   refine(zIE _ _ (t.drop 2) (by first | exact zu.gone (by omega) rfl | exact(zA HV1).drop 2 _ _ rfl (by omega)) ((zA HF).drop 2)).mono ?_
   rintro e w2 ⟨hb2,v2,vs,rfl,hown,hvs⟩
   have hpl:(Rf.parts (t.drop 2)).length≤1001:=by have:=(zA HP).2;simp at this;omega
   obtain⟨ad2,cp2,rfl⟩:=zE hown
   have HB2:=zB ((zA HB1).trans (hb2.mono (B':=w.heap.size) (zA HB1).size))
   clear hb2
   go_wp2_with fail
   have hpf:=(zA HP).1
   generalize Rf.parts (t.drop 2)=ps at *
   have HPF:=zB hpf
   clear hpf HP
   go_loopw [5] (fun i wr=>∃k:Nat,k≤ps.length∧i=.int .i64 k∧(ps.drop k).all Rf.zAV=ps.all Rf.zAV∧wr.ownsRow w1.heap.size 87 1 (.slice ad2 ps.length cp2) ps.length vs∧zFG wr vs ps∧Below w.heap.size w wr) (fun i _=>ps.length-(intOf i).toNat)
   case atStart=>exact⟨0,Nat.zero_le _,rfl,rfl,hown,hvs,zA HB2⟩
   case round=>
    obtain⟨k,hk,rfl,hT,hown3,hvs3,hbe3⟩:=hrel
    by_cases hlt:k < ps.length
    ·obtain⟨u,hu1,hu2⟩:=hvs3.2 k hlt
     obtain⟨g,cap',hg,_,_,cx⟩:=zW hown3 hu1
     simp at hg
     obtain⟨rfl,rfl⟩:=hg
     rw[List.drop_eq_getElem_cons hlt,List.all_cons]at hT
     have hfk:=zA HPF _ (List.getElem_mem hlt)
     have HT:=zB hT
     have HU:=zB hu2
     have HX:=zB (And.intro hown3 (And.intro hvs3 hbe3))
     have HK:=zB hfk
     have hlt':(k:Int) < (ps.length:Int):=by omega
     clear hT hu2 hown3 hvs3 hbe3 hfk hu1
     generalize ps[k]=y at *
     go_wp2_with fail
     refine(zD9 y (zA HK) _ _ (zA HU)).mono ?_
     rintro e w4 ⟨rfl,hb4⟩
     have HB4:=zB hb4
     clear hb4
     cases hn:Rf.zAV y with
     | true=>
      go_wp2_with fail
      go_roundw
      case rel=>exact⟨k+1,by omega,by go_num,by have h:=zA HT;rw[hn]at h;simpa using h,zZ (zA HX).1 (zA HB4),(zA HX).2.1.zH (zA HB4),(zA HX).2.2.trans ((zA HB4).mono (zA HX).2.2.size)⟩
      case measure=>simp[intOf];omega
     | false=>
      go_wp2_with fail
      go_ret
      exact⟨by rw[zA HE,←zA HT,hn];rfl,(zA HX).2.2.trans ((zA HB4).mono (zA HX).2.2.size)⟩
    ·have hlt':¬(k:Int) < (ps.length:Int):=by omega
     rw[List.drop_eq_nil_of_le (by omega)]at hT
     go_wp2_with fail
     go_ret
     exact⟨by rw[zA HE,←hT];exact zj (by simp),hbe3⟩
theorem isLine_0 (t:List ByteArray) (hf:Few t) (h0l:0 < t.length) (e0:(t[0].toList==[101,110,100])=true):zBi 81 Rf.zx t:=by
 intro w v hv
 have hl:=hf.1
 have HF:=zB hf
 obtain⟨ad,cap,rfl,hcap⟩:=hv.form
 obtain⟨b,o,rfl⟩:=hv.zAM (by intro h;rw[h]at h0l;simp at h0l)
 have hz:¬t.length=0:=by omega
 have HE0:Rf.zx t=Rf.isKind t t[0].toList:=by rw[Rf.zx,if_neg hz,Rf.first,Rf.zAi h0l]
 unfold Rf.isKind at HE0
 rw[e0,if_pos rfl]at HE0
 have HE:=zB HE0
 clear HE0
 have HC:Hid (∀w' j (hj:j < t.length),zu w' (.slice (some ⟨b,o,none⟩) t.length cap) t→w'.cell? ⟨b,o+j,none⟩=some (.string t[j])):=zB (by
  intro w' j hj h
  obtain⟨b',o',cap',he,c0⟩:=h.cell hj
  simp at he
  obtain⟨⟨rfl,rfl⟩,rfl⟩:=he
  exact c0)
 have HC0:Hid (∀w',zu w' (.slice (some ⟨b,o,none⟩) t.length cap) t→w'.cell? ⟨b,o,none⟩=some (.string t[0])):=zB (fun w' h=>zA HC w' 0 h0l h)
 have HV:=zB hv
 have hz':((t.length:Int)==0)=false:=by rw[beq_eq_false_iff_ne];omega
 clear hv hf
 generalize t[0]=x at *
 go_enter Tryz.func81,Tryz.ntmps81
 go_wp2_with fail
 all_goals
  refine(zAm _ _ (t.drop 1) (by first | exact zu.gone (by omega) rfl | exact(zA HV).drop 1 _ _ rfl (by omega)) ((zA HF).drop 1)).mono ?_
  rintro e w1 ⟨rfl,hb1⟩
  have HV1:=zB ((zA HV).zH hb1)
  have HB1:=zB hb1
  have cx:=zA HC0 _ (zA HV1)
  clear hb1
  go_wp2_with fail
  go_ret
  exact⟨by rw[zA HE];exact zj (by rw[Bool.eq_iff_iff];simp;omega),zA HB1⟩
theorem isLine_1 (t:List ByteArray) (hf:Few t) (h0l:0 < t.length) (e0:(t[0].toList==[101,110,100])=false) (e1:(t[0].toList==[101,108,115,101])=true):zBi 81 Rf.zx t:=by
 intro w v hv
 have hl:=hf.1
 have HF:=zB hf
 obtain⟨ad,cap,rfl,hcap⟩:=hv.form
 obtain⟨b,o,rfl⟩:=hv.zAM (by intro h;rw[h]at h0l;simp at h0l)
 have hz:¬t.length=0:=by omega
 have HE0:Rf.zx t=Rf.isKind t t[0].toList:=by rw[Rf.zx,if_neg hz,Rf.first,Rf.zAi h0l]
 unfold Rf.isKind at HE0
 rw[e0,if_neg (by decide),e1,if_pos rfl]at HE0
 have HE:=zB HE0
 clear HE0
 have HC:Hid (∀w' j (hj:j < t.length),zu w' (.slice (some ⟨b,o,none⟩) t.length cap) t→w'.cell? ⟨b,o+j,none⟩=some (.string t[j])):=zB (by
  intro w' j hj h
  obtain⟨b',o',cap',he,c0⟩:=h.cell hj
  simp at he
  obtain⟨⟨rfl,rfl⟩,rfl⟩:=he
  exact c0)
 have HC0:Hid (∀w',zu w' (.slice (some ⟨b,o,none⟩) t.length cap) t→w'.cell? ⟨b,o,none⟩=some (.string t[0])):=zB (fun w' h=>zA HC w' 0 h0l h)
 have HV:=zB hv
 have hz':((t.length:Int)==0)=false:=by rw[beq_eq_false_iff_ne];omega
 clear hv hf
 generalize t[0]=x at *
 go_enter Tryz.func81,Tryz.ntmps81
 go_wp2_with fail
 all_goals
  refine(zAm _ _ (t.drop 1) (by first | exact zu.gone (by omega) rfl | exact(zA HV).drop 1 _ _ rfl (by omega)) ((zA HF).drop 1)).mono ?_
  rintro e w1 ⟨rfl,hb1⟩
  have HV1:=zB ((zA HV).zH hb1)
  have HB1:=zB hb1
  have cx:=zA HC0 _ (zA HV1)
  clear hb1
  go_wp2_with fail
  go_ret
  exact⟨by rw[zA HE];exact zj (by rw[Bool.eq_iff_iff];simp;omega),zA HB1⟩
theorem isLine_2 (t:List ByteArray) (hf:Few t) (h0l:0 < t.length) (e0:(t[0].toList==[101,110,100])=false) (e1:(t[0].toList==[101,108,115,101])=false) (e2:(t[0].toList==[114,101,116,117,114,110])=true):zBi 81 Rf.zx t:=by
 intro w v hv
 have hl:=hf.1
 have HF:=zB hf
 obtain⟨ad,cap,rfl,hcap⟩:=hv.form
 obtain⟨b,o,rfl⟩:=hv.zAM (by intro h;rw[h]at h0l;simp at h0l)
 have hz:¬t.length=0:=by omega
 have HE0:Rf.zx t=Rf.isKind t t[0].toList:=by rw[Rf.zx,if_neg hz,Rf.first,Rf.zAi h0l]
 unfold Rf.isKind at HE0
 rw[e0,if_neg (by decide),e1,if_neg (by decide),e2,if_pos rfl]at HE0
 have HE:=zB HE0
 clear HE0
 have HC:Hid (∀w' j (hj:j < t.length),zu w' (.slice (some ⟨b,o,none⟩) t.length cap) t→w'.cell? ⟨b,o+j,none⟩=some (.string t[j])):=zB (by
  intro w' j hj h
  obtain⟨b',o',cap',he,c0⟩:=h.cell hj
  simp at he
  obtain⟨⟨rfl,rfl⟩,rfl⟩:=he
  exact c0)
 have HC0:Hid (∀w',zu w' (.slice (some ⟨b,o,none⟩) t.length cap) t→w'.cell? ⟨b,o,none⟩=some (.string t[0])):=zB (fun w' h=>zA HC w' 0 h0l h)
 have HV:=zB hv
 have hz':((t.length:Int)==0)=false:=by rw[beq_eq_false_iff_ne];omega
 clear hv hf
 generalize t[0]=x at *
 go_enter Tryz.func81,Tryz.ntmps81
 go_wp2_with fail
 all_goals
  refine(zAm _ _ (t.drop 1) (by first | exact zu.gone (by omega) rfl | exact(zA HV).drop 1 _ _ rfl (by omega)) ((zA HF).drop 1)).mono ?_
  rintro e w1 ⟨rfl,hb1⟩
  have HV1:=zB ((zA HV).zH hb1)
  have HB1:=zB hb1
  have cx:=zA HC0 _ (zA HV1)
  clear hb1
  go_wp2_with fail
  go_ret
  exact⟨by rw[zA HE];exact zj (by rw[Bool.eq_iff_iff];simp;omega),zA HB1⟩
theorem isLine_3 (t:List ByteArray) (hf:Few t) (h0l:0 < t.length) (e0:(t[0].toList==[101,110,100])=false) (e1:(t[0].toList==[101,108,115,101])=false) (e2:(t[0].toList==[114,101,116,117,114,110])=false) (e3:(t[0].toList==[118,97,114])=true):zBi 81 Rf.zx t:=by
 intro w v hv
 have hl:=hf.1
 have HF:=zB hf
 obtain⟨ad,cap,rfl,hcap⟩:=hv.form
 obtain⟨b,o,rfl⟩:=hv.zAM (by intro h;rw[h]at h0l;simp at h0l)
 have hz:¬t.length=0:=by omega
 have HE0:Rf.zx t=Rf.isKind t t[0].toList:=by rw[Rf.zx,if_neg hz,Rf.first,Rf.zAi h0l]
 unfold Rf.isKind at HE0
 rw[e0,if_neg (by decide),e1,if_neg (by decide),e2,if_neg (by decide),e3,if_pos rfl]at HE0
 have HE:=zB HE0
 clear HE0
 have HC:Hid (∀w' j (hj:j < t.length),zu w' (.slice (some ⟨b,o,none⟩) t.length cap) t→w'.cell? ⟨b,o+j,none⟩=some (.string t[j])):=zB (by
  intro w' j hj h
  obtain⟨b',o',cap',he,c0⟩:=h.cell hj
  simp at he
  obtain⟨⟨rfl,rfl⟩,rfl⟩:=he
  exact c0)
 have HC0:Hid (∀w',zu w' (.slice (some ⟨b,o,none⟩) t.length cap) t→w'.cell? ⟨b,o,none⟩=some (.string t[0])):=zB (fun w' h=>zA HC w' 0 h0l h)
 have HV:=zB hv
 have hz':((t.length:Int)==0)=false:=by rw[beq_eq_false_iff_ne];omega
 clear hv hf
 generalize t[0]=x at *
 go_enter Tryz.func81,Tryz.ntmps81
 go_wp2_with fail
 all_goals
  refine(zAm _ _ (t.drop 1) (by first | exact zu.gone (by omega) rfl | exact(zA HV).drop 1 _ _ rfl (by omega)) ((zA HF).drop 1)).mono ?_
  rintro e w1 ⟨rfl,hb1⟩
  have HV1:=zB ((zA HV).zH hb1)
  have HB1:=zB hb1
  have cx:=zA HC0 _ (zA HV1)
  clear hb1
  by_cases hn:t.length=2
  ·have hn':((t.length:Int)==2)=true:=by rw[beq_iff_eq];omega
   rw[decide_eq_true hn]at HE
   go_wp2_with fail
   all_goals
    go_ret
    exact⟨by rw[zA HE];exact zj (by simp_all),zA HB1⟩
  ·have hn':((t.length:Int)==2)=false:=by rw[beq_eq_false_iff_ne];omega
   rw[decide_eq_false hn]at HE
   go_wp2_with fail
   all_goals
    go_ret
    exact⟨by rw[zA HE];exact zj (by simp),zA HB1⟩
theorem isLine_6 (t:List ByteArray) (hf:Few t) (h0l:0 < t.length) (e0:(t[0].toList==[101,110,100])=false) (e1:(t[0].toList==[101,108,115,101])=false) (e2:(t[0].toList==[114,101,116,117,114,110])=false) (e3:(t[0].toList==[118,97,114])=false) (e4:(t[0].toList==[114,101,97,100])=false) (e5:(t[0].toList==[112,114,111,99])=false) (e6:(t[0].toList==[105,102])=true):zBi 81 Rf.zx t:=by
 intro w v hv
 have hl:=hf.1
 have HF:=zB hf
 obtain⟨ad,cap,rfl,hcap⟩:=hv.form
 obtain⟨b,o,rfl⟩:=hv.zAM (by intro h;rw[h]at h0l;simp at h0l)
 have hz:¬t.length=0:=by omega
 have HE0:Rf.zx t=Rf.isKind t t[0].toList:=by rw[Rf.zx,if_neg hz,Rf.first,Rf.zAi h0l]
 unfold Rf.isKind at HE0
 rw[e0,if_neg (by decide),e1,if_neg (by decide),e2,if_neg (by decide),e3,if_neg (by decide),e4,if_neg (by decide),e5,if_neg (by decide),e6,if_pos rfl]at HE0
 have HE:=zB HE0
 clear HE0
 have HC:Hid (∀w' j (hj:j < t.length),zu w' (.slice (some ⟨b,o,none⟩) t.length cap) t→w'.cell? ⟨b,o+j,none⟩=some (.string t[j])):=zB (by
  intro w' j hj h
  obtain⟨b',o',cap',he,c0⟩:=h.cell hj
  simp at he
  obtain⟨⟨rfl,rfl⟩,rfl⟩:=he
  exact c0)
 have HC0:Hid (∀w',zu w' (.slice (some ⟨b,o,none⟩) t.length cap) t→w'.cell? ⟨b,o,none⟩=some (.string t[0])):=zB (fun w' h=>zA HC w' 0 h0l h)
 have HV:=zB hv
 have hz':((t.length:Int)==0)=false:=by rw[beq_eq_false_iff_ne];omega
 clear hv hf
 generalize t[0]=x at *
 go_enter Tryz.func81,Tryz.ntmps81
 go_wp2_with fail
 all_goals
  refine(zAm _ _ (t.drop 1) (by first | exact zu.gone (by omega) rfl | exact(zA HV).drop 1 _ _ rfl (by omega)) ((zA HF).drop 1)).mono ?_
  rintro e w1 ⟨rfl,hb1⟩
  have HV1:=zB ((zA HV).zH hb1)
  have HB1:=zB hb1
  have cx:=zA HC0 _ (zA HV1)
  clear hb1
  go_wp2_with fail
  all_goals
   refine(zD9 _ ((zA HF).drop 1) _ _ (by first | exact zu.gone (by omega) rfl | exact(zA HV1).drop 1 _ _ rfl (by omega))).mono ?_
   rintro e w2 ⟨rfl,hb2⟩
   have HB2:=zB ((zA HB1).trans (hb2.mono (B':=w.heap.size) (zA HB1).size))
   clear hb2
   go_wp2_with fail
   go_ret
   exact⟨by rw[zA HE];first | rfl | exact zj (by simp),zA HB2⟩
theorem isLine_4 (t:List ByteArray) (hf:Few t) (h0l:0 < t.length) (e0:(t[0].toList==[101,110,100])=false) (e1:(t[0].toList==[101,108,115,101])=false) (e2:(t[0].toList==[114,101,116,117,114,110])=false) (e3:(t[0].toList==[118,97,114])=false) (e4:(t[0].toList==[114,101,97,100])=true):zBi 81 Rf.zx t:=by
 intro w v hv
 have hl:=hf.1
 have HF:=zB hf
 obtain⟨ad,cap,rfl,hcap⟩:=hv.form
 obtain⟨b,o,rfl⟩:=hv.zAM (by intro h;rw[h]at h0l;simp at h0l)
 have hz:¬t.length=0:=by omega
 have HE0:Rf.zx t=Rf.isKind t t[0].toList:=by rw[Rf.zx,if_neg hz,Rf.first,Rf.zAi h0l]
 unfold Rf.isKind at HE0
 rw[e0,if_neg (by decide),e1,if_neg (by decide),e2,if_neg (by decide),e3,if_neg (by decide),e4,if_pos rfl]at HE0
 have HE:=zB HE0
 clear HE0
 have HC:Hid (∀w' j (hj:j < t.length),zu w' (.slice (some ⟨b,o,none⟩) t.length cap) t→w'.cell? ⟨b,o+j,none⟩=some (.string t[j])):=zB (by
  intro w' j hj h
  obtain⟨b',o',cap',he,c0⟩:=h.cell hj
  simp at he
  obtain⟨⟨rfl,rfl⟩,rfl⟩:=he
  exact c0)
 have HC0:Hid (∀w',zu w' (.slice (some ⟨b,o,none⟩) t.length cap) t→w'.cell? ⟨b,o,none⟩=some (.string t[0])):=zB (fun w' h=>zA HC w' 0 h0l h)
 have HV:=zB hv
 have hz':((t.length:Int)==0)=false:=by rw[beq_eq_false_iff_ne];omega
 clear hv hf
 generalize t[0]=x at *
 go_enter Tryz.func81,Tryz.ntmps81
 go_wp2_with fail
 all_goals
  refine(zAm _ _ (t.drop 1) (by first | exact zu.gone (by omega) rfl | exact(zA HV).drop 1 _ _ rfl (by omega)) ((zA HF).drop 1)).mono ?_
  rintro e w1 ⟨rfl,hb1⟩
  have HV1:=zB ((zA HV).zH hb1)
  have HB1:=zB hb1
  have cx:=zA HC0 _ (zA HV1)
  clear hb1
  by_cases hn:t.length=2
  ·have hn':((t.length:Int)==2)=true:=by rw[beq_iff_eq];omega
   rw[decide_eq_true hn]at HE
   go_wp2_with fail
   all_goals
    go_ret
    exact⟨by rw[zA HE];exact zj (by simp_all),zA HB1⟩
  ·have hn':((t.length:Int)==2)=false:=by rw[beq_eq_false_iff_ne];omega
   rw[decide_eq_false hn]at HE
   go_wp2_with fail
   all_goals
    go_ret
    exact⟨by rw[zA HE];exact zj (by simp),zA HB1⟩
theorem isLine_5 (t:List ByteArray) (hf:Few t) (h0l:0 < t.length) (e0:(t[0].toList==[101,110,100])=false) (e1:(t[0].toList==[101,108,115,101])=false) (e2:(t[0].toList==[114,101,116,117,114,110])=false) (e3:(t[0].toList==[118,97,114])=false) (e4:(t[0].toList==[114,101,97,100])=false) (e5:(t[0].toList==[112,114,111,99])=true):zBi 81 Rf.zx t:=by
 intro w v hv
 have hl:=hf.1
 have HF:=zB hf
 obtain⟨ad,cap,rfl,hcap⟩:=hv.form
 obtain⟨b,o,rfl⟩:=hv.zAM (by intro h;rw[h]at h0l;simp at h0l)
 have hz:¬t.length=0:=by omega
 have HE0:Rf.zx t=Rf.isKind t t[0].toList:=by rw[Rf.zx,if_neg hz,Rf.first,Rf.zAi h0l]
 unfold Rf.isKind at HE0
 rw[e0,if_neg (by decide),e1,if_neg (by decide),e2,if_neg (by decide),e3,if_neg (by decide),e4,if_neg (by decide),e5,if_pos rfl]at HE0
 have HE:=zB HE0
 clear HE0
 have HC:Hid (∀w' j (hj:j < t.length),zu w' (.slice (some ⟨b,o,none⟩) t.length cap) t→w'.cell? ⟨b,o+j,none⟩=some (.string t[j])):=zB (by
  intro w' j hj h
  obtain⟨b',o',cap',he,c0⟩:=h.cell hj
  simp at he
  obtain⟨⟨rfl,rfl⟩,rfl⟩:=he
  exact c0)
 have HC0:Hid (∀w',zu w' (.slice (some ⟨b,o,none⟩) t.length cap) t→w'.cell? ⟨b,o,none⟩=some (.string t[0])):=zB (fun w' h=>zA HC w' 0 h0l h)
 have HV:=zB hv
 have hz':((t.length:Int)==0)=false:=by rw[beq_eq_false_iff_ne];omega
 clear hv hf
 generalize t[0]=x at *
 go_enter Tryz.func81,Tryz.ntmps81
 go_wp2_with fail
 all_goals
  refine(zAm _ _ (t.drop 1) (by first | exact zu.gone (by omega) rfl | exact(zA HV).drop 1 _ _ rfl (by omega)) ((zA HF).drop 1)).mono ?_
  rintro e w1 ⟨rfl,hb1⟩
  have HV1:=zB ((zA HV).zH hb1)
  have HB1:=zB hb1
  have cx:=zA HC0 _ (zA HV1)
  clear hb1
  by_cases hn:2≤t.length∧t.length≤6
  ·obtain⟨n1,n2⟩:=hn
   rw[decide_eq_true (show 2≤t.length∧t.length≤6 from⟨n1,n2⟩)]at HE
   go_wp2_with fail
   all_goals
    go_ret
    exact⟨by rw[zA HE];exact zj (by simp_all),zA HB1⟩
  ·rw[decide_eq_false hn]at HE
   by_cases n1:2≤t.length
   ·have n2:¬t.length≤6:=fun h=>hn ⟨n1,h⟩
    go_wp2_with fail
    all_goals
     go_ret
     exact⟨by rw[zA HE];exact zj (by simp_all),zA HB1⟩
   ·go_wp2_with fail
    all_goals
     go_ret
     exact⟨by rw[zA HE];exact zj (by simp_all),zA HB1⟩
theorem isLine_7 (t:List ByteArray) (hf:Few t) (h0l:0 < t.length) (e0:(t[0].toList==[101,110,100])=false) (e1:(t[0].toList==[101,108,115,101])=false) (e2:(t[0].toList==[114,101,116,117,114,110])=false) (e3:(t[0].toList==[118,97,114])=false) (e4:(t[0].toList==[114,101,97,100])=false) (e5:(t[0].toList==[112,114,111,99])=false) (e6:(t[0].toList==[105,102])=false) (e7:(t[0].toList==[119,104,105,108,101])=true):zBi 81 Rf.zx t:=by
 intro w v hv
 have hl:=hf.1
 have HF:=zB hf
 obtain⟨ad,cap,rfl,hcap⟩:=hv.form
 obtain⟨b,o,rfl⟩:=hv.zAM (by intro h;rw[h]at h0l;simp at h0l)
 have hz:¬t.length=0:=by omega
 have HE0:Rf.zx t=Rf.isKind t t[0].toList:=by rw[Rf.zx,if_neg hz,Rf.first,Rf.zAi h0l]
 unfold Rf.isKind at HE0
 rw[e0,if_neg (by decide),e1,if_neg (by decide),e2,if_neg (by decide),e3,if_neg (by decide),e4,if_neg (by decide),e5,if_neg (by decide),e6,if_neg (by decide),e7,if_pos rfl]at HE0
 have HE:=zB HE0
 clear HE0
 have HC:Hid (∀w' j (hj:j < t.length),zu w' (.slice (some ⟨b,o,none⟩) t.length cap) t→w'.cell? ⟨b,o+j,none⟩=some (.string t[j])):=zB (by
  intro w' j hj h
  obtain⟨b',o',cap',he,c0⟩:=h.cell hj
  simp at he
  obtain⟨⟨rfl,rfl⟩,rfl⟩:=he
  exact c0)
 have HC0:Hid (∀w',zu w' (.slice (some ⟨b,o,none⟩) t.length cap) t→w'.cell? ⟨b,o,none⟩=some (.string t[0])):=zB (fun w' h=>zA HC w' 0 h0l h)
 have HV:=zB hv
 have hz':((t.length:Int)==0)=false:=by rw[beq_eq_false_iff_ne];omega
 clear hv hf
 generalize t[0]=x at *
 go_enter Tryz.func81,Tryz.ntmps81
 go_wp2_with fail
 all_goals
  refine(zAm _ _ (t.drop 1) (by first | exact zu.gone (by omega) rfl | exact(zA HV).drop 1 _ _ rfl (by omega)) ((zA HF).drop 1)).mono ?_
  rintro e w1 ⟨rfl,hb1⟩
  have HV1:=zB ((zA HV).zH hb1)
  have HB1:=zB hb1
  have cx:=zA HC0 _ (zA HV1)
  clear hb1
  go_wp2_with fail
  all_goals
   refine(zD9 _ ((zA HF).drop 1) _ _ (by first | exact zu.gone (by omega) rfl | exact(zA HV1).drop 1 _ _ rfl (by omega))).mono ?_
   rintro e w2 ⟨rfl,hb2⟩
   have HB2:=zB ((zA HB1).trans (hb2.mono (B':=w.heap.size) (zA HB1).size))
   clear hb2
   go_wp2_with fail
   go_ret
   exact⟨by rw[zA HE];first | rfl | exact zj (by simp),zA HB2⟩
theorem isLine_8 (t:List ByteArray) (hf:Few t) (h0l:0 < t.length) (e0:(t[0].toList==[101,110,100])=false) (e1:(t[0].toList==[101,108,115,101])=false) (e2:(t[0].toList==[114,101,116,117,114,110])=false) (e3:(t[0].toList==[118,97,114])=false) (e4:(t[0].toList==[114,101,97,100])=false) (e5:(t[0].toList==[112,114,111,99])=false) (e6:(t[0].toList==[105,102])=false) (e7:(t[0].toList==[119,104,105,108,101])=false) (e8:(t[0].toList==[112,114,105,110,116])=true):zBi 81 Rf.zx t:=by
 intro w v hv
 have hl:=hf.1
 have HF:=zB hf
 obtain⟨ad,cap,rfl,hcap⟩:=hv.form
 obtain⟨b,o,rfl⟩:=hv.zAM (by intro h;rw[h]at h0l;simp at h0l)
 have hz:¬t.length=0:=by omega
 have HE0:Rf.zx t=Rf.isKind t t[0].toList:=by rw[Rf.zx,if_neg hz,Rf.first,Rf.zAi h0l]
 unfold Rf.isKind at HE0
 rw[e0,if_neg (by decide),e1,if_neg (by decide),e2,if_neg (by decide),e3,if_neg (by decide),e4,if_neg (by decide),e5,if_neg (by decide),e6,if_neg (by decide),e7,if_neg (by decide),e8,if_pos rfl]at HE0
 have HE:=zB HE0
 clear HE0
 have HC:Hid (∀w' j (hj:j < t.length),zu w' (.slice (some ⟨b,o,none⟩) t.length cap) t→w'.cell? ⟨b,o+j,none⟩=some (.string t[j])):=zB (by
  intro w' j hj h
  obtain⟨b',o',cap',he,c0⟩:=h.cell hj
  simp at he
  obtain⟨⟨rfl,rfl⟩,rfl⟩:=he
  exact c0)
 have HC0:Hid (∀w',zu w' (.slice (some ⟨b,o,none⟩) t.length cap) t→w'.cell? ⟨b,o,none⟩=some (.string t[0])):=zB (fun w' h=>zA HC w' 0 h0l h)
 have HV:=zB hv
 have hz':((t.length:Int)==0)=false:=by rw[beq_eq_false_iff_ne];omega
 clear hv hf
 generalize t[0]=x at *
 go_enter Tryz.func81,Tryz.ntmps81
 go_wp2_with fail
 all_goals
  refine(zAm _ _ (t.drop 1) (by first | exact zu.gone (by omega) rfl | exact(zA HV).drop 1 _ _ rfl (by omega)) ((zA HF).drop 1)).mono ?_
  rintro e w1 ⟨rfl,hb1⟩
  have HV1:=zB ((zA HV).zH hb1)
  have HB1:=zB hb1
  have cx:=zA HC0 _ (zA HV1)
  clear hb1
  go_wp2_with fail
  all_goals
   refine(zD9 _ ((zA HF).drop 1) _ _ (by first | exact zu.gone (by omega) rfl | exact(zA HV1).drop 1 _ _ rfl (by omega))).mono ?_
   rintro e w2 ⟨rfl,hb2⟩
   have HB2:=zB ((zA HB1).trans (hb2.mono (B':=w.heap.size) (zA HB1).size))
   clear hb2
   go_wp2_with fail
   go_ret
   exact⟨by rw[zA HE];first | rfl | exact zj (by simp),zA HB2⟩
theorem isLine_9 (t:List ByteArray) (hf:Few t) (h0l:0 < t.length) (e0:(t[0].toList==[101,110,100])=false) (e1:(t[0].toList==[101,108,115,101])=false) (e2:(t[0].toList==[114,101,116,117,114,110])=false) (e3:(t[0].toList==[118,97,114])=false) (e4:(t[0].toList==[114,101,97,100])=false) (e5:(t[0].toList==[112,114,111,99])=false) (e6:(t[0].toList==[105,102])=false) (e7:(t[0].toList==[119,104,105,108,101])=false) (e8:(t[0].toList==[112,114,105,110,116])=false) (e9:(t[0].toList==[115,101,116])=true):zBi 81 Rf.zx t:=by
 intro w v hv
 have hl:=hf.1
 have HF:=zB hf
 obtain⟨ad,cap,rfl,hcap⟩:=hv.form
 obtain⟨b,o,rfl⟩:=hv.zAM (by intro h;rw[h]at h0l;simp at h0l)
 have hz:¬t.length=0:=by omega
 have HE0:Rf.zx t=Rf.isKind t t[0].toList:=by rw[Rf.zx,if_neg hz,Rf.first,Rf.zAi h0l]
 unfold Rf.isKind at HE0
 rw[e0,if_neg (by decide),e1,if_neg (by decide),e2,if_neg (by decide),e3,if_neg (by decide),e4,if_neg (by decide),e5,if_neg (by decide),e6,if_neg (by decide),e7,if_neg (by decide),e8,if_neg (by decide),e9,if_pos rfl]at HE0
 have HE:=zB HE0
 clear HE0
 have HC:Hid (∀w' j (hj:j < t.length),zu w' (.slice (some ⟨b,o,none⟩) t.length cap) t→w'.cell? ⟨b,o+j,none⟩=some (.string t[j])):=zB (by
  intro w' j hj h
  obtain⟨b',o',cap',he,c0⟩:=h.cell hj
  simp at he
  obtain⟨⟨rfl,rfl⟩,rfl⟩:=he
  exact c0)
 have HC0:Hid (∀w',zu w' (.slice (some ⟨b,o,none⟩) t.length cap) t→w'.cell? ⟨b,o,none⟩=some (.string t[0])):=zB (fun w' h=>zA HC w' 0 h0l h)
 have HV:=zB hv
 have hz':((t.length:Int)==0)=false:=by rw[beq_eq_false_iff_ne];omega
 clear hv hf
 generalize t[0]=x at *
 go_enter Tryz.func81,Tryz.ntmps81
 go_wp2_with fail
 all_goals
  refine(zAm _ _ (t.drop 1) (by first | exact zu.gone (by omega) rfl | exact(zA HV).drop 1 _ _ rfl (by omega)) ((zA HF).drop 1)).mono ?_
  rintro e w1 ⟨rfl,hb1⟩
  have HV1:=zB ((zA HV).zH hb1)
  have HB1:=zB hb1
  have cx:=zA HC0 _ (zA HV1)
  clear hb1
  go_wp2_with fail
  all_goals
   refine(zQe _ (zA HF) _ _ (by first | exact zA HV1 | (subst h;exact zA HV1))).mono ?_
   rintro e w2 ⟨rfl,hb2⟩
   have HB2:=zB ((zA HB1).trans (hb2.mono (B':=w.heap.size) (zA HB1).size))
   clear hb2
   go_wp2_with fail
   go_ret
   exact⟨by rw[zA HE];first | rfl | exact zj (by simp),zA HB2⟩
theorem zQh (t:List ByteArray) (hf:Few t) (h0l:0 < t.length) (e0:(t[0].toList==[101,110,100])=false) (e1:(t[0].toList==[101,108,115,101])=false) (e2:(t[0].toList==[114,101,116,117,114,110])=false) (e3:(t[0].toList==[118,97,114])=false) (e4:(t[0].toList==[114,101,97,100])=false) (e5:(t[0].toList==[112,114,111,99])=false) (e6:(t[0].toList==[105,102])=false) (e7:(t[0].toList==[119,104,105,108,101])=false) (e8:(t[0].toList==[112,114,105,110,116])=false) (e9:(t[0].toList==[115,101,116])=false) (e10:(t[0].toList==[99,97,108,108])=true):zBi 81 Rf.zx t:=by
 intro w v hv
 have hl:=hf.1
 have HF:=zB hf
 obtain⟨ad,cap,rfl,hcap⟩:=hv.form
 obtain⟨b,o,rfl⟩:=hv.zAM (by intro h;rw[h]at h0l;simp at h0l)
 have hz:¬t.length=0:=by omega
 have HE0:Rf.zx t=Rf.isKind t t[0].toList:=by rw[Rf.zx,if_neg hz,Rf.first,Rf.zAi h0l]
 unfold Rf.isKind at HE0
 rw[e0,if_neg (by decide),e1,if_neg (by decide),e2,if_neg (by decide),e3,if_neg (by decide),e4,if_neg (by decide),e5,if_neg (by decide),e6,if_neg (by decide),e7,if_neg (by decide),e8,if_neg (by decide),e9,if_neg (by decide),e10,if_pos rfl]at HE0
 have HE:=zB HE0
 clear HE0
 have HC:Hid (∀w' j (hj:j < t.length),zu w' (.slice (some ⟨b,o,none⟩) t.length cap) t→w'.cell? ⟨b,o+j,none⟩=some (.string t[j])):=zB (by
  intro w' j hj h
  obtain⟨b',o',cap',he,c0⟩:=h.cell hj
  simp at he
  obtain⟨⟨rfl,rfl⟩,rfl⟩:=he
  exact c0)
 have HC0:Hid (∀w',zu w' (.slice (some ⟨b,o,none⟩) t.length cap) t→w'.cell? ⟨b,o,none⟩=some (.string t[0])):=zB (fun w' h=>zA HC w' 0 h0l h)
 have HV:=zB hv
 have hz':((t.length:Int)==0)=false:=by rw[beq_eq_false_iff_ne];omega
 clear hv hf
 generalize t[0]=x at *
 go_enter Tryz.func81,Tryz.ntmps81
 go_wp2_with fail
 all_goals
  refine(zAm _ _ (t.drop 1) (by first | exact zu.gone (by omega) rfl | exact(zA HV).drop 1 _ _ rfl (by omega)) ((zA HF).drop 1)).mono ?_
  rintro e w1 ⟨rfl,hb1⟩
  have HV1:=zB ((zA HV).zH hb1)
  have HB1:=zB hb1
  have cx:=zA HC0 _ (zA HV1)
  clear hb1
  go_wp2_with fail
  all_goals
   refine(zOz _ (zA HF) _ _ (by first | exact zA HV1 | (subst h;exact zA HV1))).mono ?_
   rintro e w2 ⟨rfl,hb2⟩
   have HB2:=zB ((zA HB1).trans (hb2.mono (B':=w.heap.size) (zA HB1).size))
   clear hb2
   go_wp2_with fail
   go_ret
   exact⟨by rw[zA HE];first | rfl | exact zj (by simp),zA HB2⟩
theorem zQg (t:List ByteArray) (hf:Few t) (h0l:0 < t.length) (e0:(t[0].toList==[101,110,100])=false) (e1:(t[0].toList==[101,108,115,101])=false) (e2:(t[0].toList==[114,101,116,117,114,110])=false) (e3:(t[0].toList==[118,97,114])=false) (e4:(t[0].toList==[114,101,97,100])=false) (e5:(t[0].toList==[112,114,111,99])=false) (e6:(t[0].toList==[105,102])=false) (e7:(t[0].toList==[119,104,105,108,101])=false) (e8:(t[0].toList==[112,114,105,110,116])=false) (e9:(t[0].toList==[115,101,116])=false) (e10:(t[0].toList==[99,97,108,108])=false) (e11:(t[0].toList==[97,114,114,97,121])=true):zBi 81 Rf.zx t:=by
 intro w v hv
 have hl:=hf.1
 have HF:=zB hf
 obtain⟨ad,cap,rfl,hcap⟩:=hv.form
 obtain⟨b,o,rfl⟩:=hv.zAM (by intro h;rw[h]at h0l;simp at h0l)
 have hz:¬t.length=0:=by omega
 have HE0:Rf.zx t=Rf.isKind t t[0].toList:=by rw[Rf.zx,if_neg hz,Rf.first,Rf.zAi h0l]
 unfold Rf.isKind at HE0
 rw[e0,if_neg (by decide),e1,if_neg (by decide),e2,if_neg (by decide),e3,if_neg (by decide),e4,if_neg (by decide),e5,if_neg (by decide),e6,if_neg (by decide),e7,if_neg (by decide),e8,if_neg (by decide),e9,if_neg (by decide),e10,if_neg (by decide),e11,if_pos rfl]at HE0
 have HE:=zB HE0
 clear HE0
 have HC:Hid (∀w' j (hj:j < t.length),zu w' (.slice (some ⟨b,o,none⟩) t.length cap) t→w'.cell? ⟨b,o+j,none⟩=some (.string t[j])):=zB (by
  intro w' j hj h
  obtain⟨b',o',cap',he,c0⟩:=h.cell hj
  simp at he
  obtain⟨⟨rfl,rfl⟩,rfl⟩:=he
  exact c0)
 have HC0:Hid (∀w',zu w' (.slice (some ⟨b,o,none⟩) t.length cap) t→w'.cell? ⟨b,o,none⟩=some (.string t[0])):=zB (fun w' h=>zA HC w' 0 h0l h)
 have HV:=zB hv
 have hz':((t.length:Int)==0)=false:=by rw[beq_eq_false_iff_ne];omega
 clear hv hf
 generalize t[0]=x at *
 go_enter Tryz.func81,Tryz.ntmps81
 go_wp2_with fail
 all_goals
  refine(zAm _ _ (t.drop 1) (by first | exact zu.gone (by omega) rfl | exact(zA HV).drop 1 _ _ rfl (by omega)) ((zA HF).drop 1)).mono ?_
  rintro e w1 ⟨rfl,hb1⟩
  have HV1:=zB ((zA HV).zH hb1)
  have HB1:=zB hb1
  have cx:=zA HC0 _ (zA HV1)
  clear hb1
  by_cases hn:t.length=3
  ·have hn':((t.length:Int)==3)=true:=by rw[beq_iff_eq];omega
   have l1:1 < t.length:=by omega
   have l2:2 < t.length:=by omega
   have HG:=zB (show Rf.zx t=(Rf.zi t[1] && Rf.zAF t[2] && decide ((1:Int)≤Rf.worth t[2]) && decide (Rf.worth t[2]≤(32:Int))) by rw[zA HE,Rf.zEO,if_pos hn,Rf.zAi l1,Rf.zAi l2])
   have c1:=zA HC _ 1 l1 (zA HV1)
   have HC2:=zB (fun w' h=>zA HC w' 2 l2 h)
   have s1:t[1].size≤maxLen:=by have:=(zA HF).2 _ (List.getElem_mem l1);unfold maxLen;omega
   have s2:t[2].size≤maxLen:=by have:=(zA HF).2 _ (List.getElem_mem l2);unfold maxLen;omega
   clear HE HC
   generalize t[1]=y at *
   generalize t[2]=z at *
   go_wp2_with fail
   refine(zDJ y _ s1).mono ?_
   rintro e w2 ⟨rfl,hb2⟩
   have HB2:=zB ((zA HB1).trans (hb2.mono (B':=w.heap.size) (zA HB1).size))
   have c2:=zA HC2 _ ((zA HV1).zH hb2)
   clear hb2
   cases hy:Rf.zi y with
   | false=>
    go_wp2_with fail
    all_goals
     go_ret
     exact⟨by rw[zA HG,hy];rfl,zA HB2⟩
   | true=>
    cases hq:Rf.zAF z with
    | false=>
     go_wp2_with (first | (go_at_call 139;refine(zC5 z _ s2).mono ?_;rintro e w' ⟨rfl,rfl⟩;rw[hq]))
     all_goals
      go_ret
      exact⟨by rw[zA HG,hy,hq];rfl,zA HB2⟩
    | true=>
     go_wp2_with (first | (go_at_call 139;refine(zC5 z _ s2).mono ?_;rintro e w' ⟨rfl,rfl⟩;rw[hq])| (go_at_call 93;refine(zH2 z _ s2).mono ?_;rintro e w' ⟨rfl,rfl⟩))
     all_goals
      go_ret
      exact⟨by rw[zA HG,hy,hq];exact zj (by simp_all <;> omega),zA HB2⟩
  ·have hn':((t.length:Int)==3)=false:=by rw[beq_eq_false_iff_ne];omega
   have HG:=zB (show Rf.zx t=false by rw[zA HE,Rf.zEO,if_neg hn])
   clear HE
   go_wp2_with fail
   go_ret
   exact⟨by rw[zA HG];rfl,zA HB1⟩
theorem zQf (t:List ByteArray) (hf:Few t) (h0l:0 < t.length) (e0:(t[0].toList==[101,110,100])=false) (e1:(t[0].toList==[101,108,115,101])=false) (e2:(t[0].toList==[114,101,116,117,114,110])=false) (e3:(t[0].toList==[118,97,114])=false) (e4:(t[0].toList==[114,101,97,100])=false) (e5:(t[0].toList==[112,114,111,99])=false) (e6:(t[0].toList==[105,102])=false) (e7:(t[0].toList==[119,104,105,108,101])=false) (e8:(t[0].toList==[112,114,105,110,116])=false) (e9:(t[0].toList==[115,101,116])=false) (e10:(t[0].toList==[99,97,108,108])=false) (e11:(t[0].toList==[97,114,114,97,121])=false):zBi 81 Rf.zx t:=by
 intro w v hv
 have hl:=hf.1
 have HF:=zB hf
 obtain⟨ad,cap,rfl,hcap⟩:=hv.form
 obtain⟨b,o,rfl⟩:=hv.zAM (by intro h;rw[h]at h0l;simp at h0l)
 have hz:¬t.length=0:=by omega
 have HE0:Rf.zx t=Rf.isKind t t[0].toList:=by rw[Rf.zx,if_neg hz,Rf.first,Rf.zAi h0l]
 unfold Rf.isKind at HE0
 rw[e0,if_neg (by decide),e1,if_neg (by decide),e2,if_neg (by decide),e3,if_neg (by decide),e4,if_neg (by decide),e5,if_neg (by decide),e6,if_neg (by decide),e7,if_neg (by decide),e8,if_neg (by decide),e9,if_neg (by decide),e10,if_neg (by decide),e11,if_neg (by decide)]at HE0
 have HE:=zB HE0
 clear HE0
 have HC:Hid (∀w' j (hj:j < t.length),zu w' (.slice (some ⟨b,o,none⟩) t.length cap) t→w'.cell? ⟨b,o+j,none⟩=some (.string t[j])):=zB (by
  intro w' j hj h
  obtain⟨b',o',cap',he,c0⟩:=h.cell hj
  simp at he
  obtain⟨⟨rfl,rfl⟩,rfl⟩:=he
  exact c0)
 have HC0:Hid (∀w',zu w' (.slice (some ⟨b,o,none⟩) t.length cap) t→w'.cell? ⟨b,o,none⟩=some (.string t[0])):=zB (fun w' h=>zA HC w' 0 h0l h)
 have HV:=zB hv
 have hz':((t.length:Int)==0)=false:=by rw[beq_eq_false_iff_ne];omega
 clear hv hf
 generalize t[0]=x at *
 go_enter Tryz.func81,Tryz.ntmps81
 go_wp2_with fail
 all_goals
  refine(zAm _ _ (t.drop 1) (by first | exact zu.gone (by omega) rfl | exact(zA HV).drop 1 _ _ rfl (by omega)) ((zA HF).drop 1)).mono ?_
  rintro e w1 ⟨rfl,hb1⟩
  have HV1:=zB ((zA HV).zH hb1)
  have HB1:=zB hb1
  have cx:=zA HC0 _ (zA HV1)
  clear hb1
  go_wp2_with fail
  go_ret
  exact⟨by rw[zA HE];rfl,zA HB1⟩
end Go.Proofs.YthleadfkfnnadaaGreat
