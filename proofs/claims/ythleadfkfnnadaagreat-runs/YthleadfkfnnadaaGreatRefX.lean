/- The document's answer: a place of its own is changed. -/
import Derived.Test.YthleadfkfnnadaaGreatCaA
import Derived.Test.YthleadfkfnnadaaGreatGnA
import Derived.Test.YthleadfkfnnadaaGreatFwA
import Derived.Test.YthleadfkfnnadaaGreatPlA
set_option maxHeartbeats 4000000
set_option maxRecDepth 100000
namespace Go.Proofs.YthleadfkfnnadaaGreat
open Go.RowKit
namespace Rf
open Rt
theorem zQA (S:Rt.Src) (m:Mc) (x:ByteArray) (e:List Pop):perform S m ⟨8,x,0,[],[],[e]⟩=if (zN S m e).2=0 then ⟨0,wrap64 (m.line+1),[stay m.line,Rt.stored m (zB6 S m x)],zA4 m (zB6 S m x) (zN S m e).1⟩else ended m (zN S m e).2:=by
 rfl
theorem zP9 (S:Rt.Src) (m:Mc) (x:ByteArray) (i e:List Pop):perform S m ⟨9,x,0,[],i,[e]⟩=if (zN S m i).2=0 then (if (zN S m e).2=0 then (if zEY m ⟨(zAE S.pls x:Nat),(zN S m i).1⟩=true then ⟨0,wrap64 (m.line+1),[stay m.line,Rt.stored m ⟨(zAE S.pls x:Nat),(zN S m i).1⟩],zA4 m ⟨(zAE S.pls x:Nat),(zN S m i).1⟩ (zN S m e).1⟩else ended m 3)else ended m (zN S m e).2)else ended m (zN S m i).2:=by
 simp only[perform,zBR,Rt.zBW]
 by_cases h:zEY m ⟨(zAE S.pls x:Nat),(zN S m i).1⟩=true
 ·rw[if_pos h,if_pos h];rfl
 ·rw[if_neg h,if_neg h];rfl
theorem zOL (S:Rt.Src) (m:Mc) (e:List Pop):perform S m ⟨10,⟨#[]⟩,0,[],[],[e]⟩=if (zN S m e).2=0 then (if 50≤m.output.length then ended m 6 else ⟨0,wrap64 (m.line+1),[stay m.line,⟨5,0,⟨0,0⟩,0⟩],{ m with output:=m.output++[(zN S m e).1] }⟩)else ended m (zN S m e).2:=by
 rfl
theorem zQB (S:Rt.Src) (m:Mc) (x:ByteArray):perform S m ⟨11,x,0,[],[],[]⟩=if m.taken < 0∨S.input.length≤m.taken then ended m 4 else ⟨0,wrap64 (m.line+1),[stay m.line,Rt.stored m (zB6 S m x),⟨6,0,⟨0,0⟩,0⟩],{ zA4 m (zB6 S m x) ((S.input[m.taken.toNat]?).getD 0)with taken:=wrap64 (m.taken+1) }⟩:=by
 rfl
theorem zMz (S:Rt.Src) (m:Mc) (k:Int) (hk:k=5∨k=7) (e:List Pop):perform S m ⟨k,⟨#[]⟩,0,[],[],[e]⟩=if (zN S m e).2=0 then ⟨0,if (zN S m e).1=0 then zBj S.lk m.line else wrap64 (m.line+1),[stay m.line],m⟩else ended m (zN S m e).2:=by
 rcases hk with rfl | rfl <;> rfl
theorem zQC (S:Rt.Src) (m:Mc) (x:ByteArray) (vs:List (List Pop)):perform S m ⟨12,x,0,[],[],vs⟩=if (argsI S m vs []).2=0 then (if 6≤m.zD.length then ended m 5 else ⟨0,wrap64 (zAE S.pls x+1),[⟨2,m.line,⟨0,0⟩,0⟩],{ m with zD:=m.zD++[⟨(argsI S m vs []).1,m.line⟩] }⟩)else ended m (argsI S m vs []).2:=by
 rfl
theorem zOM (S:Rt.Src) (m:Mc) (k:Int) (hk:k=13∨k=4):perform S m ⟨k,⟨#[]⟩,0,[],[],[]⟩=if m.zD.length < 2 then ended m 1 else ⟨0,wrap64 ((m.zD.getLastD zEU).call+1),⟨3,m.line,⟨0,0⟩,(m.zD.getLastD zEU).call⟩::(m.zD.getLastD zEU).params.map (fun v=>⟨7,0,⟨0,0⟩,v⟩),{ m with zD:=m.zD.dropLast }⟩:=by
 rcases hk with rfl | rfl <;> rfl
section
variable {ps pls : List PL} {ls : List (List ByteArray)} {S : Rt.Src} {m : Mc} (C : Ctx ps pls ls S) (F : zGQ ps pls ls S m) (hfin : m.fin = 0) {l : Nat} (h1 : l < ps.length) (h2 : m.line = (l : Int) + 1) (h4 : stp ps l ≠ [])
include C h1 h2 h4
theorem zE1:((ps[l].form.kind=8∨ps[l].form.kind=11)→Rt.isVar pls (zAR S m) ps[l].form.name=true)∧(ps[l].form.kind=9→Rt.zCN pls (zAR S m) ps[l].form.name=true)∧(ps[l].form.kind=12→zDg pls ps[l].form=true)∧
  (¬(ps[l].form.kind=1∨ps[l].form.kind=2∨ps[l].form.kind=3)→zDO pls (zAR S m) ps[l].form.index=true∧∀e∈ps[l].form.values,zDO pls (zAR S m) e=true):=by
 have hn:=C.nam l h1
 have hp:=(zP6 C h1 h2 h4).1
 unfold zAk at hn
 rw[zHU C.nst h1]at hn
 unfold zAr at hn
 rw[zHU C.nst h1,←hp]at hn
 refine⟨fun hk=>?_,fun hk=>?_,fun hk=>?_,fun hk=>?_⟩
 ·rw[if_neg (by omega),if_neg (by omega),if_pos hk,Bool.and_eq_true]at hn
  exact hn.1
 ·rw[if_neg (by omega),if_neg (by omega),if_neg (by omega),if_pos hk,Bool.and_eq_true]at hn
  exact hn.1
 ·rw[if_neg (by omega),if_neg (by omega),if_neg (by omega),if_neg (by omega),if_pos hk,Bool.and_eq_true]at hn
  exact hn.1
 ·have:(zDO pls (zAR S m) ps[l].form.index && ps[l].form.values.all (zDO pls (zAR S m)))=true:=by
   rw[if_neg (by omega),if_neg (by omega)]at hn
   split at hn
   ·rw[Bool.and_eq_true]at hn;exact hn.2
   ·split at hn
    ·rw[Bool.and_eq_true]at hn;exact hn.2
    ·split at hn
     ·rw[Bool.and_eq_true]at hn;exact hn.2
     ·exact hn
  rw[Bool.and_eq_true,List.all_eq_true]at this
  exact this
include F hfin
theorem zLA {x:ByteArray} {e:List Pop} (hf:ps[l].form=⟨8,x,0,[],[],[e]⟩) :
  Step ps pls ls S m (if (zN S m e).2=0 then { zBy ls (zP pls m) x (zN S m e).1 with line:=(zAp ls (l+1):Nat) }else { zP pls m with fin:=(zN S m e).2 }) (if (zN S m e).2=0 then 2 else 1):=by
 have hpf:=zQA S m x e
 rw[←hf,←zC8 C h1 h2]at hpf
 have hl:=C.len
 have h100:=C.law.len
 have E:=zDW C F
 by_cases h0:(zN S m e).2=0
 ·rw[if_pos h0]at hpf
  rw[if_pos h0,if_pos h0]
  have hv:=(zE1 C h1 h2 h4).1 (Or.inl (by rw[hf]))
  rw[hf]at hv
  obtain⟨n1,n2⟩:=zGC h4 (by rw[zEN h1,hf];simp)
  obtain⟨q1,q2,q3,q4,q5,q6,q7⟩:=zJk m (zB6 S m x) (zN S m e).1
  have:=zF7 C F hfin h1 h2 h4 hpf rfl (k:=l+1) (by omega) (by show wrap64 (m.line+1)=_;rw[h2,zDh (by omega)]) n1 n2 q1 q5 q6 q7 (by show 0≤(zA4 m _ _).taken∧_;rw[q3];exact F.taken)
  rw[zMx E hv E.ok.top]at this
  exact this
 ·rw[if_neg h0]at hpf
  rw[if_neg h0,if_neg h0]
  exact step_end F hfin hpf h0
theorem zK9 {x:ByteArray} {i e:List Pop} (hf:ps[l].form=⟨9,x,0,[],i,[e]⟩) :
  Step ps pls ls S m (if (zN S m i).2=0 then (if (zN S m e).2=0 then (if (zN S m i).1 < 0∨(((zP pls m).cells.getD (decl ls x) []).length:Int)≤(zN S m i).1 then { zP pls m with fin:=3 }else
   { zP pls m with cells:=(zP pls m).cells.set (decl ls x) (((zP pls m).cells.getD (decl ls x) []).set (zN S m i).1.toNat (zN S m e).1),line:=(zAp ls (l+1):Nat) })else { zP pls m with fin:=(zN S m e).2 })else { zP pls m with fin:=(zN S m i).2 })
   (if (zN S m i).2=0 then (if (zN S m e).2=0 then (if (zN S m i).1 < 0∨(((zP pls m).cells.getD (decl ls x) []).length:Int)≤(zN S m i).1 then 1 else 2)else 1)else 1):=by
 have hpf:=zP9 S m x i e
 rw[←hf,←zC8 C h1 h2]at hpf
 have hl:=C.len
 have h100:=C.law.len
 have E:=zDW C F
 have hv:=(zE1 C h1 h2 h4).2.1 (by rw[hf])
 rw[hf]at hv
 obtain⟨c1,c2,c3⟩:=celE E hv
 by_cases hi:(zN S m i).2=0
 ·rw[if_pos hi]at hpf
  rw[if_pos hi,if_pos hi]
  by_cases h0:(zN S m e).2=0
  ·rw[if_pos h0]at hpf
   rw[if_pos h0,if_pos h0]
   have hhas:(zEY m ⟨(zAE S.pls x:Nat),(zN S m i).1⟩=true)↔¬((zN S m i).1 < 0∨(((zP pls m).cells.getD (decl ls x) []).length:Int)≤(zN S m i).1):=by
    rw[c1]
    unfold zEY
    simp only[decide_eq_true_eq]
    omega
   by_cases hh:(zN S m i).1 < 0∨(((zP pls m).cells.getD (decl ls x) []).length:Int)≤(zN S m i).1
   ·rw[if_neg (fun q=>hhas.mp q hh)]at hpf
    rw[if_pos hh,if_pos hh]
    exact step_end F hfin hpf (by simp[ended])
   ·have hs:=hhas.mpr hh
    rw[if_pos hs]at hpf
    rw[if_neg hh,if_neg hh]
    obtain⟨n1,n2⟩:=zGC h4 (by rw[zEN h1,hf];simp)
    obtain⟨q1,q2,q3,q4,q5,q6,q7⟩:=zJk m ⟨(zAE S.pls x:Nat),(zN S m i).1⟩ (zN S m e).1
    have:=zF7 C F hfin h1 h2 h4 hpf rfl (k:=l+1) (by omega) (by show wrap64 (m.line+1)=_;rw[h2,zDh (by omega)]) n1 n2 q1 q5 q6 q7 (by show 0≤(zA4 m _ _).taken∧_;rw[q3];exact F.taken)
    rw[put_cell E hv hs]at this
    exact this
  ·rw[if_neg h0]at hpf
   rw[if_neg h0,if_neg h0]
   exact step_end F hfin hpf h0
 ·rw[if_neg hi]at hpf
  rw[if_neg hi,if_neg hi]
  exact step_end F hfin hpf hi
theorem zJc {e:List Pop} (hf:ps[l].form=⟨10,⟨#[]⟩,0,[],[],[e]⟩) :
  Step ps pls ls S m (if (zN S m e).2=0 then (if 50≤m.output.length then { zP pls m with fin:=6 }else { zP pls m with out:=m.output++[(zN S m e).1],line:=(zAp ls (l+1):Nat) })else { zP pls m with fin:=(zN S m e).2 }) (if (zN S m e).2=0 then (if 50≤m.output.length then 1 else 2)else 1):=by
 have hpf:=zOL S m e
 rw[←hf,←zC8 C h1 h2]at hpf
 have hl:=C.len
 have h100:=C.law.len
 by_cases h0:(zN S m e).2=0
 ·rw[if_pos h0]at hpf
  rw[if_pos h0,if_pos h0]
  by_cases ho:50≤m.output.length
  ·rw[if_pos ho]at hpf
   rw[if_pos ho,if_pos ho]
   exact step_end F hfin hpf (by simp[ended])
  ·rw[if_neg ho]at hpf
   rw[if_neg ho,if_neg ho]
   obtain⟨n1,n2⟩:=zGC h4 (by rw[zEN h1,hf];simp)
   exact zF7 C F hfin h1 h2 h4 hpf rfl (k:=l+1) (by omega) (by show wrap64 (m.line+1)=_;rw[h2,zDh (by omega)]) n1 n2 rfl rfl rfl rfl F.taken
 ·rw[if_neg h0]at hpf
  rw[if_neg h0,if_neg h0]
  exact step_end F hfin hpf h0
theorem zLB {x:ByteArray} (hil:S.input.length≤100) (hf:ps[l].form=⟨11,x,0,[],[],[]⟩) :
  Step ps pls ls S m (if S.input.length≤m.taken.toNat then { zP pls m with fin:=4 }else { zBy ls (zP pls m) x (S.input.getD m.taken.toNat 0)with read:=m.taken.toNat+1,line:=(zAp ls (l+1):Nat) }) (if S.input.length≤m.taken.toNat then 1 else 3):=by
 have hpf:=zQB S m x
 rw[←hf,←zC8 C h1 h2]at hpf
 have hl:=C.len
 have h100:=C.law.len
 have E:=zDW C F
 have ht:=F.taken
 by_cases h0:S.input.length≤m.taken.toNat
 ·rw[if_pos (by omega)]at hpf
  rw[if_pos h0,if_pos h0]
  exact step_end F hfin hpf (by simp[ended])
 ·rw[if_neg (by omega)]at hpf
  rw[if_neg h0,if_neg h0]
  have hv:=(zE1 C h1 h2 h4).1 (Or.inr (by rw[hf]))
  rw[hf]at hv
  obtain⟨n1,n2⟩:=zGC h4 (by rw[zEN h1,hf];simp)
  obtain⟨q1,q2,q3,q4,q5,q6,q7⟩:=zJk m (zB6 S m x) ((S.input[m.taken.toNat]?).getD 0)
  have hw:wrap64 (m.taken+1)=m.taken+1:=IntWalk.wrap64_in _ (by omega)
  rw[hw]at hpf
  have:=zF7 C F hfin h1 h2 h4 hpf rfl (k:=l+1) (by omega) (by show wrap64 (m.line+1)=_;rw[h2,zDh (by omega)]) n1 n2 q1 q5 q6 q7 (by show 0≤m.taken+1∧m.taken+1≤_;omega)
  have hpg:=zMx E hv E.ok.top ((S.input[m.taken.toNat]?).getD 0)
  have e2:zP pls { zA4 m (zB6 S m x) ((S.input[m.taken.toNat]?).getD 0)with taken:=m.taken+1 }={ zBy ls (zP pls m) x (S.input.getD m.taken.toNat 0)with read:=m.taken.toNat+1 }:=by
   rw[List.getD_eq_getElem?_getD,←hpg]
   unfold zP
   simp only[Pl.mk.injEq,true_and,and_true]
   omega
  simp only[e2]at this
  exact this
theorem zFT {k:Int} (hk:k=5∨k=7) {e:List Pop} (hf:ps[l].form=⟨k,⟨#[]⟩,0,[],[],[e]⟩) :
  Step ps pls ls S m (if (zN S m e).2=0 then { zP pls m with line:=(zAp ls (if (zN S m e).1=0 then other ls l else l+1):Nat) }else { zP pls m with fin:=(zN S m e).2 }) 1:=by
 have hpf:=zMz S m k hk e
 rw[←hf,←zC8 C h1 h2]at hpf
 have hl:=C.len
 have h100:=C.law.len
 have hkd:kd ps l=5∨kd ps l=7:=by rw[zEN h1,hf];exact hk
 by_cases h0:(zN S m e).2=0
 ·rw[if_pos h0]at hpf
  rw[if_pos h0]
  by_cases hz:(zN S m e).1=0
  ·rw[if_pos hz]at hpf
   rw[if_pos hz]
   obtain⟨o1,o2⟩:=zM9 C.nst C.both C.law.len h1 hkd
   obtain⟨j,j1,j2,j3,j4,j5⟩:=other_in C.nst (by omega) h1 hkd
   have hoj:other ls l=j+1:=by omega
   exact zF7 C F hfin h1 h2 h4 hpf rfl (k:=other ls l) o2 (by show zBj S.lk m.line=_;rw[h2,C.lk,o1]) (by rw[hoj];exact j4) (by rw[hoj];exact j5) rfl rfl rfl rfl F.taken
  ·rw[if_neg hz]at hpf
   rw[if_neg hz]
   obtain⟨n1,n2⟩:=zGC h4 (by omega)
   exact zF7 C F hfin h1 h2 h4 hpf rfl (k:=l+1) (by omega) (by show wrap64 (m.line+1)=_;rw[h2,zDh (by omega)]) n1 n2 rfl rfl rfl rfl F.taken
 ·rw[if_neg h0]at hpf
  rw[if_neg h0]
  exact step_end F hfin hpf h0
theorem zLC {x:ByteArray} {vs:List (List Pop)} (hf:ps[l].form=⟨12,x,0,[],[],vs⟩) :
  0 < decl ls x∧decl ls x≤ls.length∧Step ps pls ls S m (if (argsI S m vs []).2=0 then (if 6≤m.zD.length then { zP pls m with fin:=5 }else { zP pls m with zD:=(zP pls m).zD++[⟨decl ls x,(argsI S m vs []).1,m.line⟩],line:=(zAp ls (decl ls x):Nat) })else { zP pls m with fin:=(argsI S m vs []).2 }) 1:=by
 have hpf:=zQC S m x vs
 rw[←hf,←zC8 C h1 h2]at hpf
 have hl:=C.len
 have h100:=C.law.len
 have E:=zDW C F
 have hcf:=(zE1 C h1 h2 h4).2.2.1 (by rw[hf])
 rw[hf]at hcf
 unfold zDg at hcf
 simp only[Bool.and_eq_true,decide_eq_true_eq]at hcf
 have hdp:=zHk E (x:=x) (by rw[hcf.1];decide)
 have hdb:=zEG ls x
 refine⟨hdp,hdb,?_⟩
 by_cases h0:(argsI S m vs []).2=0
 ·rw[if_pos h0]at hpf
  rw[if_pos h0]
  by_cases h6:6≤m.zD.length
  ·rw[if_pos h6]at hpf
   rw[if_pos h6]
   exact step_end F hfin hpf (by simp[ended])
  ·rw[if_neg h6]at hpf
   rw[if_neg h6]
   have hde:zAE S.pls x=decl ls x:=by rw[C.zGl,zDQ,C.both.zDZ]
   obtain⟨d,hd⟩:∃d,decl ls x=d+1:=⟨decl ls x-1,by omega⟩
   have hdl:d < ps.length:=by omega
   have hdl':d < ls.length:=by omega
   have hkd:kd ps d=3:=by
    have:=hcf.1
    unfold zX at this
    rw[C.both.zDZ,hd,show ((d+1:Nat):Int)=(d:Int)+1 by omega,zDd C.nst hdl,←zEN]at this
    exact this
   have hst:stp ps (d+1)=[(d+1,3)]:=by rw[opened (Or.inl hkd),zJM C.nst hdl (by omega),hkd];rfl
   obtain⟨j,j1,j2,j3,j4,j5⟩:=C.stop (k:=d+1) (by omega) (by rw[hst];simp)
   have hjl:((zAp ls (d+1):Nat):Int)=(j:Int)+1:=by rw[j1];omega
   have hpr:zBJ pls ((zAp ls (d+1):Nat):Int)=d+1:=by rw[hjl,C.zBJ j2 j4,j5,hst];rfl
   have hal:(argsI S m vs []).1.length=vs.length:=by
    have:=Rt.zIS S m vs [] h0
    simpa using this
   have hdk:d+1≤ls.length:=by omega
   have hdw:wrap64 ((d+2:Nat):Int)=((d+2:Nat):Int):=zCG (d+2) (by omega)
   obtain⟨p1,p2⟩:=C.params hdl' hkd
   have h66:m.zD.length+1≤6:=by omega
   unfold Step
   rw[zJe hfin hpf rfl]
   simp only
   rw[hde,hd,show ((d+1:Nat):Int)+1=((d+2:Nat):Int)from rfl,hdw,show ((d+2:Nat):Int)=((d+1:Nat):Int)+1 from rfl,C.go hdk]
   clear hdw hpf hfin
   refine⟨?_,rfl,⟨⟨j,j2,hjl,j3,j4⟩,by simp,by simpa using h66,?_,?_,F.zGO,F.taken⟩⟩
   ·unfold zP
    simp only[Pl.mk.injEq,and_true]
    rw[zEC,hpr]
   ·intro f hm
    simp only at hm
    rw[zEC,hpr]at hm
    rcases List.mem_append.mp hm with hm | hm
    ·exact F.frs f hm
    ·rw[List.mem_singleton.mp hm]
     refine⟨by simp,by show d+1≤_;omega,by rw[Nat.add_sub_cancel];exact p1,?_⟩
     rw[Nat.add_sub_cancel,←p2]
     show (argsI S m vs []).1.length=_
     rw[hal]
     have:=hcf.2
     unfold zX at this
     rw[C.both.zDZ,hd,show ((d+1:Nat):Int)=(d:Int)+1 by omega]at this
     exact this.symm
   ·intro f hm
    simp only at hm
    rw[List.tail_append_of_ne_nil F.ne]at hm
    rcases List.mem_append.mp hm with hm | hm
    ·exact F.calls f hm
    ·rw[List.mem_singleton.mp hm]
     exact⟨l,h1,h2,by rw[zEN h1,hf]⟩
 ·rw[if_neg h0]at hpf
  rw[if_neg h0]
  exact step_end F hfin hpf h0
theorem zJd {k:Int} (hk:k=13∨k=4) (hf:ps[l].form=⟨k,⟨#[]⟩,0,[],[],[]⟩) :
  (m.zD.length < 2→Step ps pls ls S m { zP pls m with fin:=1 } 1)∧
  (¬m.zD.length < 2→∃c:Nat,c < ls.length∧(top (zP pls m)).call=(c:Int)+1∧Step ps pls ls S m { zP pls m with zD:=(zP pls m).zD.dropLast,line:=(zAp ls (c+1):Nat) } (1+(top (zP pls m)).args.length)):=by
 have hpf:=zOM S m k hk
 have _:=h4
 rw[←hf,←zC8 C h1 h2]at hpf
 have hl:=C.len
 have h100:=C.law.len
 constructor
 ·intro h0
  rw[if_pos h0]at hpf
  exact step_end F hfin hpf (by simp[ended])
 ·intro h0
  rw[if_neg h0]at hpf
  obtain⟨pre,g,hg⟩:∃pre g,m.zD=pre++[g]:=⟨_,_,zMP F.ne⟩
  have hgl:m.zD.getLastD zEU=g:=by rw[hg,List.getLastD_concat]
  have hdl:m.zD.dropLast=pre:=by rw[hg,List.dropLast_concat]
  have hpre:pre≠[]:=by intro e;rw[hg,e]at h0;simp at h0
  obtain⟨c,c1,c2,c3⟩:=F.calls g (by rw[hg,List.tail_append_of_ne_nil hpre];simp)
  have hcn:=zB9 C.nst c1 (show ¬(kd ps c=0∨kd ps c=1∨kd ps c=2∨kd ps c=3) by omega)
  obtain⟨n1,n2⟩:=zGC hcn (by omega)
  obtain⟨j,j1,j2,j3,j4,j5⟩:=C.stop (k:=c+1) (by omega) n1
  have hjl:((zAp ls (c+1):Nat):Int)=(j:Int)+1:=by rw[j1];omega
  have hpr:zBJ pls ((zAp ls (c+1):Nat):Int)=zBJ pls g.call:=by rw[hjl,C.zBJ j2 j4,j5,n2,c2,C.zBJ c1 hcn]
  have htop:top (zP pls m)=⟨zBJ pls m.line,g.params,g.call⟩:=by rw[zHI F.ne,hgl]
  rw[hgl,hdl,c2,zDh (by omega)]at hpf
  refine⟨c,by omega,by rw[htop];exact c2,?_⟩
  unfold Step
  rw[zJe hfin hpf rfl]
  simp only
  rw[C.go (by omega)]
  have hfr:frsOf pls m.zD m.line=frsOf pls pre ((zAp ls (c+1):Nat):Int)++[⟨zBJ pls m.line,g.params,g.call⟩]:=by rw[hg,zEC,zKH hpr]
  refine⟨?_,?_,⟨⟨j,j2,hjl,j3,j4⟩,hpre,?_,?_,?_,F.zGO,F.taken⟩⟩
  ·unfold zP
   simp only[Pl.mk.injEq,and_true]
   rw[hfr,List.dropLast_concat]
  ·rw[htop,List.length_cons,List.length_map,Nat.add_comm]
  ·have:=F.few
   rw[hg]at this
   simp at this
   show pre.length≤6
   omega
  ·intro f hm
   exact F.frs f (by rw[hfr];exact List.mem_append_left _ hm)
  ·intro f hm
   refine F.calls f ?_
   rw[hg,List.tail_append_of_ne_nil hpre]
   exact List.mem_append_left _ hm
end
end Rf
theorem zLK {X:PlX} {p:Rf.Pl} {r:Rw} (h:r∈zb X p):r.t=3∨r.t=130∨r.t=24:=by
 unfold zb at h
 have hz:∀(a:List Value) (b:List (List Int)),r∈List.zipWith zQ a b→r.t=3:=by
  intro a
  induction a with
  | nil=>intro b hb;simp at hb
  | cons x a ih=>intro b hb;cases b with
   | nil=>simp at hb
   | cons y b=>
    rw[List.zipWith_cons_cons]at hb
    rcases List.mem_cons.mp hb with rfl | hb
    ·rfl
    ·exact ih b hb
 rcases List.mem_append.mp h with h | h
 ·simp only[List.mem_cons,List.not_mem_nil,or_false]at h
  rcases h with rfl | rfl | rfl | rfl
  ·exact Or.inr (Or.inl rfl)
  ·exact Or.inl rfl
  ·exact Or.inr (Or.inr rfl)
  ·exact Or.inl rfl
 ·rcases List.mem_append.mp h with h | h
  ·exact Or.inl (hz _ _ h)
  ·exact Or.inl (hz _ _ h)
theorem PlO.apart {w:World} {B P:Nat} {p:Rf.Pl} {X:PlX} (h:PlO w B P p X) {k:Nat} (hk:k∈zAJ (zb X p)):k≠P:=by
 obtain⟨r,hr,hg⟩:=List.mem_filterMap.mp hk
 obtain⟨c,hc⟩:=zAj (h.own.rows r hr) hg
 rintro rfl
 rw[h.block]at hc
 injection hc with hc
 injection hc with _ hc
 rcases zLK hr with e | e | e <;> rw[e]at hc <;> exact absurd hc (by decide)
theorem PlO.same {w w':World} {B P:Nat} {p p':Rf.Pl} {X:PlX} (h:PlO w B P p X) (hk:∀k∈zAJ (zb X p),w'.heap[k]?=w.heap[k]?) (hP:w'.heap[P]?=some (.cells (plA X.fv X.vv X.cv X.ov p') 72 (0,0))) (hr:zb X p'=zb X p) (hf:p'.zD.length=p.zD.length) (hc:p'.cells.length=p.cells.length):PlO w' B P p' X:=
 ⟨hP,by rw[hr];exact⟨fun r hm=>zAZ (h.own.rows r hm) (fun g hg=>hk g (zAf hm hg)),h.own.apart⟩,by rw[hf];exact h.fl,by rw[hc];exact h.cl,by rw[hr];exact h.new,h.here⟩
theorem PlO.cell {w:World} {B P:Nat} {p p':Rf.Pl} {X:PlX} (h:PlO w B P p X) (i:Nat) (v:Value) (hA:(plA X.fv X.vv X.cv X.ov p).setIfInBounds i v=plA X.fv X.vv X.cv X.ov p') (hr:zb X p'=zb X p) (hf:p'.zD.length=p.zD.length) (hc:p'.cells.length=p.cells.length):PlO (w.setCell ⟨P,i,none⟩ v) B P p' X∧Below B w (w.setCell ⟨P,i,none⟩ v):=
 ⟨h.same (fun k hk=>Below.heap_setCell w ⟨P,i,none⟩ _ k (h.apart hk)) (by rw[zO h.block,hA]) hr hf hc,zt (Below.refl B w) h.here _ _⟩
theorem PlO.zEL {w:World} {B P:Nat} {p:Rf.Pl} {X:PlX} (h:PlO w B P p X) (n:Int):PlO (w.setCell ⟨P,5,none⟩ (.int .i64 n)) B P { p with line:=n } X∧Below B w (w.setCell ⟨P,5,none⟩ (.int .i64 n)):=h.cell 5 _ rfl rfl rfl rfl
theorem PlO.setRead {w:World} {B P:Nat} {p:Rf.Pl} {X:PlX} (h:PlO w B P p X) (n:Nat):PlO (w.setCell ⟨P,3,none⟩ (.int .i64 n)) B P { p with read:=n } X∧Below B w (w.setCell ⟨P,3,none⟩ (.int .i64 n)):=h.cell 3 _ rfl rfl rfl rfl
theorem PlO.store {w:World} {B P:Nat} {p p':Rf.Pl} {X:PlX} (h:PlO w B P p X) {A C:List Rw} {v:Value} {l:List Int} {g c:Nat} {x:Int} (hr:zb X p=A++zQ v l::C) (hr':zb X p'=A++zQ v (l.set c x)::C) (hg:v.ownBlock=some g)
  (hA:plA X.fv X.vv X.cv X.ov p'=plA X.fv X.vv X.cv X.ov p) (hf:p'.zD.length=p.zD.length) (hc:p'.cells.length=p.cells.length):PlO (w.setCell ⟨g,c,none⟩ (.int .i64 x)) B P p' X∧Below B w (w.setCell ⟨g,c,none⟩ (.int .i64 x)):=by
 have ho:=h.own
 have hgm:g∈zAJ (zb X p):=by rw[hr];exact zAf (r:=zQ v l) (by simp) hg
 rw[hr]at ho
 obtain⟨o1,_⟩:=zLF ho hg c x
 have hb:zAJ (zb X p')=zAJ (zb X p):=by
  rw[hr,hr',zA7,zA7,zBY,zBY];rfl
 refine⟨⟨?_,by rw[hr'];exact o1,by rw[hf];exact h.fl,by rw[hc];exact h.cl,by rw[hb];exact h.new,h.here⟩,zt (Below.refl B w) (h.new g hgm) _ _⟩
 rw[Below.heap_setCell w ⟨g,c,none⟩ _ P (Ne.symm (h.apart hgm)),hA]
 exact h.block
theorem PlO.setVar {w:World} {B P:Nat} {p:Rf.Pl} {X:PlX} (h:PlO w B P p X) {g:Nat} (hg:X.vv.ownBlock=some g) (d:Nat) (x:Int):PlO (w.setCell ⟨g,d,none⟩ (.int .i64 x)) B P { p with vars:=p.vars.set d x } X∧Below B w (w.setCell ⟨g,d,none⟩ (.int .i64 x)):=
 h.store (A:=[zBI X.fv X.fps p.zD]) rfl rfl hg rfl rfl rfl
theorem PlO.setArg {w:World} {B P:Nat} {p:Rf.Pl} {X:PlX} (h:PlO w B P p X) {i:Nat} (hi:i < p.zD.length) {pv:Value} (hpv:X.fps[i]?=some pv) {g:Nat} (hg0:pv.ownBlock=some g) (c:Nat) (x:Int) :
  PlO (w.setCell ⟨g,c,none⟩ (.int .i64 x)) B P { p with zD:=p.zD.modify i (fun f=>⟨f.proc,f.args.set c x,f.call⟩) } X∧Below B w (w.setCell ⟨g,c,none⟩ (.int .i64 x)):=by
 have hi':i < X.fps.length:=by rw[h.fl];exact hi
 have hg:X.fps[i].ownBlock=some g:=by
  rw[List.getElem?_eq_getElem hi']at hpv
  injection hpv with hpv
  rw[hpv];exact hg0
 obtain⟨Q,R,z1,z2⟩:=zEc zQ X.fps (p.zD.map Rf.Fr.args) i hi' (by simpa using hi)
 refine h.store (A:=[zBI X.fv X.fps p.zD,zQ X.vv p.vars,zCh X.cv X.cps p.cells.length,zQ X.ov p.out]++Q) (C:=R++List.zipWith zQ X.cps p.cells) (l:=(p.zD.map Rf.Fr.args)[i]'(by simpa using hi)) ?_ ?_ hg rfl (by simp) rfl
 ·unfold zb;rw[z1];simp
 ·unfold zb
  rw[mapA_mod p.zD i (fun a=>a.set c x),z2 (fun a=>a.set c x)]
  simp only[zBI,List.length_modify,zIs X.fps p.zD i (fun a=>a.set c x)]
  simp
theorem PlO.setCel {w:World} {B P:Nat} {p:Rf.Pl} {X:PlX} (h:PlO w B P p X) {i:Nat} (hi:i < p.cells.length) {pv:Value} (hpv:X.cps[i]?=some pv) {g:Nat} (hg0:pv.ownBlock=some g) (c:Nat) (x:Int) :
  PlO (w.setCell ⟨g,c,none⟩ (.int .i64 x)) B P { p with cells:=p.cells.set i (p.cells[i].set c x) } X∧Below B w (w.setCell ⟨g,c,none⟩ (.int .i64 x)):=by
 have hi':i < X.cps.length:=by rw[h.cl];exact hi
 have hg:X.cps[i].ownBlock=some g:=by
  rw[List.getElem?_eq_getElem hi']at hpv
  injection hpv with hpv
  rw[hpv];exact hg0
 obtain⟨Q,R,z1,z2⟩:=zEc zQ X.cps p.cells i hi' hi
 have hm:p.cells.set i (p.cells[i].set c x)=p.cells.modify i (fun a=>a.set c x):=by
  apply List.ext_getElem
  ·simp
  ·intro j h1 h2
   rw[List.getElem_set,List.getElem_modify]
   split
   ·next e=>subst e;rfl
   ·rfl
 refine h.store (A:=[zBI X.fv X.fps p.zD,zQ X.vv p.vars,zCh X.cv X.cps p.cells.length,zQ X.ov p.out]++(List.zipWith zQ X.fps (p.zD.map Rf.Fr.args)++Q)) (C:=R) (l:=p.cells[i]) ?_ ?_ hg rfl rfl (by simp)
 ·unfold zb;rw[z1];simp
 ·unfold zb
  simp only[hm,z2 (fun a=>a.set c x),List.length_modify]
  simp
theorem PlO.pushOut {w wy w1:World} {B P:Nat} {p:Rf.Pl} {X:PlX} (h:PlO w B P p X) (hB:B≤w.heap.size) (hby:Below w.heap.size w wy) (x:Int) (hg:wy.grownBy w1 X.ov.ownBlock) (ov':Value) (hown:w1.ownsRow 0 3 1 ov' (p.out.length+1) (zz p.out++[.int .i64 x])) (hat:∀g,ov'.ownBlock=some g→X.ov.ownBlock=some g∨w.heap.size≤g) :
  PlO (w1.setCell ⟨P,4,none⟩ ov') B P { p with out:=p.out++[x] } { X with ov:=ov' }∧Below B w (w1.setCell ⟨P,4,none⟩ ov'):=by
 have hkx:∀k,k < w.heap.size→X.ov.ownBlock≠some k→w1.heap[k]?=w.heap[k]?:=fun k hk hv=>(hg.block k (Nat.lt_of_lt_of_le hk hby.size) (Ne.symm hv)).trans (hby.block k hk)
 have hPne:X.ov.ownBlock≠some P:=fun e=>h.apart (zAf (r:=zQ X.ov p.out) (by simp[zb]) e) rfl
 have hPlt:=zJ h.block
 have hbP:w1.heap[P]?=some (.cells (plA X.fv X.vv X.cv X.ov p) 72 (0,0)):=(hkx P hPlt hPne).trans h.block
 have ho:=h.own
 have hre:zb X p=[zBI X.fv X.fps p.zD,zQ X.vv p.vars,zCh X.cv X.cps p.cells.length]++zQ X.ov p.out::(List.zipWith zQ X.fps (p.zD.map Rf.Fr.args)++List.zipWith zQ X.cps p.cells):=by simp[zb]
 rw[hre]at ho
 have hnew:zQ ov' (p.out++[x])=⟨3,1,ov',p.out.length+1,zz p.out++[.int .i64 x]⟩:=by simp[zQ,zz]
 obtain⟨o1,o2⟩:=Own.swap (w':=w1) ho (r':=zQ ov' (p.out++[x])) hkx (by rw[hnew];exact hown) hat
 have hre':zb { X with ov:=ov' } { p with out:=p.out++[x] }=[zBI X.fv X.fps p.zD,zQ X.vv p.vars,zCh X.cv X.cps p.cells.length]++zQ ov' (p.out++[x])::(List.zipWith zQ X.fps (p.zD.map Rf.Fr.args)++List.zipWith zQ X.cps p.cells):=by simp[zb]
 have hnewk:∀k∈zAJ (zb { X with ov:=ov' } { p with out:=p.out++[x] }),B≤k:=by
  intro k hk
  rw[hre']at hk
  rcases o2 k hk with hk | hk
  ·rw[←hre]at hk;exact h.new k hk
  ·omega
 have hPn:∀k∈zAJ (zb { X with ov:=ov' } { p with out:=p.out++[x] }),k≠P:=by
  intro k hk
  rw[hre']at hk
  rcases o2 k hk with hk | hk
  ·rw[←hre]at hk;exact h.apart hk
  ·omega
 refine⟨⟨?_,?_,h.fl,h.cl,hnewk,h.here⟩,?_⟩
 ·rw[zO hbP];rfl
 ·rw[←hre']at o1
  exact⟨fun r hm=>zAZ (o1.rows r hm) (fun g hg=>Below.heap_setCell w1 ⟨P,4,none⟩ _ g (hPn g (zAf hm hg))),o1.apart⟩
 ·refine zt ?_ h.here _ _
  refine⟨hg.os.trans hby.os,hg.tape.trans hby.tape,hg.output.trans hby.output,Nat.le_trans hby.size hg.size,fun k hk=>hkx k (by omega) (fun e=>?_)⟩
  have:=h.new k (zAf (r:=zQ X.ov p.out) (by simp[zb]) e)
  omega
theorem PlO.zIB {w wx wy w1:World} {B P:Nat} {p:Rf.Pl} {X:PlX} (h:PlO w B P p X) (hB:B≤w.heap.size) (hb:Below w.heap.size w wx) (hby:Below wx.heap.size wx wy) (pv:Value) (f:Rf.Fr) (hn:wx.ownsRow w.heap.size 3 1 pv f.args.length (zz f.args))
  (hg:wy.grownBy w1 X.fv.ownBlock) (fv':Value) (hown:w1.ownsRow 0 130 3 fv' (p.zD.length+1) (frCells X.fps p.zD++[.int .i64 f.proc,pv,.int .i64 f.call])) (hat:∀g,fv'.ownBlock=some g→X.fv.ownBlock=some g∨wx.heap.size≤g) :
  PlO (w1.setCell ⟨P,0,none⟩ fv') B P { p with zD:=p.zD++[f] } { X with fv:=fv',fps:=X.fps++[pv] }∧Below B w (w1.setCell ⟨P,0,none⟩ fv'):=by
 have hkx:∀k,k < wx.heap.size→X.fv.ownBlock≠some k→w1.heap[k]?=wx.heap[k]?:=fun k hk hv=>(hg.block k (Nat.lt_of_lt_of_le hk hby.size) (Ne.symm hv)).trans (hby.block k hk)
 have hkeep:∀k,k < w.heap.size→X.fv.ownBlock≠some k→w1.heap[k]?=w.heap[k]?:=fun k hk hv=>(hkx k (Nat.lt_of_lt_of_le hk hb.size) hv).trans (hb.block k hk)
 have hPne:X.fv.ownBlock≠some P:=fun e=>h.apart (zAf (r:=zBI X.fv X.fps p.zD) (by simp[zb]) e) rfl
 have hPlt:=zJ h.block
 have hbP:w1.heap[P]?=some (.cells (plA X.fv X.vv X.cv X.ov p) 72 (0,0)):=(hkeep P hPlt hPne).trans h.block
 have ho0:=h.own.zH hb
 have hpv:∀g,pv.ownBlock=some g→g∉zAJ (zb X p):=fun g hg hm=>by
  have h1:=h.own.lt g hm
  have h2:=(hn.lt g hg).1
  omega
 have ho1:Own wx (([zBI X.fv X.fps p.zD,zQ X.vv p.vars,zCh X.cv X.cps p.cells.length,zQ X.ov p.out]++List.zipWith zQ X.fps (p.zD.map Rf.Fr.args))++zQ pv f.args::List.zipWith zQ X.cps p.cells):=
  Own.add (by rw[List.append_assoc];exact ho0) (zCr hn) (fun g hg=>by rw[List.append_assoc];exact hpv g hg)
 have hre:([zBI X.fv X.fps p.zD,zQ X.vv p.vars,zCh X.cv X.cps p.cells.length,zQ X.ov p.out]++List.zipWith zQ X.fps (p.zD.map Rf.Fr.args))++zQ pv f.args::List.zipWith zQ X.cps p.cells=[]++zBI X.fv X.fps p.zD::([zQ X.vv p.vars,zCh X.cv X.cps p.cells.length,zQ X.ov p.out]++(List.zipWith zQ X.fps (p.zD.map Rf.Fr.args)++zQ pv f.args::List.zipWith zQ X.cps p.cells)):=by simp
 have ho2:=ho1
 rw[hre]at ho2
 have hnew:zBI fv' (X.fps++[pv]) (p.zD++[f])=⟨130,3,fv',p.zD.length+1,frCells X.fps p.zD++[.int .i64 f.proc,pv,.int .i64 f.call]⟩:=by
  simp only[zBI,zFA _ _ _ _ h.fl,List.length_append,List.length_singleton]
 obtain⟨o1,o2⟩:=Own.swap (w':=w1) ho2 (r':=zBI fv' (X.fps++[pv]) (p.zD++[f])) hkx (by rw[hnew];exact hown) hat
 have hz:List.zipWith zQ (X.fps++[pv]) ((p.zD++[f]).map Rf.Fr.args)=List.zipWith zQ X.fps (p.zD.map Rf.Fr.args)++[zQ pv f.args]:=by
  rw[List.map_append,List.zipWith_append (by rw[List.length_map];exact h.fl)];rfl
 have hre':zb { X with fv:=fv',fps:=X.fps++[pv] } { p with zD:=p.zD++[f] }=[]++zBI fv' (X.fps++[pv]) (p.zD++[f])::([zQ X.vv p.vars,zCh X.cv X.cps p.cells.length,zQ X.ov p.out]++(List.zipWith zQ X.fps (p.zD.map Rf.Fr.args)++zQ pv f.args::List.zipWith zQ X.cps p.cells)):=by
  unfold zb
  simp only[hz,List.append_assoc,List.cons_append,List.nil_append]
 have hcase:∀k∈zAJ (zb { X with fv:=fv',fps:=X.fps++[pv] } { p with zD:=p.zD++[f] }),k∈zAJ (zb X p)∨w.heap.size≤k:=by
  intro k hk
  rw[hre']at hk
  rcases o2 k hk with hk | hk
  ·rw[←hre]at hk
   rcases zE2 hk with hk | hk
   ·rw[List.append_assoc]at hk;exact Or.inl hk
   ·exact Or.inr (hn.lt k hk).1
  ·exact Or.inr (Nat.le_trans hb.size hk)
 refine⟨⟨?_,?_,by simp[h.fl],h.cl,fun k hk=>?_,h.here⟩,?_⟩
 ·rw[zO hbP];rfl
 ·rw[←hre']at o1
  exact⟨fun r hm=>zAZ (o1.rows r hm) (fun g hg=>Below.heap_setCell w1 ⟨P,0,none⟩ _ g (by
   show g≠P
   rcases hcase g (zAf hm hg)with hk | hk
   ·exact h.apart hk
   ·omega)),o1.apart⟩
 ·rcases hcase k hk with hk | hk
  ·exact h.new k hk
  ·omega
 ·refine zt ?_ h.here _ _
  refine⟨hg.os.trans (hby.os.trans hb.os),hg.tape.trans (hby.tape.trans hb.tape),hg.output.trans (hby.output.trans hb.output),Nat.le_trans (Nat.le_trans hb.size hby.size) hg.size,fun k hk=>hkeep k (by omega) (fun e=>?_)⟩
  have:=h.new k (zAf (r:=zBI X.fv X.fps p.zD) (by simp[zb]) e)
  omega
theorem PlO.popFrame {w:World} {B P:Nat} {p:Rf.Pl} {X:PlX} (h:PlO w B P p X) (fs:List Rf.Fr) (f:Rf.Fr) (hf:p.zD=fs++[f]) (g cap:Nat) (hv:X.fv=.slice (some ⟨g,0,none⟩) (fs.length+1) cap) :
  PlO (w.setCell ⟨P,0,none⟩ (.slice (some ⟨g,0,none⟩) fs.length cap)) B P { p with zD:=fs } { X with fv:=.slice (some ⟨g,0,none⟩) fs.length cap,fps:=X.fps.dropLast }∧Below B w (w.setCell ⟨P,0,none⟩ (.slice (some ⟨g,0,none⟩) fs.length cap)):=by
 have hfl:=h.fl
 rw[hf,List.length_append,List.length_singleton]at hfl
 obtain⟨fps,pv,hfps⟩:∃fps pv,X.fps=fps++[pv]:=by
  have hne:X.fps≠[]:=by intro e;rw[e]at hfl;simp at hfl
  exact⟨X.fps.dropLast,X.fps.getLast hne,(List.dropLast_concat_getLast hne).symm⟩
 have hl:fps.length=fs.length:=by rw[hfps]at hfl;simpa using hfl
 have hdl:X.fps.dropLast=fps:=by rw[hfps,List.dropLast_concat]
 have hrow:w.ownsRow 0 130 3 (.slice (some ⟨g,0,none⟩) fs.length cap) fs.length (frCells fps fs):=by
  have h1:=h.zDV
  rw[hf,hfps,hv,zFA _ _ _ _ hl]at h1
  obtain⟨q1,q2⟩:=h1
  rcases q2 with⟨q2,_⟩| ⟨g',cap',cur,e,q3,q4,q5,q6,q7,q8⟩
  ·cases q2
  ·simp only[Value.slice.injEq,Option.some.injEq,Addr.mk.injEq,and_true]at e
   obtain⟨rfl,e2,rfl⟩:=e
   refine⟨by rw[zFm _ _ hl],Or.inr ⟨g,cap,cur,rfl,q3,q4,by simp at q5;omega,q6,q7,?_⟩⟩
   have:=congrArg (List.take (fs.length*3)) q8
   rw[List.take_take,List.take_left' (by rw[zFm _ _ hl])]at this
   rw[←this]
   congr 1
   simp
 have hre:zb X p=([zBI X.fv X.fps p.zD,zQ X.vv p.vars,zCh X.cv X.cps p.cells.length,zQ X.ov p.out]++List.zipWith zQ fps (fs.map Rf.Fr.args))++zQ pv f.args::List.zipWith zQ X.cps p.cells:=by
  have:List.zipWith zQ X.fps (p.zD.map Rf.Fr.args)=List.zipWith zQ fps (fs.map Rf.Fr.args)++[zQ pv f.args]:=by
   rw[hf,hfps,List.map_append,List.zipWith_append (by rw[List.length_map];exact hl)];rfl
  unfold zb
  rw[this]
  simp
 have ho0:=h.own
 rw[hre]at ho0
 have ho1:=ho0.drop
 have hre2:[zBI X.fv X.fps p.zD,zQ X.vv p.vars,zCh X.cv X.cps p.cells.length,zQ X.ov p.out]++List.zipWith zQ fps (fs.map Rf.Fr.args)++List.zipWith zQ X.cps p.cells=[]++zBI X.fv X.fps p.zD::([zQ X.vv p.vars,zCh X.cv X.cps p.cells.length,zQ X.ov p.out]++(List.zipWith zQ fps (fs.map Rf.Fr.args)++List.zipWith zQ X.cps p.cells)):=by simp
 have hsub:∀k∈zAJ ([zBI X.fv X.fps p.zD,zQ X.vv p.vars,zCh X.cv X.cps p.cells.length,zQ X.ov p.out]++List.zipWith zQ fps (fs.map Rf.Fr.args)++List.zipWith zQ X.cps p.cells),k∈zAJ (zb X p):=fun k hk=>by rw[hre];exact zLr _ _ _ k hk
 rw[hre2]at ho1 hsub
 obtain⟨o1,o2⟩:=Own.swap (w':=w) ho1 (r':=zBI (.slice (some ⟨g,0,none⟩) fs.length cap) fps fs) (fun k _ _=>rfl) hrow (fun k hk=>Or.inl (by show X.fv.ownBlock=some k;rw[hv];exact hk))
 have hre':zb { X with fv:=.slice (some ⟨g,0,none⟩) fs.length cap,fps:=X.fps.dropLast } { p with zD:=fs }=[]++zBI (.slice (some ⟨g,0,none⟩) fs.length cap) fps fs::([zQ X.vv p.vars,zCh X.cv X.cps p.cells.length,zQ X.ov p.out]++(List.zipWith zQ fps (fs.map Rf.Fr.args)++List.zipWith zQ X.cps p.cells)):=by
  rw[hdl];rfl
 have hcase:∀k∈zAJ (zb { X with fv:=.slice (some ⟨g,0,none⟩) fs.length cap,fps:=X.fps.dropLast } { p with zD:=fs }),k∈zAJ (zb X p):=by
  intro k hk
  have hlt:k < w.heap.size:=by rw[hre']at hk;exact o1.lt k hk
  rw[hre']at hk
  rcases o2 k hk with hk | hk
  ·exact hsub k hk
  ·omega
 refine⟨⟨?_,?_,by rw[hdl];exact hl,h.cl,fun k hk=>h.new k (hcase k hk),h.here⟩,zt (Below.refl B w) h.here _ _⟩
 ·rw[zO h.block];rfl
 ·rw[←hre']at o1
  exact⟨fun r hm=>zAZ (o1.rows r hm) (fun g' hg=>Below.heap_setCell w ⟨P,0,none⟩ _ g' (h.apart (hcase g' (zAf hm hg)))),o1.apart⟩
end Go.Proofs.YthleadfkfnnadaaGreat
