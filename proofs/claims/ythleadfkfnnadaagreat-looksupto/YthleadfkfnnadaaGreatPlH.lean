/- What a machine keeps to, it keeps to behind a step: plain. -/
import Derived.Test.YthleadfkfnnadaaGreatPlB
import Derived.Test.YthleadfkfnnadaaGreatGnA
set_option maxHeartbeats 4000000
set_option maxRecDepth 100000
set_option linter.unusedSimpArgs false
namespace Go.Proofs.YthleadfkfnnadaaGreat
open Rt
open Go.RowKit
variable {x:ByteArray} {k:Int} {B P g i:Nat} {X:Qg} {p p':Rf.Pl} {pv:Value} {w wy w1:World}
namespace Rf
open Rt
theorem AG (S:Rt.Src) (m:Mc) (x:ByteArray) (e:List qM):perform S m ⟨8,x,0,[],[],[e]⟩=if (zr S m e).2=0 then ⟨0,wrap64 (m.line+1),[stay m.line,Rt.stored m (vx S m x)],jN m (vx S m x) (zr S m e).1⟩else ended m (zr S m e).2:=by
 rfl
theorem AF (S:Rt.Src) (m:Mc) (x:ByteArray) (i e:List qM):perform S m ⟨9,x,0,[],i,[e]⟩=if (zr S m i).2=0 then (if (zr S m e).2=0 then (if Q6 m ⟨(xb S.zL x:Nat),(zr S m i).1⟩=true then ⟨0,wrap64 (m.line+1),[stay m.line,Rt.stored m ⟨(xb S.zL x:Nat),(zr S m i).1⟩],jN m ⟨(xb S.zL x:Nat),(zr S m i).1⟩ (zr S m e).1⟩else ended m 3)else ended m (zr S m e).2)else ended m (zr S m i).2:=by
 simp only[perform,kP,Rt.kX];by_cases h:Q6 m ⟨(xb S.zL x:Nat),(zr S m i).1⟩=true
 ·rw[zE h,zE h];rfl
 ·rw[zA h,zA h];rfl
theorem sI (S:Rt.Src) (m:Mc) (e:List qM):perform S m ⟨10,⟨#[]⟩,0,[],[],[e]⟩=if (zr S m e).2=0 then (if 50<=m.output.length then ended m 6 else ⟨0,wrap64 (m.line+1),[stay m.line,⟨5,0,⟨0,0⟩,0⟩],{ m with output:=m.output++[(zr S m e).1] }⟩)else ended m (zr S m e).2:=by
 rfl
theorem AH (S:Rt.Src) (m:Mc) (x:ByteArray):perform S m ⟨11,x,0,[],[],[]⟩=if m.taken < 0\/S.input.length<=m.taken then ended m 4 else ⟨0,wrap64 (m.line+1),[stay m.line,Rt.stored m (vx S m x),⟨6,0,⟨0,0⟩,0⟩],{ jN m (vx S m x) ((S.input[m.taken.toNat]?).getD 0)with taken:=wrap64 (m.taken+1) }⟩:=by
 rfl
theorem oK (S:Rt.Src) (m:Mc) (k:Int) (hk:k=5\/k=7) (e:List qM):perform S m ⟨k,⟨#[]⟩,0,[],[],[e]⟩=if (zr S m e).2=0 then ⟨0,if (zr S m e).1=0 then ky S.lk m.line else wrap64 (m.line+1),[stay m.line],m⟩else ended m (zr S m e).2:=by
 rcases hk with rfl | rfl <;> rfl
theorem AJ (S:Rt.Src) (m:Mc) (x:ByteArray) (d:List (List qM)):perform S m ⟨12,x,0,[],[],d⟩=if (argsI S m d []).2=0 then (if 6<=m.zH.length then ended m 5 else ⟨0,wrap64 (xb S.zL x+1),[⟨2,m.line,⟨0,0⟩,0⟩],{ m with zH:=m.zH++[⟨(argsI S m d []).1,m.line⟩] }⟩)else ended m (argsI S m d []).2:=by
 rfl
theorem sJ (S:Rt.Src) (m:Mc) (k:Int) (hk:k=13\/k=4):perform S m ⟨k,⟨#[]⟩,0,[],[],[]⟩=if m.zH.length < 2 then ended m 1 else ⟨0,wrap64 ((m.zH.getLastD Qe).call+1),⟨3,m.line,⟨0,0⟩,(m.zH.getLastD Qe).call⟩::(m.zH.getLastD Qe).params.map (fun v=>⟨7,0,⟨0,0⟩,v⟩),{ m with zH:=m.zH.dropLast }⟩:=by
 rcases hk with rfl | rfl <;> rfl
section
variable {ps zL:List PL} {ls:List (List ByteArray)} {S:Rt.Src} {m:Mc} (C:Ctx ps zL ls S) (F:KA ps zL ls S m) (hfin:m.fin = 0) {l:Nat} (h1:l < ps.length) (h2:m.line = (l:Int) + 1) (h4:xu ps l ≠ [])
include C h1 h2 h4
theorem Jh:((ps[l].form.kind=8\/ps[l].form.kind=11)->Rt.isVar zL (qJ S m) ps[l].form.name=true)/\(ps[l].form.kind=9->ZW zL (qJ S m) ps[l].form.name=true)/\(ps[l].form.kind=12->XF zL ps[l].form=true)/\
  (¬(ps[l].form.kind=1\/ps[l].form.kind=2\/ps[l].form.kind=3)->XP zL (qJ S m) ps[l].form.index=true/\∀e∈ps[l].form.values,XP zL (qJ S m) e=true):=by
 have d:=C.br l h1;have f:=(wv C h1 h2 h4).1;unfold qh at d;rw[aa C.dz h1]at d;unfold jF at d;rw[aa C.dz h1,<-f]at d;refine⟨fun hk=>?_,fun hk=>?_,fun hk=>?_,fun hk=>?_⟩
 ·rw[zA (by omega),zA (by omega),zE hk,zy]at d;exact d.1
 ·rw[zA (by omega),zA (by omega),zA (by omega),zE hk,zy]at d;exact d.1
 ·rw[zA (by omega),zA (by omega),zA (by omega),zA (by omega),zE hk,zy]at d;exact d.1
 ·have:(XP zL (qJ S m) ps[l].form.index && ps[l].form.values.all (XP zL (qJ S m)))=true:=by
   rw[zA (by omega),zA (by omega)]at d;split at d
   ·rw[zy]at d;exact d.2
   ·split at d
    ·rw[zy]at d;exact d.2
    ·split at d
     ·rw[zy]at d;exact d.2
     ·exact d
  rw[zy,vZ]at this;exact this
include F hfin
theorem lC {e:List qM} (f:ps[l].form=⟨8,x,0,[],[],[e]⟩):Step ps zL ls S m (if (zr S m e).2=0 then { vV ls (yT zL m) x (zr S m e).1 with line:=(jc ls (l+1):Nat) }else { yT zL m with fin:=(zr S m e).2 }) (if (zr S m e).2=0 then 2 else 1):=by
 have d:=AG S m x e;rw[<-f,<-Yz C h1 h2]at d;have I:=C.len;have i:=C.law.len;have E:=Y4 C F;by_cases h0:(zr S m e).2=0
 ·rw[zE h0]at d;rw[zE h0,zE h0];have h:=(Jh C h1 h2 h4).1 (Or.inl (by rw[f]));rw[f]at h;obtain⟨D,n2⟩:=K4 h4 (by rw[Qm h1,f];simp);obtain⟨A,H,z,G,y,o,j⟩:=fT m (vx S m x) (zr S m e).1;have:=Kx C F hfin h1 h2 h4 d rfl (k:=l+1) (by omega) (by show wrap64 (m.line+1)=_;rw[h2,Xt (by omega)]) D n2 A y o j (by show 0<=(jN m _ _).taken/\_;rw[z];exact F.taken);rw[oI E h E.ok.top]at this;exact this
 ·rw[zA h0]at d;rw[zA h0,zA h0];exact ZR F hfin d h0
theorem lB {i e:List qM} (h:ps[l].form=⟨9,x,0,[],i,[e]⟩):Step ps zL ls S m (if (zr S m i).2=0 then (if (zr S m e).2=0 then (if (zr S m i).1 < 0\/(((yT zL m).cells.getD (decl ls x) []).length:Int)<=(zr S m i).1 then { yT zL m with fin:=3 }else
   { yT zL m with cells:=(yT zL m).cells.set (decl ls x) (((yT zL m).cells.getD (decl ls x) []).set (zr S m i).1.toNat (zr S m e).1),line:=(jc ls (l+1):Nat) })else { yT zL m with fin:=(zr S m e).2 })else { yT zL m with fin:=(zr S m i).2 })
   (if (zr S m i).2=0 then (if (zr S m e).2=0 then (if (zr S m i).1 < 0\/(((yT zL m).cells.getD (decl ls x) []).length:Int)<=(zr S m i).1 then 1 else 2)else 1)else 1):=by
 have d:=AF S m x i e;rw[<-h,<-Yz C h1 h2]at d;have N:=C.len;have y:=C.law.len;have E:=Y4 C F;have j:=(Jh C h1 h2 h4).2.1 (by rw[h]);rw[h]at j;obtain⟨J,R,O⟩:=GD E j;by_cases hi:(zr S m i).2=0
 ·rw[zE hi]at d;rw[zE hi,zE hi];by_cases h0:(zr S m e).2=0
  ·rw[zE h0]at d;rw[zE h0,zE h0];have f:(Q6 m ⟨(xb S.zL x:Nat),(zr S m i).1⟩=true)↔¬((zr S m i).1 < 0\/(((yT zL m).cells.getD (decl ls x) []).length:Int)<=(zr S m i).1):=by
    rw[J];unfold Q6;simp only[yS];omega
   by_cases hh:(zr S m i).1 < 0\/(((yT zL m).cells.getD (decl ls x) []).length:Int)<=(zr S m i).1
   ·rw[zA (fun q=>f.mp q hh)]at d;rw[zE hh,zE hh];exact ZR F hfin d (by simp[ended])
   ·have o:=f.mpr hh;rw[zE o]at d;rw[zA hh,zA hh];obtain⟨I,n2⟩:=K4 h4 (by rw[Qm h1,h];simp);obtain⟨H,M,G,L,D,A,z⟩:=fT m ⟨(xb S.zL x:Nat),(zr S m i).1⟩ (zr S m e).1;have:=Kx C F hfin h1 h2 h4 d rfl (k:=l+1) (by omega) (by show wrap64 (m.line+1)=_;rw[h2,Xt (by omega)]) I n2 H D A z (by show 0<=(jN m _ _).taken/\_;rw[G];exact F.taken);rw[CD E j o]at this;exact this
  ·rw[zA h0]at d;rw[zA h0,zA h0];exact ZR F hfin d h0
 ·rw[zA hi]at d;rw[zA hi,zA hi];exact ZR F hfin d hi
theorem fI {e:List qM} (f:ps[l].form=⟨10,⟨#[]⟩,0,[],[],[e]⟩):Step ps zL ls S m (if (zr S m e).2=0 then (if 50<=m.output.length then { yT zL m with fin:=6 }else { yT zL m with out:=m.output++[(zr S m e).1],line:=(jc ls (l+1):Nat) })else { yT zL m with fin:=(zr S m e).2 }) (if (zr S m e).2=0 then (if 50<=m.output.length then 1 else 2)else 1):=by
 have d:=sI S m e;rw[<-f,<-Yz C h1 h2]at d;have j:=C.len;have h:=C.law.len;by_cases h0:(zr S m e).2=0
 ·rw[zE h0]at d;rw[zE h0,zE h0];by_cases ho:50<=m.output.length
  ·rw[zE ho]at d;rw[zE ho,zE ho];exact ZR F hfin d (by simp[ended])
  ·rw[zA ho]at d;rw[zA ho,zA ho];obtain⟨i,n2⟩:=K4 h4 (by rw[Qm h1,f];simp);exact Kx C F hfin h1 h2 h4 d rfl (k:=l+1) (by omega) (by show wrap64 (m.line+1)=_;rw[h2,Xt (by omega)]) i n2 rfl rfl rfl rfl F.taken
 ·rw[zA h0]at d;rw[zA h0,zA h0];exact ZR F hfin d h0
theorem lD (H:S.input.length<=100) (f:ps[l].form=⟨11,x,0,[],[],[]⟩):Step ps zL ls S m (if S.input.length<=m.taken.toNat then { yT zL m with fin:=4 }else { vV ls (yT zL m) x (S.input.getD m.taken.toNat 0)with read:=m.taken.toNat+1,line:=(jc ls (l+1):Nat) }) (if S.input.length<=m.taken.toNat then 1 else 3):=by
 have d:=AH S m x;rw[<-f,<-Yz C h1 h2]at d;have O:=C.len;have j:=C.law.len;have E:=Y4 C F;have N:=F.taken;by_cases h0:S.input.length<=m.taken.toNat
 ·rw[zE (by omega)]at d;rw[zE h0,zE h0];exact ZR F hfin d (by simp[ended])
 ·rw[zA (by omega)]at d;rw[zA h0,zA h0];have i:=(Jh C h1 h2 h4).1 (Or.inr (by rw[f]));rw[f]at i;obtain⟨D,n2⟩:=K4 h4 (by rw[Qm h1,f];simp);obtain⟨A,M,L,J,z,y,o⟩:=fT m (vx S m x) ((S.input[m.taken.toNat]?).getD 0);have G:wrap64 (m.taken+1)=m.taken+1:=yC _ (by omega);rw[G]at d;have:=Kx C F hfin h1 h2 h4 d rfl (k:=l+1) (by omega) (by show wrap64 (m.line+1)=_;rw[h2,Xt (by omega)]) D n2 A z y o (by show 0<=m.taken+1/\m.taken+1<=_;omega);have h:=oI E i E.ok.top ((S.input[m.taken.toNat]?).getD 0);have I:yT zL { jN m (vx S m x) ((S.input[m.taken.toNat]?).getD 0)with taken:=m.taken+1 }={ vV ls (yT zL m) x (S.input.getD m.taken.toNat 0)with read:=m.taken.toNat+1 }:=by
   rw[xL,<-h];unfold yT;simp only[Pl.mk.injEq,jH,jJ];omega
  simp only[I]at this;exact this
theorem KK (i:k=5\/k=7) {e:List qM} (o:ps[l].form=⟨k,⟨#[]⟩,0,[],[],[e]⟩):Step ps zL ls S m (if (zr S m e).2=0 then { yT zL m with line:=(jc ls (if (zr S m e).1=0 then other ls l else l+1):Nat) }else { yT zL m with fin:=(zr S m e).2 }) 1:=by
 have d:=oK S m k i e;rw[<-o,<-Yz C h1 h2]at d;have L:=C.len;have x:=C.law.len;have h:kd ps l=5\/kd ps l=7:=by rw[Qm h1,o];exact i
 by_cases h0:(zr S m e).2=0
 ·rw[zE h0]at d;rw[zE h0];by_cases hz:(zr S m e).1=0
  ·rw[zE hz]at d;rw[zE hz];obtain⟨z,y⟩:=oV C.dz C.both C.law.len h1 h;obtain⟨j,J,I,H,G,D⟩:=CP C.dz (by omega) h1 h;have f:other ls l=j+1:=by omega
   exact Kx C F hfin h1 h2 h4 d rfl (k:=other ls l) y (by show ky S.lk m.line=_;rw[h2,C.lk,z]) (by rw[f];exact G) (by rw[f];exact D) rfl rfl rfl rfl F.taken
  ·rw[zA hz]at d;rw[zA hz];obtain⟨A,n2⟩:=K4 h4 (by omega);exact Kx C F hfin h1 h2 h4 d rfl (k:=l+1) (by omega) (by show wrap64 (m.line+1)=_;rw[h2,Xt (by omega)]) A n2 rfl rfl rfl rfl F.taken
 ·rw[zA h0]at d;rw[zA h0];exact ZR F hfin d h0
theorem lE {vs:List (List qM)} (I:ps[l].form=⟨12,x,0,[],[],vs⟩):0 < decl ls x/\decl ls x<=ls.length/\Step ps zL ls S m (if (argsI S m vs []).2=0 then (if 6<=m.zH.length then { yT zL m with fin:=5 }else { yT zL m with zH:=(yT zL m).zH++[⟨decl ls x,(argsI S m vs []).1,m.line⟩],line:=(jc ls (decl ls x):Nat) })else { yT zL m with fin:=(argsI S m vs []).2 }) 1:=by
 have h:=AJ S m x vs;rw[<-I,<-Yz C h1 h2]at h;have hl:=C.len;have W:=C.law.len;have E:=Y4 C F;have i:=(Jh C h1 h2 h4).2.2.1 (by rw[I]);rw[I]at i;unfold XF at i;simp only[zy,yS]at i;have J:=az E (x:=x) (by rw[i.1];decide);have N:=Qb ls x;refine⟨J,N,?_⟩;by_cases h0:(argsI S m vs []).2=0
 ·rw[zE h0]at h;rw[zE h0];by_cases h6:6<=m.zH.length
  ·rw[zE h6]at h;rw[zE h6];exact ZR F hfin h (by simp[ended])
  ·rw[zA h6]at h;rw[zA h6];have M:xb S.zL x=decl ls x:=by rw[C.Ja,XR,C.both.Xh]
   obtain⟨d,O⟩:∃d,decl ls x=d+1:=⟨decl ls x-1,by omega⟩;have H:d < ps.length:=by omega
   have G:d < ls.length:=by omega
   have o:kd ps d=3:=by
    have:=i.1;unfold yJ at this;rw[C.both.Xh,O,show ((d+1:Nat):Int)=(d:Int)+1 by omega,Xp C.dz H,<-Qm]at this;exact this
   have y:xu ps (d+1)=[(d+1,3)]:=by rw[opened (Or.inl o),eg C.dz H (by omega),o];rfl
   obtain⟨j,j1,V,j3,U,j5⟩:=C.stop (k:=d+1) (by omega) (by rw[y];simp);have A:((jc ls (d+1):Nat):Int)=(j:Int)+1:=by rw[j1];omega
   have z:kD zL ((jc ls (d+1):Nat):Int)=d+1:=by rw[A,C.kD V U,j5,y];rfl
   have R:(argsI S m vs []).1.length=vs.length:=by
    have:=VG S m vs [] h0;simpa using this
   have L:d+1<=ls.length:=by omega
   have D:wrap64 ((d+2:Nat):Int)=((d+2:Nat):Int):=ZO (d+2) (by omega);obtain⟨p1,Z⟩:=C.params G o;have T:m.zH.length+1<=6:=by omega
   unfold Step;rw[fL hfin h rfl];simp only;rw[M,O,show ((d+1:Nat):Int)+1=((d+2:Nat):Int)from rfl,D,show ((d+2:Nat):Int)=((d+1:Nat):Int)+1 from rfl,C.go L];clear D h hfin;refine⟨?_,rfl,⟨⟨j,V,A,j3,U⟩,by simp,by simpa using T,?_,?_,F.VH,F.taken⟩⟩
   ·unfold yT;simp only[Pl.mk.injEq,jJ];rw[QX,z]
   ·intro f hm;simp only at hm;rw[QX,z]at hm;rcases zd.mp hm with hm | hm
    ·exact F.Gk f hm
    ·rw[yN.mp hm];refine⟨by simp,by show d+1<=_;omega,by rw[zu];exact p1,?_⟩;rw[zu,<-Z];show (argsI S m vs []).1.length=_;rw[R];have:=i.2;unfold yJ at this;rw[C.both.Xh,O,show ((d+1:Nat):Int)=(d:Int)+1 by omega]at this;exact this.symm
   ·intro f hm;simp only at hm;rw[Zc F.ne]at hm;rcases zd.mp hm with hm | hm
    ·exact F.calls f hm
    ·rw[yN.mp hm];exact⟨l,h1,h2,by rw[Qm h1,I]⟩
 ·rw[zA h0]at h;rw[zA h0];exact ZR F hfin h h0
theorem fJ (W:k=13\/k=4) (Z:ps[l].form=⟨k,⟨#[]⟩,0,[],[],[]⟩):(m.zH.length < 2->Step ps zL ls S m { yT zL m with fin:=1 } 1)/\
  (¬m.zH.length < 2->∃c:Nat,c < ls.length/\(top (yT zL m)).call=(c:Int)+1/\Step ps zL ls S m { yT zL m with zH:=(yT zL m).zH.dropLast,line:=(jc ls (c+1):Nat) } (1+(top (yT zL m)).args.length)):=by
 have d:=sJ S m k W;have _:=h4;rw[<-Z,<-Yz C h1 h2]at d;have hl:=C.len;have N:=C.law.len;constructor
 ·intro D;rw[zE D]at d;exact ZR F hfin d (by simp[ended])
 ·intro D;rw[zA D]at d;obtain⟨pre,g,o⟩:∃pre g,m.zH=pre++[g]:=⟨_,_,nK F.ne⟩;have y:m.zH.getLastD Qe=g:=by rw[o,XV]
  have I:m.zH.dropLast=pre:=by rw[o,xo]
  have h:pre≠[]:=by intro e;rw[o,e]at D;simp at D
  obtain⟨c,O,J,c3⟩:=F.calls g (by rw[o,Zc h];simp);have A:=ZA C.dz O (show ¬(kd ps c=0\/kd ps c=1\/kd ps c=2\/kd ps c=3) by omega);obtain⟨R,n2⟩:=K4 A (by omega);obtain⟨j,V,M,U,L,T⟩:=C.stop (k:=c+1) (by omega) R;have x:((jc ls (c+1):Nat):Int)=(j:Int)+1:=by rw[V];omega
  have G:kD zL ((jc ls (c+1):Nat):Int)=kD zL g.call:=by rw[x,C.kD M L,T,n2,J,C.kD O A]
  have i:top (yT zL m)=⟨kD zL m.line,g.params,g.call⟩:=by rw[aO F.ne,y]
  rw[y,I,J,Xt (by omega)]at d;refine⟨c,by omega,by rw[i];exact J,?_⟩;unfold Step;rw[fL hfin d rfl];simp only;rw[C.go (by omega)];have z:frsOf zL m.zH m.line=frsOf zL pre ((jc ls (c+1):Nat):Int)++[⟨kD zL m.line,g.params,g.call⟩]:=by rw[o,QX,gR G]
  refine⟨?_,?_,⟨⟨j,M,x,U,L⟩,h,?_,?_,?_,F.VH,F.taken⟩⟩
  ·unfold yT;simp only[Pl.mk.injEq,jJ];rw[z,xo]
  ·rw[i,yE,qR,Xs]
  ·have:=F.VJ;rw[o]at this;simp at this;show pre.length<=6;omega
  ·intro f H;exact F.Gk f (by rw[z];exact zY _ H)
  ·intro f H;refine F.calls f ?_;rw[o,Zc h];exact zY _ H
end
end Rf
theorem Yr {r:Rw} (h:r∈yO X p):r.t=3\/r.t=130\/r.t=24:=by
 unfold yO at h;have d:∀(a:List Value) (b:List (List Int)),r∈List.zipWith zz a b->r.t=3:=by
  intro a
  induction a with
  | nil=>intro b hb;simp at hb
  | cons x a ih=>intro b hb;cases b with
   | nil=>simp at hb
   | cons y b=>
    rw[jT]at hb;rcases zw.mp hb with rfl | hb
    ·rfl
    ·exact ih b hb
 rcases zd.mp h with h | h
 ·simp only[zw,qb,Z2]at h;rcases h with rfl | rfl | rfl | rfl
  ·exact Or.inr (Or.inl rfl)
  ·exact Or.inl rfl
  ·exact Or.inr (Or.inr rfl)
  ·exact Or.inl rfl
 ·rcases zd.mp h with h | h
  ·exact Or.inl (d _ _ h)
  ·exact Or.inl (d _ _ h)
theorem vC.apart (h:vC w B P p X) {k:Nat} (f:k∈xh (yO X p)):k≠P:=by
 obtain⟨r,hr,i⟩:=ju.mp f;obtain⟨c,d⟩:=yW (h.own.rows r hr) i;rintro rfl;rw[h.block]at d;injection d with d;injection d with _ d;rcases Yr hr with e | e | e <;> rw[e]at d <;> exact absurd d (by decide)
theorem vC.same {w':World} (h:vC w B P p X) (f:∀k∈xh (yO X p),w'.heap[k]?=w.heap[k]?) (o:w'.heap[P]?=some (.cells (jh X.fv X.vv X.cv X.ov p') 72 (0,0))) (d:yO X p'=yO X p) (i:p'.zH.length=p.zH.length) (j:p'.cells.length=p.cells.length):vC w' B P p' X:=
 ⟨o,by rw[d];exact⟨fun r hm=>yP (h.own.rows r hm) (fun g hg=>f g (qU hm hg)),h.own.apart⟩,by rw[i];exact h.fl,by rw[j];exact h.cl,by rw[d];exact h.new,h.here⟩
theorem vC.cell (h:vC w B P p X) (i:Nat) (v:Value) (o:(jh X.fv X.vv X.cv X.ov p).setIfInBounds i v=jh X.fv X.vv X.cv X.ov p') (d:yO X p'=yO X p) (f:p'.zH.length=p.zH.length) (j:p'.cells.length=p.cells.length):vC (w.setCell ⟨P,i,none⟩ v) B P p' X/\Below B w (w.setCell ⟨P,i,none⟩ v):=
 ⟨h.same (fun k hk=>zO w ⟨P,i,none⟩ _ k (h.apart hk)) (by rw[zf h.block,o]) d f j,yx (zI B w) h.here _ _⟩
theorem vC.Qj (h:vC w B P p X) (n:Int):vC (w.setCell ⟨P,5,none⟩ (.int .i64 n)) B P { p with line:=n } X/\Below B w (w.setCell ⟨P,5,none⟩ (.int .i64 n)):=h.cell 5 _ rfl rfl rfl rfl
theorem vC.EG (h:vC w B P p X) (n:Nat):vC (w.setCell ⟨P,3,none⟩ (.int .i64 n)) B P { p with read:=n } X/\Below B w (w.setCell ⟨P,3,none⟩ (.int .i64 n)):=h.cell 3 _ rfl rfl rfl rfl
theorem vC.store (h:vC w B P p X) {A C:List Rw} {v:Value} {l:List Int} {c:Nat} {x:Int} (i:yO X p=A++zz v l::C) (d:yO X p'=A++zz v (l.set c x)::C) (k:v.ownBlock=some g) (F:jh X.fv X.vv X.cv X.ov p'=jh X.fv X.vv X.cv X.ov p) (y:p'.zH.length=p.zH.length) (z:p'.cells.length=p.cells.length):vC (w.setCell ⟨g,c,none⟩ (.int .i64 x)) B P p' X/\Below B w (w.setCell ⟨g,c,none⟩ (.int .i64 x)):=by
 have j:=h.own;have f:g∈xh (yO X p):=by rw[i];exact qU (r:=zz v l) (by simp) k
 rw[i]at j;obtain⟨o,_⟩:=lG j k c x;have D:xh (yO X p')=xh (yO X p):=by
  rw[i,d,jd,jd,ka,ka];rfl
 refine⟨⟨?_,by rw[d];exact o,by rw[y];exact h.fl,by rw[z];exact h.cl,by rw[D];exact h.new,h.here⟩,yx (zI B w) (h.new g f) _ _⟩;rw[zO w ⟨g,c,none⟩ _ P (xK (h.apart f)),F];exact h.block
theorem vC.Fl (h:vC w B P p X) (f:X.vv.ownBlock=some g) (d:Nat) (x:Int):vC (w.setCell ⟨g,d,none⟩ (.int .i64 x)) B P { p with vars:=p.vars.set d x } X/\Below B w (w.setCell ⟨g,d,none⟩ (.int .i64 x)):=
 h.store (A:=[jy X.fv X.xg p.zH]) rfl rfl f rfl rfl rfl
theorem vC.setArg (h:vC w B P p X) (k:i < p.zH.length) (d:X.xg[i]?=some pv) (o:pv.ownBlock=some g) (c:Nat) (x:Int):vC (w.setCell ⟨g,c,none⟩ (.int .i64 x)) B P { p with zH:=p.zH.modify i (fun f=>⟨f.proc,f.args.set c x,f.call⟩) } X/\Below B w (w.setCell ⟨g,c,none⟩ (.int .i64 x)):=by
 have j:i < X.xg.length:=by rw[h.fl];exact k
 have D:X.xg[i].ownBlock=some g:=by
  rw[zJ j]at d;injection d with d;rw[d];exact o
 obtain⟨Q,R,z,y⟩:=JA zz X.xg (p.zH.map Rf.Fr.args) i j (by simpa using k);refine h.store (A:=[jy X.fv X.xg p.zH,zz X.vv p.vars,YF X.cv X.kB p.cells.length,zz X.ov p.out]++Q) (C:=R++List.zipWith zz X.kB p.cells) (l:=(p.zH.map Rf.Fr.args)[i]'(by simpa using k)) ?_ ?_ D rfl (by simp) rfl
 ·unfold yO;rw[z];simp
 ·unfold yO;rw[Cd p.zH i (fun a=>a.set c x),y (fun a=>a.set c x)];simp only[jy,YK,dq X.xg p.zH i (fun a=>a.set c x)];simp
theorem vC.Fo (h:vC w B P p X) (o:i < p.cells.length) (d:X.kB[i]?=some pv) (k:pv.ownBlock=some g) (c:Nat) (x:Int):vC (w.setCell ⟨g,c,none⟩ (.int .i64 x)) B P { p with cells:=p.cells.set i (p.cells[i].set c x) } X/\Below B w (w.setCell ⟨g,c,none⟩ (.int .i64 x)):=by
 have f:i < X.kB.length:=by rw[h.cl];exact o
 have F:X.kB[i].ownBlock=some g:=by
  rw[zJ f]at d;injection d with d;rw[d];exact k
 obtain⟨Q,R,z,y⟩:=JA zz X.kB p.cells i f o;have D:p.cells.set i (p.cells[i].set c x)=p.cells.modify i (fun a=>a.set c x):=by
  apply qw
  ·simp
  ·intro j H G;rw[Zq,jW];split
   ·next e=>subst e;rfl
   ·rfl
 refine h.store (A:=[jy X.fv X.xg p.zH,zz X.vv p.vars,YF X.cv X.kB p.cells.length,zz X.ov p.out]++(List.zipWith zz X.xg (p.zH.map Rf.Fr.args)++Q)) (C:=R) (l:=p.cells[i]) ?_ ?_ F rfl rfl (by simp)
 ·unfold yO;rw[z];simp
 ·unfold yO;simp only[D,y (fun a=>a.set c x),YK];simp
theorem vC.EK (h:vC w B P p X) (N:B<=w.heap.size) (f:Below w.heap.size w wy) (x:Int) (z:wy.grownBy w1 X.ov.ownBlock) (d:Value) (A:w1.ownsRow 0 3 1 d (p.out.length+1) (xR p.out++[.int .i64 x])) (J:∀g,d.ownBlock=some g->X.ov.ownBlock=some g\/w.heap.size<=g):vC (w1.setCell ⟨P,4,none⟩ d) B P { p with out:=p.out++[x] } { X with ov:=d }/\Below B w (w1.setCell ⟨P,4,none⟩ d):=by
 have y:∀k,k < w.heap.size->X.ov.ownBlock≠some k->w1.heap[k]?=w.heap[k]?:=fun k hk hv=>(z.block k (zX hk f.size) (xK hv)).trans (f.block k hk);have F:X.ov.ownBlock≠some P:=fun e=>h.apart (qU (r:=zz X.ov p.out) (by simp[yO]) e) rfl;have G:=zQ h.block;have I:w1.heap[P]?=some (.cells (jh X.fv X.vv X.cv X.ov p) 72 (0,0)):=(y P G F).trans h.block;have M:=h.own;have j:yO X p=[jy X.fv X.xg p.zH,zz X.vv p.vars,YF X.cv X.kB p.cells.length]++zz X.ov p.out::(List.zipWith zz X.xg (p.zH.map Rf.Fr.args)++List.zipWith zz X.kB p.cells):=by simp[yO]
 rw[j]at M;have D:zz d (p.out++[x])=⟨3,1,d,p.out.length+1,xR p.out++[.int .i64 x]⟩:=by simp[zz,xR]
 obtain⟨H,o2⟩:=Own.swap (w':=w1) M (r':=zz d (p.out++[x])) y (by rw[D];exact A) J;have i:yO { X with ov:=d } { p with out:=p.out++[x] }=[jy X.fv X.xg p.zH,zz X.vv p.vars,YF X.cv X.kB p.cells.length]++zz d (p.out++[x])::(List.zipWith zz X.xg (p.zH.map Rf.Fr.args)++List.zipWith zz X.kB p.cells):=by simp[yO]
 have o:∀k∈xh (yO { X with ov:=d } { p with out:=p.out++[x] }),B<=k:=by
  intro k hk;rw[i]at hk;rcases o2 k hk with hk | hk
  ·rw[<-j]at hk;exact h.new k hk
  ·omega
 have L:∀k∈xh (yO { X with ov:=d } { p with out:=p.out++[x] }),k≠P:=by
  intro k hk;rw[i]at hk;rcases o2 k hk with hk | hk
  ·rw[<-j]at hk;exact h.apart hk
  ·omega
 refine⟨⟨?_,?_,h.fl,h.cl,o,h.here⟩,?_⟩
 ·rw[zf I];rfl
 ·rw[<-i]at H;exact⟨fun r hm=>yP (H.rows r hm) (fun g z=>zO w1 ⟨P,4,none⟩ _ g (L g (qU hm z))),H.apart⟩
 ·refine yx ?_ h.here _ _;refine⟨z.os.trans f.os,z.tape.trans f.tape,z.output.trans f.output,zi f.size z.size,fun k hk=>y k (by omega) (fun e=>?_)⟩;have:=h.new k (qU (r:=zz X.ov p.out) (by simp[yO]) e);omega
theorem vC.cU {wx:World} (h:vC w B P p X) (U:B<=w.heap.size) (x:Below w.heap.size w wx) (i:Below wx.heap.size wx wy) (pv:Value) (f:Rf.Fr) (N:wx.ownsRow w.heap.size 3 1 pv f.args.length (xR f.args)) (hg:wy.grownBy w1 X.fv.ownBlock) (d:Value) (z:w1.ownsRow 0 130 3 d (p.zH.length+1) (frCells X.xg p.zH++[.int .i64 f.proc,pv,.int .i64 f.call])) (R:∀g,d.ownBlock=some g->X.fv.ownBlock=some g\/wx.heap.size<=g):vC (w1.setCell ⟨P,0,none⟩ d) B P { p with zH:=p.zH++[f] } { X with fv:=d,xg:=X.xg++[pv] }/\Below B w (w1.setCell ⟨P,0,none⟩ d):=by
 have F:∀k,k < wx.heap.size->X.fv.ownBlock≠some k->w1.heap[k]?=wx.heap[k]?:=fun k hk hv=>(hg.block k (zX hk i.size) (xK hv)).trans (i.block k hk);have j:∀k,k < w.heap.size->X.fv.ownBlock≠some k->w1.heap[k]?=w.heap[k]?:=fun k hk hv=>(F k (zX hk x.size) hv).trans (x.block k hk);have G:X.fv.ownBlock≠some P:=fun e=>h.apart (qU (r:=jy X.fv X.xg p.zH) (by simp[yO]) e) rfl;have H:=zQ h.block;have O:w1.heap[P]?=some (.cells (jh X.fv X.vv X.cv X.ov p) 72 (0,0)):=(j P H G).trans h.block;have M:=h.own.zP x;have J:∀g,pv.ownBlock=some g->g∉xh (yO X p):=fun g hg hm=>by
  have W:=h.own.lt g hm;have V:=(N.lt g hg).1;omega
 have L:Own wx (([jy X.fv X.xg p.zH,zz X.vv p.vars,YF X.cv X.kB p.cells.length,zz X.ov p.out]++List.zipWith zz X.xg (p.zH.map Rf.Fr.args))++zz pv f.args::List.zipWith zz X.kB p.cells):=
  Own.add (by rw[yK];exact M) (vr N) (fun g hg=>by rw[yK];exact J g hg);have y:([jy X.fv X.xg p.zH,zz X.vv p.vars,YF X.cv X.kB p.cells.length,zz X.ov p.out]++List.zipWith zz X.xg (p.zH.map Rf.Fr.args))++zz pv f.args::List.zipWith zz X.kB p.cells=[]++jy X.fv X.xg p.zH::([zz X.vv p.vars,YF X.cv X.kB p.cells.length,zz X.ov p.out]++(List.zipWith zz X.xg (p.zH.map Rf.Fr.args)++zz pv f.args::List.zipWith zz X.kB p.cells)):=by simp
 have A:=L;rw[y]at A;have D:jy d (X.xg++[pv]) (p.zH++[f])=⟨130,3,d,p.zH.length+1,frCells X.xg p.zH++[.int .i64 f.proc,pv,.int .i64 f.call]⟩:=by
  simp only[jy,Jr _ _ _ _ h.fl,ze,yl]
 obtain⟨I,o2⟩:=Own.swap (w':=w1) A (r':=jy d (X.xg++[pv]) (p.zH++[f])) F (by rw[D];exact z) R;have T:List.zipWith zz (X.xg++[pv]) ((p.zH++[f]).map Rf.Fr.args)=List.zipWith zz X.xg (p.zH.map Rf.Fr.args)++[zz pv f.args]:=by
  rw[yB,kN (by rw[qR];exact h.fl)];rfl
 have o:yO { X with fv:=d,xg:=X.xg++[pv] } { p with zH:=p.zH++[f] }=[]++jy d (X.xg++[pv]) (p.zH++[f])::([zz X.vv p.vars,YF X.cv X.kB p.cells.length,zz X.ov p.out]++(List.zipWith zz X.xg (p.zH.map Rf.Fr.args)++zz pv f.args::List.zipWith zz X.kB p.cells)):=by
  unfold yO;simp only[T,yK,yF,xN]
 have hcase:∀k∈xh (yO { X with fv:=d,xg:=X.xg++[pv] } { p with zH:=p.zH++[f] }),k∈xh (yO X p)\/w.heap.size<=k:=by
  intro k hk;rw[o]at hk;rcases o2 k hk with hk | hk
  ·rw[<-y]at hk;rcases Ji hk with hk | hk
   ·rw[yK]at hk;exact Or.inl hk
   ·exact Or.inr (N.lt k hk).1
  ·exact Or.inr (zi x.size hk)
 refine⟨⟨?_,?_,by simp[h.fl],h.cl,fun k hk=>?_,h.here⟩,?_⟩
 ·rw[zf O];rfl
 ·rw[<-o]at I;exact⟨fun r hm=>yP (I.rows r hm) (fun g hg=>zO w1 ⟨P,0,none⟩ _ g (by
   show g≠P;rcases hcase g (qU hm hg)with hk | hk
   ·exact h.apart hk
   ·omega)),I.apart⟩
 ·rcases hcase k hk with hk | hk
  ·exact h.new k hk
  ·omega
 ·refine yx ?_ h.here _ _;refine⟨hg.os.trans (i.os.trans x.os),hg.tape.trans (i.tape.trans x.tape),hg.output.trans (i.output.trans x.output),zi (zi x.size i.size) hg.size,fun k hk=>j k (by omega) (fun e=>?_)⟩;have:=h.new k (qU (r:=jy X.fv X.xg p.zH) (by simp[yO]) e);omega
theorem vC.CG (h:vC w B P p X) (fs:List Rf.Fr) (f:Rf.Fr) (L:p.zH=fs++[f]) (g cap:Nat) (M:X.fv=.slice (some ⟨g,0,none⟩) (fs.length+1) cap):vC (w.setCell ⟨P,0,none⟩ (.slice (some ⟨g,0,none⟩) fs.length cap)) B P { p with zH:=fs } { X with fv:=.slice (some ⟨g,0,none⟩) fs.length cap,xg:=X.xg.dropLast }/\Below B w (w.setCell ⟨P,0,none⟩ (.slice (some ⟨g,0,none⟩) fs.length cap)):=by
 have j:=h.fl;rw[L,ze,yl]at j;obtain⟨xg,J,d⟩:∃xg J,X.xg=xg++[J]:=by
  have G:X.xg≠[]:=by intro e;rw[e]at j;simp at j
  exact⟨X.xg.dropLast,X.xg.getLast G,(xj G).symm⟩
 have H:xg.length=fs.length:=by rw[d]at j;simpa using j
 have I:X.xg.dropLast=xg:=by rw[d,xo]
 have y:w.ownsRow 0 130 3 (.slice (some ⟨g,0,none⟩) fs.length cap) fs.length (frCells xg fs):=by
  have N:=h.Jq;rw[L,d,M,Jr _ _ _ _ H]at N;obtain⟨R,q2⟩:=N;rcases q2 with⟨q2,_⟩| ⟨g',cap',cur,e,q3,q4,q5,q6,q7,q8⟩
  ·cases q2
  ·simp only[xJ,zx,Z9,jJ]at e;obtain⟨rfl,T,rfl⟩:=e;refine⟨by rw[Ke _ _ H],Or.inr ⟨g,cap,cur,rfl,q3,q4,by simp at q5;omega,q6,q7,?_⟩⟩;have:=qB (List.take (fs.length*3)) q8;rw[Ko,J4 (by rw[Ke _ _ H])]at this;rw[<-this];congr 1;simp
 have A:yO X p=([jy X.fv X.xg p.zH,zz X.vv p.vars,YF X.cv X.kB p.cells.length,zz X.ov p.out]++List.zipWith zz xg (fs.map Rf.Fr.args))++zz J f.args::List.zipWith zz X.kB p.cells:=by
  have:List.zipWith zz X.xg (p.zH.map Rf.Fr.args)=List.zipWith zz xg (fs.map Rf.Fr.args)++[zz J f.args]:=by
   rw[L,d,yB,kN (by rw[qR];exact H)];rfl
  unfold yO;rw[this];simp
 have F:=h.own;rw[A]at F;have D:=F.drop;have z:[jy X.fv X.xg p.zH,zz X.vv p.vars,YF X.cv X.kB p.cells.length,zz X.ov p.out]++List.zipWith zz xg (fs.map Rf.Fr.args)++List.zipWith zz X.kB p.cells=[]++jy X.fv X.xg p.zH::([zz X.vv p.vars,YF X.cv X.kB p.cells.length,zz X.ov p.out]++(List.zipWith zz xg (fs.map Rf.Fr.args)++List.zipWith zz X.kB p.cells)):=by simp
 have x:∀k∈xh ([jy X.fv X.xg p.zH,zz X.vv p.vars,YF X.cv X.kB p.cells.length,zz X.ov p.out]++List.zipWith zz xg (fs.map Rf.Fr.args)++List.zipWith zz X.kB p.cells),k∈xh (yO X p):=fun k hk=>by rw[A];exact mP k hk
 rw[z]at D x;obtain⟨o1,o2⟩:=Own.swap (w':=w) D (r':=jy (.slice (some ⟨g,0,none⟩) fs.length cap) xg fs) (fun k _ _=>rfl) y (fun k hk=>Or.inl (by show X.fv.ownBlock=some k;rw[M];exact hk));have i:yO { X with fv:=.slice (some ⟨g,0,none⟩) fs.length cap,xg:=X.xg.dropLast } { p with zH:=fs }=[]++jy (.slice (some ⟨g,0,none⟩) fs.length cap) xg fs::([zz X.vv p.vars,YF X.cv X.kB p.cells.length,zz X.ov p.out]++(List.zipWith zz xg (fs.map Rf.Fr.args)++List.zipWith zz X.kB p.cells)):=by
  rw[I];rfl
 have o:∀k∈xh (yO { X with fv:=.slice (some ⟨g,0,none⟩) fs.length cap,xg:=X.xg.dropLast } { p with zH:=fs }),k∈xh (yO X p):=by
  intro k hk;have O:k < w.heap.size:=by rw[i]at hk;exact o1.lt k hk
  rw[i]at hk;rcases o2 k hk with hk | hk
  ·exact x k hk
  ·omega
 refine⟨⟨?_,?_,by rw[I];exact H,h.cl,fun k hk=>h.new k (o k hk),h.here⟩,yx (zI B w) h.here _ _⟩
 ·rw[zf h.block];rfl
 ·rw[<-i]at o1;exact⟨fun r hm=>yP (o1.rows r hm) (fun g' hg=>zO w ⟨P,0,none⟩ _ g' (h.apart (o g' (qU hm hg)))),o1.apart⟩
namespace Rf
open Rt
theorem A9 {ps zL:List PL} {ls:List (List ByteArray)} {S:Rt.Src} {m:Mc} (C:Ctx ps zL ls S) (F:KA ps zL ls S m) (d:m.fin=0) (G:S.input.length<=100):KA ps zL ls S (qd S m).1:=by
 suffices h:∃p n,Step ps zL ls S m p n by
  obtain⟨p,n,h⟩:=h;exact h.2.2
 obtain⟨l,y,A,D,z⟩:=F.line;have L:l < ls.length:=by rw[<-C.len];exact y
 have hli:=C.both.form L;rw[show ((l+1:Nat):Int)=(l:Int)+1 from rfl,Xp C.dz y]at hli;have o:xy ps[l].form.kind=true\/ps[l].form.kind=4:=by
  unfold xV at D;rw[aa C.dz y]at D;by_cases a:xy ps[l].form.kind=true
  ·exact Or.inl a
  ·rw[zA a]at D;by_cases b:ps[l].form.kind=4
   ·exact Or.inr b
   ·rw[zA b]at D;exact absurd D (by decide)
 have j:∀k:Int,(k=13\/k=4)->ps[l].form=⟨k,⟨#[]⟩,0,[],[],[]⟩->∃p n,Step ps zL ls S m p n:=fun k hk hf=>by
  obtain⟨I,H⟩:=fJ C F d y A z hk hf;by_cases h0:m.zH.length < 2
  ·exact⟨_,_,I h0⟩
  ·obtain⟨c,_,_,J⟩:=H h0;exact⟨_,_,J⟩
 generalize ls[l]=t at hli;generalize hf:ps[l].form=f at hli o j;cases hli with
 | empty=>exact absurd o (by decide)
 | var x hx=>exact absurd o (by simp[xy])
 | array x n _ _ _ _=>exact absurd o (by simp[xy])
 | proc x q _ _ _=>exact absurd o (by simp[xy])
 | end_=>exact j 4 (Or.inr rfl) rfl
 | F8 p e he=>exact⟨_,_,KK C F d y A z (Or.inl rfl) hf⟩
 | gb=>exact absurd o (by decide)
 | Vg p e he=>exact⟨_,_,KK C F d y A z (Or.inr rfl) hf⟩
 | rl x p e hx he=>exact⟨_,_,lC C F d y A z hf⟩
 | rj x q i p e hx hq he=>exact⟨_,_,lB C F d y A z hf⟩
 | print p e he=>exact⟨_,_,fI C F d y A z hf⟩
 | read x hx=>exact⟨_,_,lD C F d y A z G hf⟩
 | call x args vs hx he=>exact⟨_,_,(lE C F d y A z hf).2.2⟩
 | Jb=>exact j 13 (Or.inl rfl) rfl
end Rf
end Go.Proofs.YthleadfkfnnadaaGreat
