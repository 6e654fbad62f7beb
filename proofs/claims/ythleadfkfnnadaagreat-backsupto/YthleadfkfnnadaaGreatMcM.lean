/- The machine: a cell set. -/
import Derived.Test.YthleadfkfnnadaaGreatFwE
import Derived.Test.YthleadfkfnnadaaGreatLwE
set_option maxHeartbeats 4000000
set_option maxRecDepth 100000
set_option linter.unusedSimpArgs false
namespace Go.Proofs.YthleadfkfnnadaaGreat
open Go.Proofs.Tryz
open Go.RowKit
variable {ls:List (List ByteArray)} {tail:List Value} {X:ZK} {l n c M B BB c1 c2 c3:Nat} {a1 a2 a3:Option Addr} {m:Rt.Mc} {fm:Rt.qS} {S:Rt.Src} {ty:TypeId} {w w1:World}
namespace Rf
open Rt
theorem ee {zL:List PL} (h:ZM zL ls) (d:l < ls.length):uB ls l (vU zL ((l:Int)+1)) ls[l]:=by
 obtain⟨p,i,f⟩:=h.get d;rw[vU,zA (by omega),show ((l:Int)+1).toNat=l+1 by omega,i];exact f
theorem JQ {ps zL:List PL} (h:Vb ps zL) (d:ZM zL ls):ps.length=ls.length:=by
 have:=h.len;have:=d.len;omega
theorem aW {ps zL:List PL} (h:Vb ps zL) (k:ZM zL ls) (f:n < ps.length) (hk:kd ps n=6\/kd ps n=4):openerFrom ls n 1=(Z3 (xu ps n)).1:=by
 have o:n < ls.length:=by rw[<-JQ h k];exact f
 have j:=ee k o;have x:=Xw h f hk;have i:=vA (vU zL ((n:Int)+1)).form.kind;rw[Jk h f]at i;have d:=Jk h f;rcases hk with hk | hk
 ·have:=j.aB (by rw[d];exact i.2.2.2.2.2.2.1.mpr hk);omega
 ·have:=j.opener (by rw[d];exact i.2.2.2.2.2.2.2.mpr hk);omega
theorem ly {ps zL:List PL} (h:Vb ps zL) (f:ZM zL ls) (d:n < ls.length):HF (first ls[n]) (idx (kd ps n)):=by
 have:=Ya (ee f d).line;rw[Jk h (by rw[JQ h f];exact d)]at this;exact this
theorem mN {ps zL:List PL} (h:Vb ps zL) (d:ZM zL ls) {o e:Nat} (k:e < ps.length) (j:kd ps e=4) (y:(Z3 (xu ps e)).1=o+1):closer ls o=e+1:=by
 have i:e < ls.length:=by rw[<-JQ h d];exact k
 have f:=aW h d k (Or.inr j);rw[y]at f;have z:=JP e 1 o (by omega) (by omega) f;have x:=ly h d i;have A:idx (kd ps e)=7:=by rw[j];rfl
 rw[A]at x;have:=bN i x (ls.length-e-1) ((1:Nat):Int);rw[show ls.length-e-1+1=ls.length-e by omega,zE rfl,zE (by omega)]at this;rw[z,this]
theorem eW {ps zL:List PL} {ls:List (List ByteArray)} (h:Vb ps zL) (i:ZM zL ls) (d:ls.length<=100):∀(f k:Nat),k<=ls.length->goOn zL (vS ps) f ((k:Int)+1)=(goesFrom ls f k:Nat)
 | 0,k,_=>rfl
 | f+1,k,hk=>by
  have R:=JQ h i;rw[goOn,goesFrom];by_cases hkl:k < ls.length
  ·rw[zE (by rw[h.len];omega),zA (show ¬ls.length<=k by omega),yq hkl];have O:=ee i hkl;have N:=uN i hkl O;have j:k < ps.length:=by omega
   obtain⟨_,_,_,_,_,f5,W,V⟩:=ly h i hkl;obtain⟨_,_,_,_,_,i5,G,F⟩:=vA (kd ps k);have M:wrap64 ((k:Int)+1+1)=((k+1:Nat):Int)+1:=by
    have:=ZO (k+2) (by omega);rw[show ((k:Int)+1+1)=((k+2:Nat):Int) by omega,this];omega
   rw[N,Jk h j,M];by_cases hst:xx ls k ls[k]=true
   ·rw[zE hst,zE hst];rfl
   ·rw[zA hst,zA hst,W,V];by_cases h6:kd ps k=6
    ·rw[zA (by omega),zE h6,zE (qA (G.mpr h6)),Xw h j (Or.inl h6),aW h i j (Or.inl h6)];have x:=ZA h j (show ¬(kd ps k=0\/kd ps k=1\/kd ps k=2\/kd ps k=3) by omega);obtain⟨L,J,D,_⟩:=Q5 h j x;have T:=(nf h j h6).1;obtain⟨e,e1,e2,e3,Z,e5,H⟩:=nZ h (o:=(Z3 (xu ps k)).1-1) (by omega) (by rw[D,T];exact Or.inr (Or.inl rfl));rw[show (((Z3 (xu ps k)).1-1:Nat):Int)+1=((Z3 (xu ps k)).1:Nat) by omega]at H;rw[mN h i e2 e3 Z,H,show wrap64 ((e:Int)+1+1)=((e+1:Nat):Int)+1 by have:=ZO (e+2) (by omega);rw[show ((e:Int)+1+1)=((e+2:Nat):Int) by omega,this];omega];exact eW h i d f (e+1) (by omega)
    ·have I:¬decide (idx (kd ps k)=6)=true:=fun e=>h6 (G.mp (qf e));rw[zA I];by_cases h4:kd ps k=4
     ·have x:=ZA h j (show ¬(kd ps k=0\/kd ps k=1\/kd ps k=2\/kd ps k=3) by omega);obtain⟨L,J,D,_⟩:=Q5 h j x;have z:(Z3 (xu ps k)).1-1 < ls.length:=by omega
      obtain⟨_,_,_,_,_,U,_⟩:=ly h i z;obtain⟨_,_,_,_,_,y,_⟩:=vA (kd ps ((Z3 (xu ps k)).1-1));rw[Xw h j (Or.inr h4),aW h i j (Or.inr h4),zE (qA (F.mpr h4)),yq z,U];have A:=Xp h (n:=(Z3 (xu ps k)).1-1) (by omega);rw[show (((Z3 (xu ps k)).1-1:Nat):Int)+1=((Z3 (xu ps k)).1:Nat) by omega]at A;rw[A,<-Qm];by_cases h7:kd ps ((Z3 (xu ps k)).1-1)=7
      ·rw[zE ⟨h4,h7⟩,zE (qA (y.mpr h7))]
      ·rw[zA (fun e=>h7 e.2),zA h6,zA (fun e=>h7 (y.mp (qf e)))];exact eW h i d f (k+1) (by omega)
     ·rw[zA (fun e=>h4 e.1),zA h6,zA (fun e=>h4 (F.mp (qf e)))];exact eW h i d f (k+1) (by omega)
  ·rw[zA (by rw[h.len];omega),zE (show ls.length<=k by omega)];rfl
theorem dA {ls:List (List ByteArray)} (h:nested ls=0):∀(f g k:Nat),ls.length < f+k->ls.length < g+k->k<=ls.length->goesFrom ls f k=goesFrom ls g k
 | 0,g,k,hf,_,_=>by omega
 | f+1,0,k,_,hg,_=>by omega
 | f+1,g+1,k,hf,hg,hk=>by
  rw[goesFrom,goesFrom];by_cases hkl:ls.length<=k
  ·rw[zE hkl,zE hkl]
  ·rw[zA hkl,zA hkl];have d:k < ls.length:=by omega
   rw[yq d];by_cases hel:((first ls[k]).toList==[101,108,115,101])=true
   ·obtain⟨x,o⟩:=uu h d hel;have j:=Zg ls k 1;have i:=gq ls (l:=openerFrom ls k 1-1) (by omega);rw[zE hel,zE hel,dA h f g _ (by omega) (by omega) i]
   ·rw[zA hel,zA hel,dA h f g (k+1) (by omega) (by omega) (by omega)]
theorem mC {ps zL:List PL} (h:Vb ps zL) (i:ZM zL ls) (d:ls.length<=100) {k:Nat} (f:k<=ls.length):goOn zL (vS ps) 102 ((k:Int)+1)=(jc ls k:Nat):=by
 rw[eW h i d 102 k f,jc,dA i.nested 102 (ls.length+1-k) k (by omega) (by omega) f]
theorem KU {ls:List (List ByteArray)} {l c:Nat}:∀f m,(∀j,m<=j->j < m+f->¬(((first (xU ls j)).toList==[101,108,115,101])=true/\openerFrom ls j 1=l+1))->otherFrom ls l c f m=c
 | 0,m,_=>rfl
 | f+1,m,h=>by
  rw[otherFrom,zA (h m (zB _) (by omega))];exact KU f (m+1) (fun j h1 h2=>h j (by omega) (by omega))
theorem KT {ls:List (List ByteArray)} {l c x:Nat} (d:((first (xU ls x)).toList==[101,108,115,101])=true/\openerFrom ls x 1=l+1):∀f m,m<=x->x < m+f->(∀j,m<=j->j < x->¬(((first (xU ls j)).toList==[101,108,115,101])=true/\openerFrom ls j 1=l+1))->otherFrom ls l c f m=x+1
 | 0,m,_,_,_=>by omega
 | f+1,m,h1,h2,h=>by
  rw[otherFrom];by_cases e:m=x
  ·subst e;rw[zE d]
  ·rw[zA (h m (zB _) (by omega))];exact KT d f (m+1) (by omega) (by omega) (fun j h1 h2=>h j (by omega) h2)
theorem oV {ps zL:List PL} (h:Vb ps zL) (i:ZM zL ls) (G:ls.length<=100) (O:n < ps.length) (U:kd ps n=5\/kd ps n=7):ky (vS ps) ((n:Int)+1)=((other ls n:Nat):Int)+1/\other ls n<=ls.length:=by
 have N:=JQ h i;have hlk:=uZ h ps.length (zB _);obtain⟨e,e1,L,J,I,e5,Z⟩:=nZ h O (Or.inr U);have V:=mN h i L J I;have x:∀j,j < ls.length->((first (xU ls j)).toList==[101,108,115,101])=true/\openerFrom ls j 1=n+1->kd ps j=6/\(Z3 (xu ps j)).1=n+1:=by
  intro j A ⟨z,y⟩;obtain⟨_,_,_,_,_,_,F,_⟩:=ly h i A;rw[yq A,F]at z;have H:=(vA (kd ps j)).2.2.2.2.2.2.1.mp (qf z);rw[aW h i (by omega) (Or.inl H)]at y;exact⟨H,y⟩
 have d:∀j,j < ls.length->((first (xU ls j)).toList==[101,108,115,101])=true/\openerFrom ls j 1=n+1->(jR (vS ps) ((n:Int)+1)).1=(j:Int)+1:=by
  intro j A k;obtain⟨z,y⟩:=x j A k;have:=hlk.aB j (by omega) z;rw[y,<-Xx h,show ((n+1:Nat):Int)=(n:Int)+1 by omega]at this;exact this
 unfold ky other;rw[V];rcases hlk.Fx (n+1)with h0 | ⟨m,m1,m2,m3,m4⟩
 ·rw[<-Xx h,show ((n+1:Nat):Int)=(n:Int)+1 by omega]at h0;rw[h0,zA (by omega),Z];have D:=KU (ls:=ls) (l:=n) (c:=e+1) (e+1-(n+2)) (n+1) (fun j h1 h2 k=>by
   have:=d j (by omega) k;omega)
  rw[D];refine⟨?_,by omega⟩;have:=ZO (e+2) (by omega);rw[show ((e:Int)+1+1)=((e+2:Nat):Int) by omega,this];omega
 ·rw[<-Xx h,show ((n+1:Nat):Int)=(n:Int)+1 by omega]at m4;rw[m4,zE (by omega)];have f:=ZA h m1 (show ¬(kd ps m=0\/kd ps m=1\/kd ps m=2\/kd ps m=3) by omega);have W:=(Q5 h m1 f).2.1;have T:=mI h (n:=m) ⟨Z3 (xu ps m),Qo f,m3⟩ L J I;have R:m≠e:=fun q=>by rw[q]at m2;omega
  have o:m < ls.length:=by omega
  obtain⟨_,_,_,_,_,_,F,_⟩:=ly h i o;have M:((first (xU ls m)).toList==[101,108,115,101])=true/\openerFrom ls m 1=n+1:=by
   rw[yq o,F,aW h i m1 (Or.inl m2),m2];exact⟨rfl,m3⟩
  have D:=KT (ls:=ls) (l:=n) (c:=e+1) M (e+1-(n+2)) (n+1) (by omega) (by omega) (fun j h1 h2 k=>by
   have:=d j (by omega) k;omega)
  rw[D];refine⟨?_,by omega⟩;have:=ZO (m+2) (by omega);rw[show ((m:Int)+1+1)=((m+2:Nat):Int) by omega,this];omega
end Rf
section
attribute [local go_sem ↓] Go.wp_at_zero Go.wp_at_succ
theorem tm (h:jz w M B ty tail S m X) (hm:dL S m) (hf:qk w BB (Qd fm a1 a2 a3 c1 c2 c3) fm) (A:Rt.Small fm) (j:∀o∈fm.values,o.length<=900) (hk:fm.kind=5\/fm.kind=7):Calls Tryz.prog 149 #[.pointer (some ⟨M,0,none⟩),.agg (Qd fm a1 a2 a3 c1 c2 c3)] w (eE M B ty tail S X (Rt.perform S m fm) w):=by
 have k:=((zI w.heap.size w).alloc (zB _) (.cells (Qd fm a1 a2 a3 c1 c2 c3) 143)).alloc (by simp) (.cells #[.int .i64 0,.int .i64 0,.slice none 0 0] 157);have bF:=yR (zN w (.cells (Qd fm a1 a2 a3 c1 c2 c3) 143)) (.cells #[.int .i64 0,.int .i64 0,.slice none 0 0] 157);have bR:=qD w (.cells (Qd fm a1 a2 a3 c1 c2 c3) 143) (.cells #[.int .i64 0,.int .i64 0,.slice none 0 0] 157);have hA:=h.zP k;have L:=ZY hf k;have HP:=zD (show Rt.perform S m fm=if (Rt.kP S m fm).2=0 then ⟨0,if (Rt.kP S m fm).1=0 then Rt.ky S.lk m.line else wrap64 (m.line+1),[Rt.stay m.line],m⟩else Rt.ended m (Rt.kP S m fm).2 by unfold Rt.perform;simp only;rw[zA (by omega),zA (by omega),zA (by omega),zA (by omega),zE hk]);have HH:=zD h;clear h hf hk;go_enter func149,ntmps149;go_wp2_with fail;refine(Ks hA hm L A j).mono ?_;rintro e w1 ⟨rfl,x⟩;have y:=k.trans (x.mono (B':=w.heap.size) (by simp;omega));have i:=zU bR x;have U:=hA.zP x;clear hA L k bF bR x;generalize Rt.kP S m fm=v at *;obtain⟨v1,v2⟩:=v;simp only at HP;by_cases hv:v2=0
 ·subst hv
  replace HP:=zD (HP.u.trans (zE rfl))
  have c6:=U.c6;have T:=qG (Z8.start HH.u y) i;have F:=zD U.prog;clear U y i hm j A;by_cases hz:v1=0
  ·subst hz;rw[zE rfl]at HP;go_wp2_with fail;go_region_with ((go_at_call 183;refine(ij m.line (F.u.zP (zh _))).mono ?_;rintro e w2 ⟨rfl,D⟩))
   all_goals
    have f:=T.u.1.below (yh D);have d:=zU T.u.2 (yh D);clear D T F c6;generalize Rt.ky S.lk m.line=nx at *;have a0:=f.mc.c6;have O:=f.vz.size;have N:=zQ d;obtain⟨Z,W,V⟩:=yb d;have z:=zS d;have J:¬w.heap.size+1=w2.heap.size:=by omega
    have I:¬w2.heap.size=w.heap.size+1:=by omega
    have R:M < w2.heap.size:=zX f.lt O;have H:¬M=w2.heap.size:=by omega
    have G:=zD (fun a b c=>And.intro ((f.three d (by omega) (by unfold Xe;decide) a b c).below ((zI _ _).alloc (zB _) (.cells #[.int .i64 1,.int .i64 m.line,.int .i64 0,.int .i64 0,.int .i64 0] 162))) (eQ 1 w2 w.heap.size (w.heap.size+1) #[.int .i64 1,.int .i64 m.line,.int .i64 0,.int .i64 0,.int .i64 0] O a b c rfl (by omega)));have HG:=zD (fun a b c:Value=>yb (yR (Km d a b c) (.cells #[.int .i64 1,.int .i64 m.line,.int .i64 0,.int .i64 0,.int .i64 0] 162)));clear f d;go_wp2_with fail;refine zT (v:=.agg #[.int .i64 0,.int .i64 (nx),.slice (some ⟨w2.heap.size,0,none⟩) 1 1]) ?_ rfl ⟨_,_,by rw[HP.u],by rw[HP.u];exact(G.u _ _ _).1,by rw[HP.u];exact(G.u _ _ _).2⟩;have E:=HG.u (.int .i64 0) (.int .i64 (nx)) (.slice (some ⟨w2.heap.size,0,none⟩) 1 1);revert E;generalize (W3 w2 (w.heap.size+1) (.int .i64 0) (.int .i64 (nx)) (.slice (some ⟨w2.heap.size,0,none⟩) 1 1)).alloc (.cells #[.int .i64 1,.int .i64 m.line,.int .i64 0,.int .i64 0,.int .i64 0] 162)=wz;intro E;simp[results,results149,go_sem,E.1,E.2.1,E.2.2]
  ·rw[zA hz]at HP;have bz:(v1==0)=false:=by rw[zV];exact hz
   obtain⟨f,d⟩:=T.u;clear T F hz;have a0:=f.mc.c6;have O:=f.vz.size;have N:=zQ d;obtain⟨Z,W,V⟩:=yb d;have z:=zS d;have J:¬w.heap.size+1=w1.heap.size:=by omega
   have I:¬w1.heap.size=w.heap.size+1:=by omega
   have R:M < w1.heap.size:=zX f.lt O;have H:¬M=w1.heap.size:=by omega
   have G:=zD (fun a b c=>And.intro ((f.three d (by omega) (by unfold Xe;decide) a b c).below ((zI _ _).alloc (zB _) (.cells #[.int .i64 1,.int .i64 m.line,.int .i64 0,.int .i64 0,.int .i64 0] 162))) (eQ 1 w1 w.heap.size (w.heap.size+1) #[.int .i64 1,.int .i64 m.line,.int .i64 0,.int .i64 0,.int .i64 0] O a b c rfl (by omega)));have HG:=zD (fun a b c:Value=>yb (yR (Km d a b c) (.cells #[.int .i64 1,.int .i64 m.line,.int .i64 0,.int .i64 0,.int .i64 0] 162)));clear f d;go_wp2_with fail;refine zT (v:=.agg #[.int .i64 0,.int .i64 (wrap64 (m.line+1)),.slice (some ⟨w1.heap.size,0,none⟩) 1 1]) ?_ rfl ⟨_,_,by rw[HP.u],by rw[HP.u];exact(G.u _ _ _).1,by rw[HP.u];exact(G.u _ _ _).2⟩;have E:=HG.u (.int .i64 0) (.int .i64 (wrap64 (m.line+1))) (.slice (some ⟨w1.heap.size,0,none⟩) 1 1);revert E;generalize (W3 w1 (w.heap.size+1) (.int .i64 0) (.int .i64 (wrap64 (m.line+1))) (.slice (some ⟨w1.heap.size,0,none⟩) 1 1)).alloc (.cells #[.int .i64 1,.int .i64 m.line,.int .i64 0,.int .i64 0,.int .i64 0] 162)=wz;intro E;simp[results,results149,go_sem,E.1,E.2.1,E.2.2]
 ·replace HP:=zD (HP.u.trans (zA hv))
  have bv:(v2 != 0)=true:=by simpa using hv
  obtain⟨Z,W,V⟩:=yb i;have z:=zS i;have G:=zD (fun a b c=>(Z8.start HH.u y).three i (by omega) (by unfold Xe;decide) a b c);clear U y i hv hm j A;go_wp2_with fail;refine zT (v:=.agg #[.int .i64 v2,.int .i64 0,.slice none 0 0]) ?_ rfl ⟨_,_,by rw[HP.u];rfl,by rw[HP.u];exact G.u _ _ _,by rw[HP.u];exact zW _ _ _ _⟩;simp[results,results149,go_sem,Z,W,V]
def xC (X:ZK) (m:Rt.Mc) (tail:List Value):Array Value:=([X.lv,X.iv,X.fv,X.vv,.int .i64 m.taken,X.ov,.int .i64 m.line,.int .i64 m.fin]++tail).toArray
theorem jz.step {m':Rt.Mc} {X':ZK} (h:jz w M B ty tail S m X) (hs:w.heap.size<=w1.heap.size) (D:w1.heap[M]?=w.heap[M]?) (o:∀(k:Nat) (x:Obj),w.heap[k]?=some x->(∃c t,x=Obj.cells c t (0,0)/\Xe t)->w1.heap[k]?=some x) (i:Nat) (v:Value) (A:(xC X m tail).setIfInBounds i v=xC X' m' tail) (j:Own w1 (rowsOf S.input X' m')) (z:X'.lv=X.lv) (d:X'.cs=X.cs) (F:X'.xg.length=m'.zH.length) (y:X'.YR.length=m'.values.length):jz (w1.setCell ⟨M,i,none⟩ v) M B ty tail S m' X':=by
 have hother:∀k,k≠M->(w1.setCell ⟨M,i,none⟩ v).heap[k]?=w1.heap[k]?:=fun k o=>zO w1 ⟨M,i,none⟩ _ k o;have f:w1.heap[M]?=some (.cells (xC X m tail) ty (0,0)):=D.trans h.block;refine h.next ?_ (by simpa[World.setCell] using hs) (fun k x hx hne hp=>by rw[hother k hne];exact o k x hx hp) ⟨fun r hr=>yP (j.rows r hr) (fun g hg=>hother g ?_),j.apart⟩ z d F y
 ·have:=zf f i v;rw[A]at this;exact this
 ·intro e;obtain⟨c,d⟩:=yW (j.rows r hr) hg;rw[e,f]at d;injection d with d;injection d with _ d;have h3:=JF hr;rw[<-d]at h3;rcases h3 with e | e | e
  ·exact h.ty.1 e
  ·exact h.ty.2.1 e
  ·exact h.ty.2.2.1 e
theorem VM.B5 {F:List Nat} (h:VM w w1 (M::F)) (i:Nat) (v:Value):VM w (w1.setCell ⟨M,i,none⟩ v) (M::F):=
 ⟨h.os,h.tape,h.output,zi h.size (by simp[World.setCell]),fun k hk hn=>by
  rw[zO w1 ⟨M,i,none⟩ v k (fun e=>hn (by rw[show k=M from e];exact xB ..))];exact h.block k hk hn⟩
theorem jz.EW {wx:World} (h:jz w M B ty tail S m X) (z:Below w.heap.size w wx) (y:wx.grownBy w1 X.ov.ownBlock) (v:Int) (d:Value) (D:w1.ownsRow 0 3 1 d (m.output.length+1) (xR (m.output++[v]))) (L:∀g,d.ownBlock=some g->X.ov.ownBlock=some g\/w.heap.size<=g):jz (w1.setCell ⟨M,5,none⟩ d) M B ty tail S { m with output:=m.output++[v] } { X with ov:=d }/\VM w (w1.setCell ⟨M,5,none⟩ d) (M::Z4 X)/\vd w (Z4 X) (Z4 { X with ov:=d }):=by
 have A:=h.out;have f:∀k,k < w.heap.size->X.ov.ownBlock≠some k->w1.heap[k]?=w.heap[k]?:=fun k hk hv=>(y.block k (zX hk z.size) (xK hv)).trans (z.block k hk);have o:∀g,X.ov.ownBlock=some g->∃c,w.heap[g]?=some (.cells c 3 (0,0)):=fun g y=>yW A y;have G:X.ov.ownBlock≠some M:=by
  intro e;obtain⟨c,j⟩:=o M e;rw[h.block]at j;injection j with j;injection j with _ j;exact h.ty.1 j
 have hk:∀(k:Nat) (x:Obj),w.heap[k]?=some x->(∃c t,x=Obj.cells c t (0,0)/\Xe t)->w1.heap[k]?=some x:=by
  intro k x J H;rw[f k (zQ J) (fun e=>by
   obtain⟨c,j⟩:=o k e;rw[J]at j;injection j with j;obtain⟨U,T,I,H⟩:=H;rw[j]at I;injection I with _ I;rw[<-I]at H;exact absurd H (by unfold Xe;decide))]
  exact J
 have i:rowsOf S.input X m=[zz X.iv S.input,⟨153,2,X.fv,m.zH.length,fCells X.xg m.zH⟩,⟨24,1,X.vv,m.values.length,X.YR⟩]++zz X.ov m.output::(List.zipWith zz X.xg (m.zH.map Rt.Fm.params)++List.zipWith zz X.YR m.values):=rfl;have N:=h.own;rw[i]at N;obtain⟨R,O⟩:=N.swap (w':=w1) (r':=zz d (m.output++[v])) f (by show World.ownsRow _ 0 3 1 _ (m.output++[v]).length _;rw[ze];exact D) L;have F:=h.step (w1:=w1) (m':={ m with output:=m.output++[v] }) (X':={ X with ov:=d }) (zi z.size y.size) (f M (zQ h.block) G) hk 5 d (by simp[xC]) R rfl rfl h.fl h.vl;refine⟨F,?_,?_⟩
 ·refine VM.B5 ⟨y.os.trans z.os,y.tape.trans z.tape,y.output.trans z.output,zi z.size y.size,fun k hk2 hn=>f k hk2 (fun e=>hn (zm _ ?_))⟩ _ _;rw[<-h.xh];exact qU (r:=zz X.ov m.output) (by rw[i];simp) e
 ·rw[<-h.xh,<-F.xh];exact O
theorem Z8.more {m2:Rt.Mc} {X1 X2:ZK} {w2:World} (h:Z8 M B ty tail S X X1 m w w1) (d:jz w2 M B ty tail S m2 X2) (j:VM w1 w2 (M::Z4 X1)) (i:vd w1 (Z4 X1) (Z4 X2)):Z8 M B ty tail S X X2 m2 w w2:=by
 refine⟨d,h.vz.trans j ?_,h.grow.trans i h.vz.size,h.lt⟩;intro k hk;rcases zw.mp hk with rfl | hk
 ·exact Or.inl (xB ..)
 ·rcases h.grow k hk with f | f
  ·exact Or.inl (zm _ f)
  ·exact Or.inr f
theorem AA (h:jz w M B ty tail S m X) (hm:dL S m) (hf:qk w BB (Qd fm a1 a2 a3 c1 c2 c3) fm) (G:Rt.Small fm) (j:∀o∈fm.values,o.length<=900) (hk:fm.kind=10):Calls Tryz.prog 147 #[.pointer (some ⟨M,0,none⟩),.agg (Qd fm a1 a2 a3 c1 c2 c3)] w (eE M B ty tail S X (Rt.perform S m fm) w):=by
 obtain⟨i0,b1,b0,a9,a8⟩:=yi XL;have I:=((zI w.heap.size w).alloc (zB _) (.cells (Qd fm a1 a2 a3 c1 c2 c3) 143)).alloc (by simp) (.cells #[.int .i64 0,.int .i64 0,.slice none 0 0] 157);have bR:=qD w (.cells (Qd fm a1 a2 a3 c1 c2 c3) 143) (.cells #[.int .i64 0,.int .i64 0,.slice none 0 0] 157);have hA:=h.zP I;have a4:=ZY hf I;have HP:=zD (show Rt.perform S m fm=if (Rt.kP S m fm).2=0 then (if 50<=m.output.length then Rt.ended m 6 else ⟨0,wrap64 (m.line+1),[Rt.stay m.line,⟨5,0,⟨0,0⟩,0⟩],{ m with output:=m.output++[(Rt.kP S m fm).1] }⟩)else Rt.ended m (Rt.kP S m fm).2 by unfold Rt.perform;simp only;rw[zA (by omega),zA (by omega),zE hk]);have HH:=zD h;have d0:=hm.output;clear h hf hk;go_enter func147,ntmps147;go_wp2_with fail;refine(Ks hA hm a4 G j).mono ?_;rintro e w1 ⟨rfl,J⟩;have k:=I.trans (J.mono (B':=w.heap.size) (by simp;omega));have d:=zU bR J;have L:=hA.zP J;clear hA a4 I bR J;generalize Rt.kP S m fm=v at *;obtain⟨v1,v2⟩:=v;simp only at HP;have c5:=L.c5;by_cases hv:v2=0
 ·subst hv
  replace HP:=zD (HP.u.trans (zE rfl))
  obtain⟨c0,b2,A⟩:=zK L.out;by_cases h50:50<=m.output.length
  ·replace HP:=zD (HP.u.trans (zE h50))
   have a6:(50:Int)<=(m.output.length:Int):=by omega
   obtain⟨r0,r1,r2⟩:=yb d;have z:=zS d;have V:=zD (fun a b c=>(Z8.start HH.u k).three d (by omega) (by unfold Xe;decide) a b c);rw[A]at c5;clear L k d hm j G A h50;go_wp2_with fail;refine zT (v:=.agg #[.int .i64 6,.int .i64 0,.slice none 0 0]) ?_ rfl ⟨_,_,by rw[HP.u];rfl,by rw[HP.u];exact V.u _ _ _,by rw[HP.u];exact zW _ _ _ _⟩;simp[results,results147,go_sem,r0,r1,r2]
  ·replace HP:=zD (HP.u.trans (zA h50))
   have a6:¬(50:Int)<=(m.output.length:Int):=by omega
   have y:=L.out;have b9:=zQ L.block;have H1:=zD L;have a7:=qG (Z8.start HH.u k) d;have H5:=zD A;rw[A]at c5 y;clear L k d hm j G A h50;go_wp2_with (at_builtin;refine wpList_append_lies _ rfl _ _ 24 rfl 0 3 i0 _ 1 8 underlying24 b1 b0 a9 a8 rfl (by decide) _ _ _ rfl (y.alloc _) ⟨w1.heap.size,0,none⟩ 1 1 [.int .i64 v1] rfl rfl (cell_one_new _ _ _) (by simp[Value.oneCell']) (by omega) (by unfold maxLen;omega) (by omega) (zo _) (w1.heap.size+1) (by simp) ?_);intro g cap' i x f hat a0;rw[<-H5.u]at f hat;have H:=(zI w1.heap.size w1).alloc (zB _) (.cells #[.int .i64 v1] 3);obtain⟨q1,q2,q3⟩:=H1.u.EW H f v1 (.slice (some ⟨g,0,none⟩) (m.output.length+1) cap') (by rw[xR,yB];exact x) (fun g' hg'=>by simp[Value.ownBlock]at hg';subst hg';rcases hat with h | h;exact Or.inl h;exact Or.inr (by omega));obtain⟨T,d⟩:=a7.u;have O:∀(N:Nat) (c:Array Value) (t:TypeId),w1.heap[N]?=some (.cells c t (0,0))->t≠3->i.heap[N]?=some (.cells c t (0,0)):=by
    intro N c t hN ht;rw[f.block N (zX (zQ hN) H.size) (fun e=>by
     obtain⟨c',W⟩:=yW H1.u.out e.symm;rw[hN]at W;injection W with W;injection W with _ W;exact ht W),H.block N (zQ hN)]
    exact hN
   have F:=O M _ _ H1.u.block H1.u.ty.1;have D:=O _ _ _ d (by decide);have d4:i.cell? ⟨M,5,none⟩=some X.ov:=by have:=zC F 5 (by simp);simpa using this
   have d2:=zS F 5;have a5:M≠w.heap.size+1:=by have:=T.lt;omega
   have U:(i.setCell ⟨M,5,none⟩ (.slice (some ⟨g,0,none⟩) (m.output.length+1) cap')).heap[w.heap.size+1]?=some (.cells #[.int .i64 0,.int .i64 0,.slice none 0 0] 157 (0,0)):=by
    rw[zO i ⟨M,5,none⟩ _ _ (by show w.heap.size+1≠M;omega)];exact D
   have R:=T.more q1 q2 q3;have d3:i.cell? ⟨M,6,none⟩=some (.int .i64 m.line):=by have:=zC F 6 (by simp);simpa using this
   obtain⟨r0,r1,r2⟩:=yb D;have z:=zS D;have b8:=zQ D;have d1:=zQ F;have hQ:=R.vz.size;have Z:(i.setCell ⟨M,5,none⟩ (.slice (some ⟨g,0,none⟩) (m.output.length+1) cap')).heap.size=i.heap.size:=by simp[World.setCell]
   have b7:¬w.heap.size+1=i.heap.size:=by omega
   have b6:¬i.heap.size=w.heap.size+1:=by omega
   have b5:¬M=i.heap.size:=by omega
   have b4:¬M=w.heap.size+1:=a5;have b3:¬w.heap.size+1=M:=fun e=>a5 e.symm;have V:=zD (fun a b c=>And.intro ((R.three U (by omega) (by unfold Xe;decide) a b c).below ((zI _ _).alloc (zB _) (.cells #[.int .i64 1,.int .i64 m.line,.int .i64 0,.int .i64 0,.int .i64 0,.int .i64 5,.int .i64 0,.int .i64 0,.int .i64 0,.int .i64 0] 162))) (eQ 2 _ w.heap.size (w.heap.size+1) #[.int .i64 1,.int .i64 m.line,.int .i64 0,.int .i64 0,.int .i64 0,.int .i64 5,.int .i64 0,.int .i64 0,.int .i64 0,.int .i64 0] hQ a b c rfl (by omega)));have HG:=zD (fun a b c:Value=>yb (yR (Km U a b c) (.cells #[.int .i64 1,.int .i64 m.line,.int .i64 0,.int .i64 0,.int .i64 0,.int .i64 5,.int .i64 0,.int .i64 0,.int .i64 0,.int .i64 0] 162)));rw[Z]at V;clear x f hat y a0 q1 q2 q3 T d a7 H1 F D U R O H Z;go_wp2_with fail;refine zT (v:=.agg #[.int .i64 0,.int .i64 (wrap64 (m.line+1)),.slice (some ⟨i.heap.size,0,none⟩) 2 2]) ?_ rfl ⟨_,_,by rw[HP.u],by rw[HP.u];exact(V.u _ _ _).1,by rw[HP.u];exact(V.u _ _ _).2⟩;have E:=HG.u (.int .i64 0) (.int .i64 (wrap64 (m.line+1))) (.slice (some ⟨i.heap.size,0,none⟩) 2 2);revert E;generalize (W3 (i.setCell ⟨M,5,none⟩ (.slice (some ⟨g,0,none⟩) (m.output.length+1) cap')) (w.heap.size+1) (.int .i64 0) (.int .i64 (wrap64 (m.line+1))) (.slice (some ⟨i.heap.size,0,none⟩) 2 2)).alloc (.cells #[.int .i64 1,.int .i64 m.line,.int .i64 0,.int .i64 0,.int .i64 0,.int .i64 5,.int .i64 0,.int .i64 0,.int .i64 0,.int .i64 0] 162)=wz;intro E;simp[results,results147,go_sem,E.1,E.2.1,E.2.2]
 ·replace HP:=zD (HP.u.trans (zA hv))
  have bv:(v2 != 0)=true:=by simpa using hv
  obtain⟨r0,r1,r2⟩:=yb d;have z:=zS d;have V:=zD (fun a b c=>(Z8.start HH.u k).three d (by omega) (by unfold Xe;decide) a b c);clear L k d hv hm j G c5;go_wp2_with fail;refine zT (v:=.agg #[.int .i64 v2,.int .i64 0,.slice none 0 0]) ?_ rfl ⟨_,_,by rw[HP.u];rfl,by rw[HP.u];exact V.u _ _ _,by rw[HP.u];exact zW _ _ _ _⟩;simp[results,results147,go_sem,r0,r1,r2]
theorem setCell_any (h:jz w M B ty tail S m X) (W:dL S m) (hf:qk w BB (Qd fm a1 a2 a3 c1 c2 c3) fm) (I:Rt.Small fm) (j:∀o∈fm.values,o.length<=900) (hk:fm.kind=9) (b5:fm.index.length<=900):Calls Tryz.prog 146 #[.pointer (some ⟨M,0,none⟩),.agg (Qd fm a1 a2 a3 c1 c2 c3)] w (eE M B ty tail S X (Rt.perform S m fm) w):=by
 have J:=((zI w.heap.size w).alloc (zB _) (.cells (Qd fm a1 a2 a3 c1 c2 c3) 143)).alloc (by simp) (.cells #[.int .i64 0,.int .i64 0,.slice none 0 0] 157);have bF:=yR (zN w (.cells (Qd fm a1 a2 a3 c1 c2 c3) 143)) (.cells #[.int .i64 0,.int .i64 0,.slice none 0 0] 157);have bR:=qD w (.cells (Qd fm a1 a2 a3 c1 c2 c3) 143) (.cells #[.int .i64 0,.int .i64 0,.slice none 0 0] 157);have hA:=h.zP J;have Z:=ZY hf J;have HP:=zD (show Rt.perform S m fm=if (Rt.zr S m fm.index).2=0 then (if (Rt.kP S m fm).2=0 then (match Rt.kX S m fm.name (Rt.zr S m fm.index).1 with | none=>Rt.ended m 3 | some s=>⟨0,wrap64 (m.line+1),[Rt.stay m.line,Rt.stored m s],Rt.jN m s (Rt.kP S m fm).1⟩)else Rt.ended m (Rt.kP S m fm).2)else Rt.ended m (Rt.zr S m fm.index).2 by unfold Rt.perform;simp only;rw[zA (by omega),zE hk];rfl);have HH:=zD h;clear h hf hk;go_enter func146,ntmps146;go_wp2_with fail;have hI:(((w.alloc (.cells (Qd fm a1 a2 a3 c1 c2 c3) 143)).alloc (.cells #[.int .i64 0,.int .i64 0,.slice none 0 0] 157)).ownsRow BB 236 3 (.slice a2 fm.index.length c2) fm.index.length (xX fm.index)):=by
  obtain⟨pv,iv,vv,vs,a8,_,q2,_,_⟩:=Z;have:iv=.slice a2 fm.index.length c2:=by simp at a8;exact a8.2.1.symm
  rw[<-this];exact q2
 refine(Ju hA W hI b5).mono ?_;rintro e w0 ⟨rfl,k⟩;have H:=J.trans (k.mono (B':=w.heap.size) (by simp;omega));have d:=zU bF k;have A:=zU bR k;have h0:=hA.zP k;have a0:=ZY Z k;clear hA Z J bF bR k hI;generalize Rt.zr S m fm.index=ix at *;obtain⟨ix1,ix2⟩:=ix;simp only at HP;by_cases hx:ix2=0
 case neg=>
  replace HP:=zD (HP.u.trans (zA hx))
  have bv:(ix2 != 0)=true:=by simpa using hx
  obtain⟨r0,r1,r2⟩:=yb A;have z:=zS A;have U:=zD (fun a b c=>(Z8.start HH.u H).three A (by omega) (by unfold Xe;decide) a b c);clear h0 H d A hx W j I a0;go_wp2_with fail;refine zT (v:=.agg #[.int .i64 ix2,.int .i64 0,.slice none 0 0]) ?_ rfl ⟨_,_,by rw[HP.u];rfl,by rw[HP.u];exact U.u _ _ _,by rw[HP.u];exact zW _ _ _ _⟩;simp[results,results146,go_sem,r0,r1,r2]
 subst hx
 replace HP:=zD (HP.u.trans (zE rfl))
 have f0:=zC d 0 (by simp);have f1:=zC d 1 (by simp);have f2:=zC d 2 (by simp);have f3:=zC d 3 (by simp);have f4:=zC d 4 (by simp);have f5:=zC d 5 (by simp);simp only[yQ,yH,zv]at f0 f1 f2 f3 f4 f5;go_wp2_with fail;refine(Ks h0 W a0 I j).mono ?_;rintro e w1 ⟨rfl,D⟩;have G:=H.trans (D.mono (B':=w.heap.size) H.size);have a7:=zU d D;have y:=zU A D;have k1:=zC a7 1 (by simp);simp at k1;have h1:=h0.zP D;clear h0 a0 H d A D f0 f1 f2 f3 f4 f5;generalize Rt.kP S m fm=v at *;obtain⟨v1,v2⟩:=v;simp only at HP;by_cases hv:v2=0
 ·subst hv
  replace HP:=zD (HP.u.trans (zE rfl))
  go_wp2_with fail;refine(lU fm.name ix1 h1 W).mono ?_;rintro e w2 ⟨rfl,N⟩;have F:=G.trans (N.mono (B':=w.heap.size) G.size);have h2:=h1.zP N;have f:=zU y N;clear h1 N G a7 y k1;cases hc:Rt.kX S m fm.name ix1 with
  | none=>
   rw[hc]at HP;have b6:=(zI w2.heap.size w2).alloc (zB _) (.cells #[.int .i64 0,.int .i64 0] 160);have a9:=zQ f;have d0:¬w.heap.size+1=w2.heap.size:=by omega
   have c0:¬w2.heap.size=w.heap.size+1:=by omega
   obtain⟨r0,r1,r2⟩:=yb f;have z:=zS f;have U:=zD (fun a b c=>((Z8.start HH.u F).three f (by omega) (by unfold Xe;decide) a b c).below ((zI _ _).alloc (zB _) (.cells #[.int .i64 0,.int .i64 0] 160)));have HG:=zD (fun a b c:Value=>yb (yR (Km f a b c) (.cells #[.int .i64 0,.int .i64 0] 160)));clear h2 F f hc W j I b6;simp only[cellR];go_wp2_with fail;refine zT (v:=.agg #[.int .i64 3,.int .i64 0,.slice none 0 0]) ?_ rfl ⟨_,_,by rw[HP.u];rfl,by rw[HP.u];exact U.u _ _ _,by rw[HP.u];exact zW _ _ _ _⟩;have E:=HG.u (.int .i64 3) (.int .i64 0) (.slice none 0 0);revert E;generalize (W3 w2 (w.heap.size+1) (.int .i64 3) (.int .i64 0) (.slice none 0 0)).alloc (.cells #[.int .i64 0,.int .i64 0] 160)=wz;intro E;simp[results,results146,go_sem,E.1,E.2.1,E.2.2]
  | some sp=>
  rw[hc]at HP;clear hc;simp only[cellR];have L:=(zI w2.heap.size w2).alloc (zB _) (.cells #[.int .i64 sp.line,.int .i64 sp.cell] 160);have h3:=h2.zP L;have b0:=F.trans (L.mono (B':=w.heap.size) F.size);have T:=zU f L;have b8:=zN w2 (.cells #[.int .i64 sp.line,.int .i64 sp.cell] 160);clear h2 L F f;go_wp2_with fail;refine(Kv sp v1 h3 W).mono ?_;rintro e w4 ⟨rfl,V⟩;have b1:=(Z8.start HH.u b0).put V;have b2:=(V.2.block _ (zQ T) (QF h3.own T (by decide))).trans T;clear h3 b0 T b8 V;have b9:=zD (show Rt.stored m sp=⟨4,0,sp,Rt.ZL m sp⟩from rfl);generalize Rt.ZL m sp=J8 at *;have a5:=(zI w4.heap.size w4).alloc (zB _) (.cells #[.int .i64 4,.int .i64 0,.int .i64 sp.line,.int .i64 sp.cell,.int .i64 J8] 162);have i:=b1.below a5;have x:=zU b2 a5;have b3:=zN w4 (.cells #[.int .i64 4,.int .i64 0,.int .i64 sp.line,.int .i64 sp.cell,.int .i64 J8] 162);have c6:=i.mc.c6;have HL:=zD (show (Rt.jN m sp v1).line=m.line from fU m sp v1);rw[HL.u]at c6;have b4:=qG i x;obtain⟨p0,p1,p2,p3,p4⟩:=QY b3;clear b1 i b2 x a5 b3;go_wp2_with fail;generalize w4.alloc (.cells #[.int .i64 4,.int .i64 0,.int .i64 sp.line,.int .i64 sp.cell,.int .i64 J8] 162)=w5 at *;generalize w4.heap.size=O at *;go_region_held3 (fun w'=>w'.cell? ⟨M,6,none⟩=some (.int .i64 m.line)/\w'.cell? ⟨O,0,none⟩=some (.int .i64 4)/\w'.cell? ⟨O,1,none⟩=some (.int .i64 0)/\w'.cell? ⟨O,2,none⟩=some (.int .i64 sp.line)/\w'.cell? ⟨O,3,none⟩=some (.int .i64 sp.cell)/\w'.cell? ⟨O,4,none⟩=some (.int .i64 J8)) (go_keep) (fail);obtain⟨i,x⟩:=b4.u;have a4:=((zI w5.heap.size w5).alloc (zB _) (.cells #[.int .i64 1,.int .i64 m.line,.int .i64 0,.int .i64 0,.int .i64 0,.int .i64 4,.int .i64 0,.int .i64 sp.line,.int .i64 sp.cell,.int .i64 J8] 162)).drew;have bQ:(w5.alloc (.cells #[.int .i64 1,.int .i64 m.line,.int .i64 0,.int .i64 0,.int .i64 0,.int .i64 4,.int .i64 0,.int .i64 sp.line,.int .i64 sp.cell,.int .i64 J8] 162)).drew.heap[w5.heap.size]?=_:=zN w5 (.cells #[.int .i64 1,.int .i64 m.line,.int .i64 0,.int .i64 0,.int .i64 0,.int .i64 4,.int .i64 0,.int .i64 sp.line,.int .i64 sp.cell,.int .i64 J8] 162);have a6:=i.below a4;have R:=zU x a4;have b7:=a6.mc.c6;rw[HL.u]at b7;have hQ:=i.vz.size;have d1:=zQ bQ;have a9:=zQ x;clear i x a4 b4 c6 p0 p1 p2 p3 p4;generalize (w5.alloc (.cells #[.int .i64 1,.int .i64 m.line,.int .i64 0,.int .i64 0,.int .i64 0,.int .i64 4,.int .i64 0,.int .i64 sp.line,.int .i64 sp.cell,.int .i64 J8] 162)).drew=w6 at *;generalize w5.heap.size=q at *;obtain⟨r0,r1,r2⟩:=yb R;have z:=zS R;have U:=zD (fun a b c=>And.intro (a6.three R (by omega) (by unfold Xe;decide) a b c) (mu 2 bQ (show q≠w.heap.size+1 by omega) hQ a b c rfl (by omega)));clear a6 R bQ;go_wp2_with fail;refine zT (v:=.agg #[.int .i64 0,.int .i64 (wrap64 (m.line+1)),.slice (some ⟨q,0,none⟩) 2 2]) ?_ rfl ⟨_,_,by rw[HP.u],by rw[HP.u];exact(U.u _ _ _).1,by rw[HP.u,b9.u];exact(U.u _ _ _).2⟩;simp[results,results146,go_sem,r0,r1,r2]
 ·replace HP:=zD (HP.u.trans (zA hv))
  have bv:(v2 != 0)=true:=by simpa using hv
  obtain⟨r0,r1,r2⟩:=yb y;have z:=zS y;have U:=zD (fun a b c=>(Z8.start HH.u G).three y (by omega) (by unfold Xe;decide) a b c);clear h1 G a7 y k1 hv W j I;go_wp2_with fail;refine zT (v:=.agg #[.int .i64 v2,.int .i64 0,.slice none 0 0]) ?_ rfl ⟨_,_,by rw[HP.u];rfl,by rw[HP.u];exact U.u _ _ _,by rw[HP.u];exact zW _ _ _ _⟩;simp[results,results146,go_sem,r0,r1,r2]
end
end Go.Proofs.YthleadfkfnnadaaGreat
