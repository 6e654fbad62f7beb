/- Going on from a line stays in its procedure: plain. -/
import Derived.Test.YthleadfkfnnadaaGreatRtTidy
set_option maxHeartbeats 4000000
set_option maxRecDepth 100000
set_option linter.unusedSimpArgs false
namespace Go.Proofs.YthleadfkfnnadaaGreat
variable {x q:Int} {L:List (Nat×Int)} {o n e:Nat}
namespace Rt
theorem pH {lk:Qw}:(jR (lk.modify o (fun y=>(x,y.2))) q).2=(jR lk q).2:=by
 unfold jR;split
 ·rfl
 ·rw[qW];cases lk[q.toNat]? with
  | none=>rfl
  | some y=>
   simp only[Qv,Xf,Zn];split <;> rfl
theorem QP {lk:Qw} (f:Int×Int->Int×Int) (h:q≠o) (d:0<=q):jR (lk.modify o f) q=jR lk q:=by
 unfold jR;rw[zA (by omega),zA (by omega),qW];cases lk[q.toNat]? with
 | none=>rfl
 | some y=>
  simp only[Qv,Xf,Zn];rw[zA (by omega)]
theorem gD {lk:Qw} (h:o < lk.length):(jR (lk.modify o (fun y=>(y.1,x))) (o:Int)).2=x:=by
 unfold jR;rw[zA (by omega),qW,xS,zJ h];simp
structure Zo (n:Nat) (bs:List Zx) (acc:List PL) (lk:Qw):Prop where
 inc:(bs.map (·.line)).Pairwise (· < ·)
 lt:∀x∈bs.map (·.line),1<=x/\x < n
 fwd:∀(j:Nat) (p:PL),acc[j]?=some p->p.form.kind=6->∃o:Nat,p.opener=(o:Int)/\(o∈bs.map (·.line)\/(o∉bs.map (·.line)/\o < n/\(j:Int)<=(jR lk o).2/\(jR lk o).2<=n))
theorem Vw {bs:List Zx} (h:bs≠[]):bs.map (·.line)=bs.dropLast.map (·.line)++[(jE bs).line]:=by
 have:jE bs=bs.getLast h:=by
  unfold jE;rw[xk,xd h];rfl
 rw[this]
 conv=>lhs;rw[<-xj h]
 rw[yB];rfl
theorem KP (d:List Zx) (p:PL):(ym d p).form.kind=p.form.kind:=by rw[(XH d p).2]
theorem Zo.grow {bs bs':List Zx} {acc:List PL} {lk lk':Qw} {q:PL} (h:Zo n bs acc lk) (A:acc.length=n) (f:bs'.map (·.line)=bs.map (·.line)) (y:∀o:Nat,(jR lk' o).2=(jR lk o).2) (z:q.form.kind=6->∃o:Nat,q.opener=(o:Int)/\o∈bs.map (·.line)):Zo (n+1) bs' (acc++[q]) lk':=by
 refine⟨by rw[f];exact h.inc,fun x hx=>by rw[f]at hx;have:=h.lt x hx;omega,?_⟩;intro j p d i;rw[f];by_cases hlt:j < acc.length
 ·rw[yp hlt]at d;obtain⟨o,e,h1⟩:=h.fwd j p d i;refine⟨o,e,?_⟩;rcases h1 with h1 | ⟨h1,h2,h3,h4⟩
  ·exact Or.inl h1
  ·exact Or.inr ⟨h1,by omega,by rw[y];exact h3,by rw[y];omega⟩
 ·rw[yU (by omega)]at d;cases hjj:j-acc.length with
  | zero=>
   rw[hjj]at d;simp at d;subst d;obtain⟨o,e,h1⟩:=z i;exact⟨o,e,Or.inl h1⟩
  | succ k=>rw[hjj]at d;simp at d
theorem Zo.opens {bs:List Zx} {acc:List PL} {lk:Qw} {q:PL} {b:Zx} (h:Zo n bs acc lk) (A:acc.length=n) (D:0 < n) (z:b.line=n) (i:q.form.kind≠6):Zo (n+1) (bs++[b]) (acc++[q]) lk:=by
 have hm:(bs++[b]).map (·.line)=bs.map (·.line)++[n]:=by rw[yB,qp,Ye,z]
 refine⟨?_,?_,?_⟩
 ·rw[hm,qE];exact⟨h.inc,List.pairwise_singleton _ _,fun x hx y hy=>by have:=h.lt x hx;rw[yN.mp hy];exact this.2⟩
 ·intro x hx;rw[hm]at hx;rcases zd.mp hx with hx | hx
  ·have:=h.lt x hx;omega
  ·rw[yN.mp hx];omega
 ·intro j p d f;rw[hm];by_cases hlt:j < acc.length
  ·rw[yp hlt]at d;obtain⟨o,e,h1⟩:=h.fwd j p d f;refine⟨o,e,?_⟩;rcases h1 with h1 | ⟨h1,h2,h3,h4⟩
   ·exact Or.inl (zY _ h1)
   ·refine Or.inr ⟨fun hm=>?_,by omega,h3,by omega⟩;rcases zd.mp hm with hm | hm
    ·exact h1 hm
    ·rw[yN.mp hm]at h2;omega
  ·rw[yU (by omega)]at d;cases hjj:j-acc.length with
   | zero=>rw[hjj]at d;simp at d;subst d;exact absurd f i
   | succ k=>rw[hjj]at d;simp at d
theorem Zo.ends {bs:List Zx} {acc:List PL} {lk:Qw} {q:PL} (h:Zo n bs acc lk) (L:acc.length=n) (J:bs≠[]) (I:n<=lk.length) (H:q.form.kind≠6):Zo (n+1) bs.dropLast (acc++[q]) (lk.modify (jE bs).line (fun y=>(y.1,(n:Int)))):=by
 have z:=Vw J;have f:=h.inc;rw[z,qE]at f;obtain⟨G,_,F⟩:=f;have A:1<=(jE bs).line/\(jE bs).line < n:=h.lt _ (by rw[z];simp);have i:(jE bs).line∉bs.dropLast.map (·.line):=fun hm=>by have:=F _ hm _ (yN.mpr rfl);omega
 refine⟨G,fun x hx=>by have:=h.lt x (by rw[z];exact zY _ hx);omega,?_⟩;intro j p d D;by_cases hlt:j < acc.length
 ·rw[yp hlt]at d;obtain⟨o,e,h1⟩:=h.fwd j p d D;refine⟨o,e,?_⟩;rw[z]at h1;by_cases ho:o=(jE bs).line
  ·refine Or.inr ⟨by rw[ho];exact i,by omega,?_,?_⟩
   ·rw[ho,gD (by omega)];omega
   ·rw[ho,gD (by omega)];omega
  ·rw[QP _ (by omega) (by omega)];rcases h1 with h1 | ⟨h1,h2,h3,h4⟩
   ·rcases zd.mp h1 with h1 | h1
    ·exact Or.inl h1
    ·exact absurd (yN.mp h1) ho
   ·exact Or.inr ⟨fun hm=>h1 (zY _ hm),by omega,h3,by omega⟩
 ·rw[yU (by omega)]at d;cases hjj:j-acc.length with
  | zero=>rw[hjj]at d;simp at d;subst d;exact absurd D H
  | succ k=>rw[hjj]at d;simp at d
theorem rO {bs:List Zx} {k:Int} (h:Yj bs k=true) (d:k=4\/k=6):bs≠[]:=by
 intro e;unfold Yj at h;rw[zA (by omega),zA (by omega),zE e]at h;cases h
theorem Zo.step {len:Nat} {bs:List Zx} {acc:List PL} {lk:Qw} {p:PL} (h:Zo n bs acc lk) (A:acc.length=n) (I:0 < n) (F:n < len) (H:lk.length=len) (G:Yj bs p.form.kind=true):Zo (n+1) (qK bs n p.form.kind) (acc++[ym bs p]) (Zu len lk (ym bs p) n):=by
 have d:=KP bs p;by_cases h6:p.form.kind=6
 ·have x:=rO G (Or.inr h6);have z:=Vw x;have i:(ym bs p).opener=((jE bs).line:Int):=by unfold ym;rw[zA x,zE (Or.inl h6)]
  have k:qK bs n p.form.kind=bs.dropLast++[⟨(jE bs).line,(jE bs).kind,true⟩]:=by
   unfold qK;rw[zA (by omega),zE h6,zA x]
  have j:(jE bs).line∈bs.map (·.line):=by rw[z];simp
  have D:=h.lt _ j;have f:Zu len lk (ym bs p) n=lk.modify (jE bs).line (fun y=>((n:Int),y.2)):=by
   unfold Zu;rw[i,zE (by omega),d,zE h6];rfl
  rw[k,f];refine h.grow A ?_ (fun o=>pH) (fun _=>⟨_,i,j⟩);rw[z,yB];rfl
 ·by_cases h4:p.form.kind=4
  ·have x:=rO G (Or.inl h4);have z:=Vw x;have i:(ym bs p).opener=((jE bs).line:Int):=by unfold ym;rw[zA x,zE (Or.inr h4)]
   have j:(jE bs).line∈bs.map (·.line):=by rw[z];simp
   have D:=h.lt _ j;have k:qK bs n p.form.kind=bs.dropLast:=by
    unfold qK;rw[zA (by omega),zA h6,zE h4]
   have f:Zu len lk (ym bs p) n=lk.modify (jE bs).line (fun y=>(y.1,(n:Int))):=by
    unfold Zu;rw[i,zE (by omega),d,zA h6,zE h4];rfl
   rw[k,f];exact h.ends A x (by omega) (by rw[d];exact h6)
  ·have f:Zu len lk (ym bs p) n=lk:=by
    unfold Zu;rw[d,zA h6,zA h4];split <;> rfl
   rw[f];unfold qK;by_cases h3:p.form.kind=3\/p.form.kind=5\/p.form.kind=7
   ·rw[zE h3];exact h.opens A I rfl (by rw[d];exact h6)
   ·rw[zA h3,zA h6,zA h4];exact h.grow A rfl (fun _=>rfl) (fun e=>absurd (d▸e) h6)
theorem od (len:Nat):∀(ps:List PL) (n:Nat) (bs:List Zx) (acc:List PL) (lk:Qw) (ls:List PL) (b2:List Zx),nestFrom ps n bs acc=(0,ls,b2)->0 < n->acc.length=n->n+ps.length=len->lk.length=len->Zo n bs acc lk->Zo len b2 ls (nestLk len ps n bs lk)
 | [],n,bs,acc,lk,ls,b2,h,_,_,hl,_,hi=>by
  simp[nestFrom]at h;obtain⟨rfl,rfl⟩:=h;have:n=len:=by simpa using hl
  subst this;exact hi
 | p::r,n,bs,acc,lk,ls,b2,h,h0,hn,hl,hlk,hi=>by
  rw[nestFrom]at h;split at h
  ·next ha=>
   rw[nestLk,zE ha];exact od len r (n+1) _ _ _ ls b2 h (by omega) (by simp[hn]) (by simp at hl;omega) (by rw[Jl,hlk]) (hi.step hn h0 (by simp at hl;omega) hlk ha)
  ·simp at h;omega
theorem Aj {ps ls:List PL} (h:nestFrom ps 1 [] [kb]=(0,ls,[])) (i:ps.length<=100):∀(n:Nat) (p:PL),ls[n]?=some p->p.form.kind=6->(n:Int)<=(jR (vS ps) p.opener).2/\(jR (vS ps) p.opener).2<=200:=by
 have f:=od (ps.length+1) ps 1 [] [kb] (List.replicate (ps.length+1) (0,0)) ls [] h (by omega) rfl (by omega) (by simp) ⟨by simp,by simp,fun j p hj hp=>by
  cases j with
  | zero=>simp at hj;subst hj;exact absurd hp (by decide)
  | succ j=>simp at hj⟩
 intro n p d hp;obtain⟨o,e,h1⟩:=f.fwd n p d hp;rcases h1 with h1 | ⟨_,_,h3,h4⟩
 ·simp at h1
 ·rw[e];exact⟨h3,by unfold vS;omega⟩
def kd (ps:List PL) (n:Nat):Int:=((ps[n]?).getD kb).form.kind
theorem eS {ps:List PL} {p:PL} (h:ps[n]?=some p):kd ps n=p.form.kind:=by rw[kd,h];rfl
def stk (ps:List PL):Nat->List Zx
 | 0=>[]
 | n+1=>qK (stk ps n) (n+1) (kd ps n)
structure Vb (ps ls:List PL):Prop where
 len:ls.length=ps.length+1
 zero:ls[0]?=some kb
 Yj:∀n,n < ps.length->Yj (stk ps n) (kd ps n)=true
 ym:∀n p,ps[n]?=some p->ls[n+1]?=some (ym (stk ps n) p)
 shut:stk ps ps.length=[]
theorem oY (ps:List PL):∀(f k:Nat) (acc ls:List PL),k+f=ps.length->acc.length=k+1->nestFrom (ps.drop k) (k+1) (stk ps k) acc=(0,ls,[])->
  (∀j,j < acc.length->ls[j]?=acc[j]?)/\ls.length=ps.length+1/\stk ps ps.length=[]/\∀n p,k<=n->ps[n]?=some p->Yj (stk ps n) p.form.kind=true/\ls[n+1]?=some (ym (stk ps n) p)
 | 0,k,acc,ls,hk,ha,h=>by
  rw[zp (by omega),nestFrom]at h;injection h with _ h;injection h with h1 h2;subst h1;have:k=ps.length:=by omega
  subst this;refine⟨fun _ _=>rfl,by omega,h2,fun n p hn hp=>?_⟩;rw[xt (by omega)]at hp;cases hp
 | f+1,k,acc,ls,hk,ha,h=>by
  have d:k < ps.length:=by omega
  rw[zZ d,nestFrom]at h;split at h
  ·next had=>
   have i:kd ps k=ps[k].form.kind:=eS (zJ d);obtain⟨o,z,y,x⟩:=oY ps f (k+1) (acc++[ym (stk ps k) ps[k]]) ls (by omega) (by simp[ha]) (by rw[stk,i];exact h);refine⟨fun j hj=>?_,z,y,fun n p hn hp=>?_⟩
   ·rw[o j (by simp;omega),yp hj]
   ·by_cases e:n=k
    ·subst e;rw[zJ d]at hp;injection hp with hp;subst hp;refine⟨had,?_⟩;rw[o (n+1) (by simp;omega),yU (by omega),ha];simp
    ·exact x n p (by omega) hp
  ·injection h with h _;omega
theorem Fw {ps ls:List PL} (h:nestFrom ps 1 [] [kb]=(0,ls,[])):Vb ps ls:=by
 obtain⟨j,i,f,d⟩:=oY ps ps.length 0 [kb] ls (by omega) rfl h;refine⟨i,j 0 (by simp),fun n hn=>?_,fun n p hp=>(d n p (zo _) hp).2,f⟩;have:=(d n ps[n] (zo _) (zJ hn)).1;rw[eS (zJ hn)];exact this
def xu (ps:List PL):Nat->List (Nat×Int)
 | 0=>[]
 | n+1=>if kd ps n=3\/kd ps n=5\/kd ps n=7 then xu ps n++[(n+1,kd ps n)]else if kd ps n=4 then (xu ps n).dropLast else xu ps n
theorem nJ {bs:List Zx} (h:bs≠[]):jE bs=bs.getLast h:=by
 unfold jE;rw[xk,xd h];rfl
theorem aH (ps:List PL):∀n,(stk ps n).map (fun b=>(b.line,b.kind))=xu ps n
 | 0=>rfl
 | n+1=>by
  have d:=aH ps n;rw[stk,xu,<-d];unfold qK;by_cases h3:kd ps n=3\/kd ps n=5\/kd ps n=7
  ·rw[zE h3,zE h3,yB];rfl
  ·rw[zA h3,zA h3];by_cases h6:kd ps n=6
   ·rw[zE h6,zA (show ¬kd ps n=4 by omega)];by_cases hb:stk ps n=[]
    ·rw[zE hb,hb]
    ·rw[zA hb,yB,nJ hb]
     conv=>rhs;rw[<-xj hb]
     rw[yB];rfl
   ·rw[zA h6];by_cases h4:kd ps n=4
    ·rw[zE h4,zE h4,Qx]
    ·rw[zA h4,zA h4]
def Z3 (L:List (Nat×Int)):Nat×Int:=L.getLastD (0,0)
def Yt (L:List (Nat×Int)):Nat×Int:=L.headD (0,0)
theorem fH (ps:List PL) (n:Nat):((jE (stk ps n)).line,(jE (stk ps n)).kind)=Z3 (xu ps n):=by
 rw[<-aH];by_cases hb:stk ps n=[]
 ·rw[hb];rfl
 ·rw[nJ hb,Z3,xk,List.getLast?_map,xd hb];rfl
theorem wP {ps:List PL}:(kr (stk ps n)).line=(Yt (xu ps n)).1:=by
 rw[<-aH];cases stk ps n with
 | nil=>rfl
 | cons b r=>rfl
theorem XA (ps:List PL) (n:Nat):stk ps n=[]↔xu ps n=[]:=by
 rw[<-aH];simp
structure Gt (ps:List PL) (n:Nat):Prop where
 inc:((xu ps n).map (·.1)).Pairwise (· < ·)
 each:∀b∈xu ps n,1<=b.1/\b.1<=n/\kd ps (b.1-1)=b.2
 head:∀b r,xu ps n=b::r->b.2=3/\∀c∈r,c.2=5\/c.2=7
theorem Qo (h:L≠[]):Z3 L∈L:=by
 unfold Z3;rw[xk,xd h];exact JV h
theorem gd:∀b∈L.dropLast,b∈L:=fun _ hb=>vL _ hb
theorem ZA {ps ls:List PL} (h:Vb ps ls) (d:n < ps.length) (f:¬(kd ps n=0\/kd ps n=1\/kd ps n=2\/kd ps n=3)):xu ps n≠[]:=by
 have:=h.Yj n d;unfold Rt.Yj at this;intro e;rw[zA (by omega),zA (by omega),zE ((XA ps n).mpr e)]at this;cases this
theorem eg {ps ls:List PL} (h:Vb ps ls) (d:n < ps.length) (f:kd ps n=1\/kd ps n=2\/kd ps n=3):xu ps n=[]:=by
 have:=h.Yj n d;unfold Rt.Yj at this;rw[zA (by omega),zE f]at this;exact(XA ps n).mp (qf this)
theorem nf {ps ls:List PL} (h:Vb ps ls) (f:n < ps.length) (i:kd ps n=6):(Z3 (xu ps n)).2=5/\(jE (stk ps n)).aB=false:=by
 have:=h.Yj n f;unfold Rt.Yj at this;have d:=ZA h f (by omega);rw[zA (by omega),zA (by omega),zA (fun e=>d ((XA ps n).mp e)),zE i]at this;simp only[zy,yS,Bool.not_eq_true']at this;rw[<-fH];exact this
theorem AQ (h:(L.map (·.1)).Pairwise (· < ·)):(L.dropLast.map (·.1)).Pairwise (· < ·):=by
 rw[Qx];exact h.sublist (List.dropLast_sublist _)
theorem KJ {ps ls:List PL} (h:Vb ps ls):∀n,n<=ps.length->Gt ps n
 | 0,_=>⟨by simp[xu],by simp[xu],fun b r e=>by simp[xu]at e⟩
 | n+1,hn=>by
  have f:=KJ h n (by omega);by_cases h3:kd ps n=3\/kd ps n=5\/kd ps n=7
  ·have e:xu ps (n+1)=xu ps n++[(n+1,kd ps n)]:=by rw[xu,zE h3]
   refine⟨?_,fun b hb=>?_,fun b r hb=>?_⟩
   ·rw[e,yB,qE];refine⟨f.inc,List.pairwise_singleton _ _,fun x hx y hy=>?_⟩;obtain⟨b,hb,rfl⟩:=xr.mp hx;have:=(f.each b hb).2.1;simp at hy;omega
   ·rw[e]at hb;rcases zd.mp hb with hb | hb
    ·have:=f.each b hb;exact⟨this.1,by omega,this.2.2⟩
    ·rw[yN.mp hb];exact⟨by simp,by simp,by simp⟩
   ·rw[e]at hb;cases hs:xu ps n with
    | nil=>
     rw[hs]at hb;have i:kd ps n=3:=by
      rcases h3 with h3 | h3
      ·exact h3
      ·exact absurd hs (ZA h (by omega) (by omega))
     simp at hb;rw[<-hb.1,hb.2];exact⟨i,by simp⟩
    | cons c q=>
     rw[hs]at hb;simp at hb;obtain⟨rfl,rfl⟩:=hb;have:=f.head c q hs;refine⟨this.1,fun x hx=>?_⟩;rcases zd.mp hx with hx | hx
     ·exact this.2 x hx
     ·rw[yN.mp hx];rcases h3 with h3 | h3
      ·have:=eg h (show n < ps.length by omega) (by omega);rw[hs]at this;cases this
      ·exact h3
  ·by_cases h4:kd ps n=4
   ·have e:xu ps (n+1)=(xu ps n).dropLast:=by rw[xu,zA h3,zE h4]
    refine⟨by rw[e];exact AQ f.inc,fun b hb=>?_,fun b r hb=>?_⟩
    ·rw[e]at hb;have:=f.each b (gd b hb);exact⟨this.1,by omega,this.2.2⟩
    ·rw[e]at hb;cases hs:xu ps n with
     | nil=>rw[hs]at hb;simp at hb
     | cons c q=>
      rw[hs]at hb;have:=f.head c q hs;cases q with
      | nil=>simp at hb
      | cons d q=>
       rw[List.dropLast_cons_of_ne_nil (by simp)]at hb;injection hb with e1 e2;subst e1;rw[<-e2];exact⟨this.1,fun x hx=>this.2 x (gd x hx)⟩
   ·have e:xu ps (n+1)=xu ps n:=by rw[xu,zA h3,zA h4]
    exact⟨by rw[e];exact f.inc,fun b hb=>by rw[e]at hb;have:=f.each b hb;exact⟨this.1,by omega,this.2.2⟩,fun b r hb=>by rw[e]at hb;exact f.head b r hb⟩
theorem fF {ps:List PL} {o i:Nat} (h:o<=i) (f:∀b∈xu ps i,b.1≠o):∀j,∀b∈xu ps (i+j),b.1≠o
 | 0=>f
 | j+1=>by
  have d:=fF h f j;intro b hb;rw[<-vN,xu]at hb;split at hb
  ·rcases zd.mp hb with hb | hb
   ·exact d b hb
   ·rw[yN.mp hb];simp only;omega
  ·split at hb
   ·exact d b (gd b hb)
   ·exact d b hb
theorem fZ {ps:List PL} (h:xu ps n≠[]) (f:xu ps (n+1)≠[]):Yt (xu ps (n+1))=Yt (xu ps n):=by
 rw[xu]at f ⊢;cases hs:xu ps n with
 | nil=>exact absurd hs h
 | cons c q=>
  rw[hs]at f;split
  ·rfl
  ·rename_i h3;rw[zA h3]at f;split
   ·rename_i h4;rw[zE h4]at f;cases q with
    | nil=>simp at f
    | cons d q=>rfl
   ·rfl
theorem nt {ps:List PL} {o:Nat}:∀(j i:Nat),o<=i->(∃b∈xu ps i,b.1=o)->(∃b∈xu ps (i+j),b.1=o)->Yt (xu ps (i+j))=Yt (xu ps i)
 | 0,i,_,_,_=>rfl
 | j+1,i,ho,hi,hj=>by
  have hm:∃b∈xu ps (i+1),b.1=o:=by
   by_cases hm:∃b∈xu ps (i+1),b.1=o
   ·exact hm
   ·obtain⟨b,d,e⟩:=hj;exact absurd e (fF (ps:=ps) (i:=i+1) (by omega) (fun c hc hce=>hm ⟨c,hc,hce⟩) j b (by rw[show i+1+j=i+(j+1) by omega];exact d))
  rw[show i+(j+1)=(i+1)+j by omega]at hj ⊢;rw[nt j (i+1) (by omega) hm hj];obtain⟨b,d,_⟩:=hi;obtain⟨c,hc,_⟩:=hm;exact fZ (List.ne_nil_of_mem d) (List.ne_nil_of_mem hc)
def lkn (ps:List PL):Nat->Qw
 | 0=>List.replicate (ps.length+1) (0,0)
 | n+1=>Zu (ps.length+1) (lkn ps n) (ym (stk ps n) ((ps[n]?).getD kb)) (n+1)
theorem uY (ps:List PL):∀n,(lkn ps n).length=ps.length+1
 | 0=>by simp[lkn]
 | n+1=>by rw[lkn,Jl,uY ps n]
theorem fp {ps ls:List PL} (h:Vb ps ls):∀f k,k+f=ps.length->nestLk (ps.length+1) (ps.drop k) (k+1) (stk ps k) (lkn ps k)=lkn ps ps.length
 | 0,k,hk=>by
  have:k=ps.length:=by omega
  subst this;rw[zp (zB _),nestLk]
 | f+1,k,hk=>by
  have d:k < ps.length:=by omega
  have i:kd ps k=ps[k].form.kind:=eS (zJ d);have j:=h.Yj k d;rw[i]at j;have o:=fp h f (k+1) (by omega);rw[zZ d,nestLk,zE j];rw[stk,lkn,i,zJ d]at o;exact o
theorem Xx {ps ls:List PL} (h:Vb ps ls):vS ps=lkn ps ps.length:=fp h ps.length 0 (by omega)
theorem gC {lk:Qw}:(jR (lk.modify o (fun y=>(y.1,x))) q).1=(jR lk q).1:=by
 unfold jR;split
 ·rfl
 ·rw[qW];cases lk[q.toNat]? with
  | none=>rfl
  | some y=>
   simp only[Qv,Xf,Zn];split <;> rfl
theorem pG {lk:Qw} (h:o < lk.length):(jR (lk.modify o (fun y=>(x,y.2))) (o:Int)).1=x:=by
 unfold jR;rw[zA (by omega),qW,xS,zJ h];simp
structure LkOK (ps:List PL) (n:Nat):Prop where
 aB:∀m,m < n->kd ps m=6->(jR (lkn ps n) ((Z3 (xu ps m)).1:Nat)).1=(m:Int)+1
 Fx:∀o:Nat,(jR (lkn ps n) o).1=0\/∃m:Nat,m < n/\kd ps m=6/\(Z3 (xu ps m)).1=o/\(jR (lkn ps n) o).1=(m:Int)+1
 cls:∀o:Nat,1<=o->o<=n->(kd ps (o-1)=3\/kd ps (o-1)=5\/kd ps (o-1)=7)->(∃b∈xu ps n,b.1=o)\/∃e:Nat,e < n/\kd ps e=4/\(Z3 (xu ps e)).1=o/\(jR (lkn ps n) o).2=(e:Int)+1
 FR:∀b∈stk ps n,b.aB=false->(jR (lkn ps n) (b.line:Nat)).1=0
theorem K8 (h:L≠[]):L=L.dropLast++[Z3 L]:=by
 unfold Z3;rw[xk,xd h];exact(xj h).symm
theorem cW {ps ls:List PL} (h:Vb ps ls) (i:n < ps.length) (j:kd ps n=6\/kd ps n=4):(ym (stk ps n) ((ps[n]?).getD kb)).opener=((Z3 (xu ps n)).1:Nat)/\(ym (stk ps n) ((ps[n]?).getD kb)).form.kind=kd ps n:=by
 have d:stk ps n≠[]:=fun e=>ZA h i (by omega) ((XA ps n).mp e);have f:((ps[n]?).getD kb).form.kind=6\/((ps[n]?).getD kb).form.kind=4:=j;refine⟨?_,KP _ _⟩;unfold ym;rw[zA d,zE f,<-fH]
theorem Fi {ps ls:List PL} (h:Vb ps ls) (k:n<=ps.length) (f:stk ps n≠[]):∀b∈(stk ps n).dropLast,b∈stk ps n/\b.line < (Z3 (xu ps n)).1:=by
 intro b j;have i:=(KJ h n k).inc;have d:xu ps n≠[]:=fun e=>f ((XA ps n).mpr e);rw[K8 d,yB,qE]at i;refine⟨vL _ j,?_⟩;have o:(b.line,b.kind)∈(xu ps n).dropLast:=by
  rw[<-aH,<-Qx];exact xr.mpr ⟨b,j,rfl⟩
 exact i.2.2 b.line (xr.mpr ⟨_,o,rfl⟩) _ (by simp)
theorem uZ {ps ls:List PL} (h:Vb ps ls):∀n,n<=ps.length->LkOK ps n
 | 0,_=>⟨fun m hm=>by omega,fun o=>Or.inl (by
   unfold lkn jR;rw[zA (by omega),YP];split <;> rfl),fun o h1 h2=>by omega,fun b hb=>by simp[stk]at hb⟩
 | n+1,hn=>by
  have ih:=uZ h n (by omega);have G:=uY ps n;have z:=KJ h n (by omega);have x:n < ps.length:=by omega
  by_cases h6:kd ps n=6
  ·have i:=ZA h x (show ¬(kd ps n=0\/kd ps n=1\/kd ps n=2\/kd ps n=3) by omega);have f:stk ps n≠[]:=fun e=>i ((XA ps n).mp e);obtain⟨N,M,L⟩:=z.each _ (Qo i);obtain⟨D,A⟩:=cW h x (Or.inl h6);have j:xu ps (n+1)=xu ps n:=by rw[xu,zA (by omega),zA (by omega)]
   have d:lkn ps (n+1)=(lkn ps n).modify (Z3 (xu ps n)).1 (fun y=>((n:Int)+1,y.2)):=by
    rw[lkn,Zu,D,zE (by omega),A,zE h6];rfl
   have I:(jR (lkn ps n) ((Z3 (xu ps n)).1:Nat)).1=0:=by
    have H:=fH ps n;have:=ih.FR (jE (stk ps n)) (by rw[nJ f];exact JV f) (nf h x h6).2;rw[<-H];exact this
   refine⟨fun m hm hk=>?_,fun o=>?_,fun o h1 h2 h3=>?_,fun b hb he=>?_⟩
   ·rw[d];by_cases e:m=n
    ·subst e;exact pG (by omega)
    ·have:=ih.aB m (by omega) hk;by_cases e2:(Z3 (xu ps m)).1=(Z3 (xu ps n)).1
     ·rw[e2,I]at this;omega
     ·rw[QP _ (by omega) (by omega)];exact this
   ·rw[d];by_cases e:o=(Z3 (xu ps n)).1
    ·subst e;exact Or.inr ⟨n,by omega,h6,rfl,pG (by omega)⟩
    ·rw[QP _ (by omega) (by omega)];rcases ih.Fx o with k | ⟨m,m1,m2,m3,m4⟩
     ·exact Or.inl k
     ·exact Or.inr ⟨m,by omega,m2,m3,m4⟩
   ·rw[d,pH,j];by_cases e:o=n+1
    ·subst e;rw[zu]at h3;omega
    ·rcases ih.cls o h1 (by omega) h3 with k | ⟨m,m1,m2,m3,m4⟩
     ·exact Or.inl k
     ·exact Or.inr ⟨m,by omega,m2,m3,m4⟩
   ·rw[stk]at hb;unfold qK at hb;rw[zA (by omega),zE h6,zA f]at hb;rcases zd.mp hb with hb | hb
    ·obtain⟨J,O⟩:=Fi h (by omega) f b hb;rw[d,QP _ (by omega) (by omega)];exact ih.FR b J he
    ·rw[yN.mp hb]at he;cases he
  ·by_cases h4:kd ps n=4
   ·have i:=ZA h x (show ¬(kd ps n=0\/kd ps n=1\/kd ps n=2\/kd ps n=3) by omega);have f:stk ps n≠[]:=fun e=>i ((XA ps n).mp e);obtain⟨N,M,L⟩:=z.each _ (Qo i);obtain⟨D,A⟩:=cW h x (Or.inr h4);have j:xu ps (n+1)=(xu ps n).dropLast:=by rw[xu,zA (by omega),zE h4]
    have d:lkn ps (n+1)=(lkn ps n).modify (Z3 (xu ps n)).1 (fun y=>(y.1,(n:Int)+1)):=by
     rw[lkn,Zu,D,zE (by omega),A,zA h6,zE h4];rfl
    refine⟨fun m hm hk=>?_,fun o=>?_,fun o h1 h2 h3=>?_,fun b hb he=>?_⟩
    ·rw[d,gC];have:m≠n:=fun e=>by subst e;omega
     exact ih.aB m (by omega) hk
    ·rw[d,gC];rcases ih.Fx o with k | ⟨m,m1,m2,m3,m4⟩
     ·exact Or.inl k
     ·exact Or.inr ⟨m,by omega,m2,m3,m4⟩
    ·rw[d,j];by_cases e:o=(Z3 (xu ps n)).1
     ·subst e;exact Or.inr ⟨n,by omega,h4,rfl,gD (by omega)⟩
     ·rw[QP _ (by omega) (by omega)];have:o≠n+1:=fun e=>by subst e;rw[zu]at h3;omega
      rcases ih.cls o h1 (by omega) h3 with⟨b,hb,hbo⟩| ⟨m,m1,m2,m3,m4⟩
      ·refine Or.inl ⟨b,?_,hbo⟩;rw[K8 i]at hb;rcases zd.mp hb with hb | hb
       ·exact hb
       ·rw[yN.mp hb]at hbo;exact absurd hbo.symm e
      ·exact Or.inr ⟨m,by omega,m2,m3,m4⟩
    ·rw[stk]at hb;unfold qK at hb;rw[zA (by omega),zA h6,zE h4]at hb;rw[d,gC];exact ih.FR b (vL _ hb) he
   ·have d:lkn ps (n+1)=lkn ps n:=by
     rw[lkn,Zu,KP];have e:((ps[n]?).getD kb).form.kind=kd ps n:=rfl;rw[e,zA h6,zA h4];split <;> rfl
    by_cases h3:kd ps n=3\/kd ps n=5\/kd ps n=7
    ·have j:xu ps (n+1)=xu ps n++[(n+1,kd ps n)]:=by rw[xu,zE h3]
     refine⟨fun m hm hk=>?_,fun o=>?_,fun o h1 h2 h3'=>?_,fun b hb he=>?_⟩
     ·rw[d];have:m≠n:=fun e=>by subst e;omega
      exact ih.aB m (by omega) hk
     ·rw[d];rcases ih.Fx o with k | ⟨m,m1,m2,m3,m4⟩
      ·exact Or.inl k
      ·exact Or.inr ⟨m,by omega,m2,m3,m4⟩
     ·rw[d,j];by_cases e:o=n+1
      ·subst e;exact Or.inl ⟨(n+1,kd ps n),by simp,rfl⟩
      ·rcases ih.cls o h1 (by omega) h3' with⟨b,hb,hbo⟩| ⟨m,m1,m2,m3,m4⟩
       ·exact Or.inl ⟨b,zY _ hb,hbo⟩
       ·exact Or.inr ⟨m,by omega,m2,m3,m4⟩
     ·rw[stk]at hb;unfold qK at hb;rw[zE h3]at hb;rw[d];rcases zd.mp hb with hb | hb
      ·exact ih.FR b hb he
      ·rw[yN.mp hb];rcases ih.Fx (n+1)with k | ⟨m,m1,m2,m3,m4⟩
       ·exact k
       ·exfalso;have i:=ZA h (show m < ps.length by omega) (show ¬(kd ps m=0\/kd ps m=1\/kd ps m=2\/kd ps m=3) by omega);have:=(KJ h m (by omega)).each _ (Qo i);omega
    ·have j:xu ps (n+1)=xu ps n:=by rw[xu,zA h3,zA h4]
     have F:stk ps (n+1)=stk ps n:=by rw[stk];unfold qK;rw[zA h3,zA h6,zA h4]
     refine⟨fun m hm hk=>?_,fun o=>?_,fun o h1 h2 h3'=>?_,fun b hb he=>?_⟩
     ·rw[d];have:m≠n:=fun e=>by subst e;omega
      exact ih.aB m (by omega) hk
     ·rw[d];rcases ih.Fx o with k | ⟨m,m1,m2,m3,m4⟩
      ·exact Or.inl k
      ·exact Or.inr ⟨m,by omega,m2,m3,m4⟩
     ·rw[d,j];by_cases e:o=n+1
      ·subst e;rw[zu]at h3';exact absurd h3' h3
      ·rcases ih.cls o h1 (by omega) h3' with k | ⟨m,m1,m2,m3,m4⟩
       ·exact Or.inl k
       ·exact Or.inr ⟨m,by omega,m2,m3,m4⟩
     ·rw[F]at hb;rw[d];exact ih.FR b hb he
end Rt
section
open Go.RowKit
namespace Rt
theorem ZO (n:Nat) (h:n<=1000):wrap64 (n:Int)=n:=yC _ (by omega)
theorem Cg {ps zL:List PL} (h:Vb ps zL) (d:n < ps.length):vU zL ((n:Int)+1)=ym (stk ps n) ps[n]:=by
 have:=h.ym n ps[n] (zJ d);rw[vU,zA (by omega),show ((n:Int)+1).toNat=n+1 by omega,this];rfl
theorem Qm {ps:List PL} (d:n < ps.length):kd ps n=ps[n].form.kind:=eS (zJ d)
theorem aa {ps zL:List PL} (h:Vb ps zL) (d:n < ps.length):(vU zL ((n:Int)+1)).form=ps[n].form:=by rw[Cg h d,(XH _ _).2]
theorem Jk {ps zL:List PL} (h:Vb ps zL) (d:n < ps.length):(vU zL ((n:Int)+1)).form.kind=kd ps n:=by rw[aa h d,Qm d]
theorem Xp {ps zL:List PL} (h:Vb ps zL) (d:n < ps.length):yA zL ((n:Int)+1)=ps[n].form:=by
 have:=h.ym n ps[n] (zJ d);rw[yA,zA (by omega),show ((n:Int)+1).toNat=n+1 by omega,this];exact(XH _ _).2
theorem nG {ps zL:List PL} (h:Vb ps zL) (i:n < ps.length) (f:xu ps n≠[]):(vU zL ((n:Int)+1)).proc=((Yt (xu ps n)).1:Nat):=by
 have d:stk ps n≠[]:=fun e=>f ((XA ps n).mp e);rw[Cg h i,<-wP];unfold ym;rw[zA d];split <;> rfl
theorem Xw {ps zL:List PL} (h:Vb ps zL) (d:n < ps.length) (f:kd ps n=6\/kd ps n=4):(vU zL ((n:Int)+1)).opener=((Z3 (xu ps n)).1:Nat):=by
 have:=(cW h d f).1;rw[zJ d]at this;rw[Cg h d];exact this
theorem Q5 {ps zL:List PL} (h:Vb ps zL) (o:n < ps.length) (f:xu ps n≠[]):1<=(Z3 (xu ps n)).1/\(Z3 (xu ps n)).1<=n/\kd ps ((Z3 (xu ps n)).1-1)=(Z3 (xu ps n)).2/\((Z3 (xu ps n)).2=3\/(Z3 (xu ps n)).2=5\/(Z3 (xu ps n)).2=7):=by
 have i:=KJ h n (by omega);obtain⟨a,b,c⟩:=i.each _ (Qo f);refine⟨a,b,c,?_⟩;cases hs:xu ps n with
 | nil=>exact absurd hs f
 | cons d q=>
  obtain⟨k,j⟩:=i.head d q hs;have hm:=Qo f;rw[hs]at hm;rcases zw.mp hm with e | hm
  ·exact Or.inl (by rw[e];exact k)
  ·exact Or.inr (j _ hm)
theorem mh {ps zL:List PL} (h:Vb ps zL) (o:e < ps.length) (k:kd ps e=4) (x:(Z3 (xu ps e)).2≠3):xu ps (e+1)≠[]/\Yt (xu ps (e+1))=Yt (xu ps e):=by
 have f:=ZA h o (show ¬(kd ps e=0\/kd ps e=1\/kd ps e=2\/kd ps e=3) by omega);have i:xu ps (e+1)=(xu ps e).dropLast:=by rw[xu,zA (by omega),zE k]
 have d:xu ps (e+1)≠[]:=by
  rw[i];intro y;have j:=K8 f;rw[y,xN]at j;exact x ((KJ h e (by omega)).head _ [] j).1
 exact⟨d,fZ f d⟩
theorem mI {ps zL:List PL} (h:Vb ps zL) (D:∃b∈xu ps n,b.1=o) (A:e < ps.length) (F:kd ps e=4) (G:(Z3 (xu ps e)).1=o):n<=e:=by
 by_cases hlt:n<=e
 ·exact hlt
 ·exfalso;have f:=ZA h A (show ¬(kd ps e=0\/kd ps e=1\/kd ps e=2\/kd ps e=3) by omega);have j:xu ps (e+1)=(xu ps e).dropLast:=by rw[xu,zA (by omega),zE F]
  have z:=(KJ h e (by omega)).inc;rw[K8 f,yB,qE]at z;have y:=(Q5 h A f).2.1;have d:=fF (ps:=ps) (o:=o) (i:=e+1) (by omega) (fun b y=>by
   rw[j]at y;have:=z.2.2 b.1 (xr.mpr ⟨b,y,rfl⟩) (Z3 (xu ps e)).1 (by simp);omega) (n-(e+1))
  rw[show e+1+(n-(e+1))=n by omega]at d;obtain⟨b,x,k⟩:=D;exact d b x k
theorem nZ {ps zL:List PL} (h:Vb ps zL) (x:o < ps.length) (i:kd ps o=3\/kd ps o=5\/kd ps o=7):∃e:Nat,o < e/\e < ps.length/\kd ps e=4/\(Z3 (xu ps e)).1=o+1/\(Z3 (xu ps e)).2=kd ps o/\(jR (vS ps) ((o:Int)+1)).2=(e:Int)+1:=by
 have hl:=uZ h ps.length (zB _);rw[Xx h];rcases hl.cls (o+1) (by omega) (by omega) (by rw[zu];exact i)with⟨b,hb,_⟩| ⟨e,e1,e2,e3,e4⟩
 ·rw[show xu ps ps.length=[]from (XA ps _).mp h.shut]at hb;simp at hb
 ·have d:=ZA h e1 (show ¬(kd ps e=0\/kd ps e=1\/kd ps e=2\/kd ps e=3) by omega);obtain⟨k,j,f,_⟩:=Q5 h e1 d;rw[e3,zu]at f;exact⟨e,by omega,e1,e2,e3,f.symm,by rw[<-e4];rfl⟩
theorem opened {ps:List PL} (d:kd ps o=3\/kd ps o=5\/kd ps o=7):xu ps (o+1)=xu ps o++[(o+1,kd ps o)]:=by rw[xu,zE d]
theorem EV {x:Nat×Int} (h:L≠[]):Yt (L++[x])=Yt L:=by
 cases L with
 | nil=>exact absurd rfl h
 | cons a r=>rfl
theorem JR {ps zL:List PL} (h:Vb ps zL) (k:o < ps.length) (x:kd ps o=5\/kd ps o=7) (z:e < ps.length) (y:(Z3 (xu ps e)).1=o+1) (i:xu ps e≠[]):Yt (xu ps e)=Yt (xu ps o)/\xu ps o≠[]:=by
 have f:=opened (ps:=ps) (o:=o) (Or.inr x);have d:=ZA h k (show ¬(kd ps o=0\/kd ps o=1\/kd ps o=2\/kd ps o=3) by omega);obtain⟨F,D,A,_⟩:=Q5 h z i;have j:=nt (ps:=ps) (o:=o+1) (e-(o+1)) (o+1) (zB _) ⟨(o+1,kd ps o),by rw[f];simp,rfl⟩ ⟨Z3 (xu ps e),by rw[show o+1+(e-(o+1))=e by omega];exact Qo i,y⟩;rw[show o+1+(e-(o+1))=e by omega,f,EV d]at j;exact⟨j,d⟩
theorem Bt {ps zL:List PL} (h:Vb ps zL) (d:n < ps.length) (hs:xV zL (vU zL ((n:Int)+1))=false):xy (kd ps n)=false/\(kd ps n=4->(Z3 (xu ps n)).2≠3):=by
 unfold xV at hs;rw[Jk h d]at hs;cases hsk:xy (kd ps n)with
 | true=>rw[hsk,zE rfl]at hs;cases hs
 | false=>
  refine⟨rfl,fun h4 e=>?_⟩;have f:=ZA h d (show ¬(kd ps n=0\/kd ps n=1\/kd ps n=2\/kd ps n=3) by omega);obtain⟨o,k,j,_⟩:=Q5 h d f;rw[hsk,zA (by simp),zE h4,Xw h d (Or.inr h4)]at hs;have i:=Xp h (n:=(Z3 (xu ps n)).1-1) (by omega);rw[show (((Z3 (xu ps n)).1-1:Nat):Int)+1=((Z3 (xu ps n)).1:Nat) by omega]at i;rw[i,<-Qm,j,e]at hs;simp at hs
theorem uj {ps zL:List PL} (h:Vb ps zL) (I:ps.length<=100):∀(f n:Nat),n<=ps.length->ps.length < f+n->xu ps n≠[]->∃l:Nat,goOn zL (vS ps) f ((n:Int)+1)=(l:Int)+1/\l < ps.length/\xV zL (vU zL ((l:Int)+1))=true/\xu ps l≠[]/\Yt (xu ps l)=Yt (xu ps n)
 | 0,n,hn,hf,_=>by omega
 | f+1,n,hn,hf,hne=>by
  have d:n < ps.length:=by
   by_cases e:n=ps.length
   ·rw[e]at hne;exact absurd ((XA ps _).mp h.shut) hne
   ·omega
  rw[goOn,zE (by rw[h.len];omega)];by_cases hs:xV zL (vU zL ((n:Int)+1))=true
  ·rw[zE hs];exact⟨n,rfl,d,hs,hne,rfl⟩
  ·rw[zA hs,Jk h d];obtain⟨s1,U⟩:=Bt h d (by simpa using hs);by_cases h4:kd ps n=4
   ·obtain⟨Z,W,i,V⟩:=Q5 h d hne;rw[Xw h d (Or.inr h4)];have F:=Xp h (n:=(Z3 (xu ps n)).1-1) (by omega);rw[show (((Z3 (xu ps n)).1-1:Nat):Int)+1=((Z3 (xu ps n)).1:Nat) by omega]at F;rw[F,<-Qm,i];by_cases h7:(Z3 (xu ps n)).2=7
    ·rw[zE ⟨h4,h7⟩];obtain⟨N,b2⟩:=JR h (o:=(Z3 (xu ps n)).1-1) (e:=n) (by omega) (Or.inr (by rw[i,h7])) d (by omega) hne;refine⟨(Z3 (xu ps n)).1-1,by omega,by omega,?_,b2,N.symm⟩;unfold xV;rw[Jk h (by omega),i,h7];rfl
    ·rw[zA (fun e=>h7 e.2),zA (by omega)];obtain⟨M,L⟩:=mh h d h4 (U h4);rw[show wrap64 ((n:Int)+1+1)=((n+1:Nat):Int)+1 by have:=ZO (n+2) (by omega);rw[show ((n:Int)+1+1)=((n+2:Nat):Int) by omega,this];omega];obtain⟨l,z,y,x,k,j⟩:=uj h I f (n+1) (by omega) (by omega) M;exact⟨l,z,y,x,k,j.trans L⟩
   ·rw[zA (fun e=>h4 e.1)];by_cases h6:kd ps n=6
    ·rw[zE h6,Xw h d (Or.inl h6)];obtain⟨Z,W,i,V⟩:=Q5 h d hne;have G:=(nf h d h6).1;obtain⟨e,e1,H,T,e4,e5,R⟩:=nZ h (o:=(Z3 (xu ps n)).1-1) (by omega) (by rw[i,G];exact Or.inr (Or.inl rfl));rw[show (((Z3 (xu ps n)).1-1:Nat):Int)+1=((Z3 (xu ps n)).1:Nat) by omega]at R;rw[R,show wrap64 ((e:Int)+1+1)=((e+1:Nat):Int)+1 by have:=ZO (e+2) (by omega);rw[show ((e:Int)+1+1)=((e+2:Nat):Int) by omega,this];omega];have J:(Z3 (xu ps e)).1=(Z3 (xu ps n)).1:=by omega
     have a0:=mI h ⟨Z3 (xu ps n),Qo hne,rfl⟩ H T J;have D:=ZA h H (show ¬(kd ps e=0\/kd ps e=1\/kd ps e=2\/kd ps e=3) by omega);obtain⟨M,L⟩:=mh h H T (by rw[e5,i,G];decide);obtain⟨N,_⟩:=JR h (o:=(Z3 (xu ps n)).1-1) (e:=n) (by omega) (Or.inl (by rw[i,G])) d (by omega) hne;obtain⟨d1,_⟩:=JR h (o:=(Z3 (xu ps n)).1-1) (e:=e) (by omega) (Or.inl (by rw[i,G])) H (by omega) D;obtain⟨l,z,y,x,k,j⟩:=uj h I f (e+1) (by omega) (by omega) M;exact⟨l,z,y,x,k,j.trans (L.trans (d1.trans N.symm))⟩
    ·rw[zA h6];have O:¬(kd ps n=1\/kd ps n=2\/kd ps n=3):=fun e=>hne (eg h d e);have a1:¬kd ps n=5/\¬kd ps n=7:=by
      constructor
      ·intro e;rw[e]at s1;cases s1
      ·intro e;rw[e]at s1;cases s1
     have A:xu ps (n+1)=xu ps n:=by rw[xu,zA (by omega),zA h4]
     rw[show wrap64 ((n:Int)+1+1)=((n+1:Nat):Int)+1 by have:=ZO (n+2) (by omega);rw[show ((n:Int)+1+1)=((n+2:Nat):Int) by omega,this];omega];obtain⟨l,z,y,x,k,j⟩:=uj h I f (n+1) (by omega) (by omega) (by rw[A];exact hne);exact⟨l,z,y,x,k,by rw[j,A]⟩
theorem CP {ps zL:List PL} (h:Vb ps zL) (I:ps.length<=100) (k:n < ps.length) (o:kd ps n=5\/kd ps n=7):∃j:Nat,ky (vS ps) ((n:Int)+1)=((j+1:Nat):Int)+1/\n < j/\j < ps.length/\xu ps (j+1)≠[]/\Yt (xu ps (j+1))=Yt (xu ps n):=by
 have hlk:=uZ h ps.length (zB _);unfold ky;rcases hlk.Fx (n+1)with h0 | ⟨m,m1,m2,m3,m4⟩
 ·rw[<-Xx h,show ((n+1:Nat):Int)=(n:Int)+1 by omega]at h0;rw[h0,zA (by omega)];obtain⟨e,F,i,D,A,z,y⟩:=nZ h k (Or.inr o);have d:=ZA h i (show ¬(kd ps e=0\/kd ps e=1\/kd ps e=2\/kd ps e=3) by omega);obtain⟨H,G⟩:=mh h i D (by rw[z];omega);obtain⟨x,_⟩:=JR h k o i A d;refine⟨e,?_,F,i,H,G.trans x⟩;rw[y];have:=ZO (e+2) (by omega);rw[show ((e:Int)+1+1)=((e+2:Nat):Int) by omega,this];omega
 ·rw[<-Xx h,show ((n+1:Nat):Int)=(n:Int)+1 by omega]at m4;rw[m4,zE (by omega)];have d:=ZA h m1 (show ¬(kd ps m=0\/kd ps m=1\/kd ps m=2\/kd ps m=3) by omega);have f:xu ps (m+1)=xu ps m:=by rw[xu,zA (by omega),zA (by omega)]
  obtain⟨x,_⟩:=JR h k o m1 m3 d;have:=(Q5 h m1 d).2.1;refine⟨m,?_,by omega,m1,by rw[f];exact d,by rw[f];exact x⟩;have:=ZO (m+2) (by omega);rw[show ((m:Int)+1+1)=((m+2:Nat):Int) by omega,this];omega
end Rt
end
end Go.Proofs.YthleadfkfnnadaaGreat
