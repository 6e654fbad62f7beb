/- The document's answer on expressions is the grammar. -/
import Derived.Test.YthleadfkfnnadaaGreatPlainb
set_option maxHeartbeats 4000000
set_option maxRecDepth 100000
set_option linter.unusedSimpArgs false
namespace Go.Proofs.YthleadfkfnnadaaGreat
open Rf
variable {o x l r:ByteArray} {q p sg t u:List ByteArray} {i j k f:Nat} {b:UInt8}
namespace Rf
def QM:ByteArray:=⟨#[45]⟩
def aZ:ByteArray:=⟨#[40]⟩
def dS:ByteArray:=⟨#[41]⟩
def qI:ByteArray:=⟨#[91]⟩
def kM:ByteArray:=⟨#[93]⟩
inductive Is:Nat->List ByteArray->Prop
 | num (x:ByteArray):xi x=true->Is 3 [x]
 | br (x:ByteArray):yg x=true->Is 3 [x]
 | neg (p:List ByteArray):Is 3 p->Is 3 (QM::p)
 | par (p:List ByteArray):Is 0 p->Is 3 (aZ::(p++[dS]))
 | rE (x:ByteArray) (p:List ByteArray):yg x=true->Is 0 p->Is 3 (x::qI::(p++[kM]))
 | t1 (p:List ByteArray):Is 3 p->Is 2 p
 | t2 (p:List ByteArray) (o:ByteArray) (q:List ByteArray):Is 2 p->kp vJ o=true->Is 3 q->Is 2 (p++o::q)
 | s1 (p:List ByteArray):Is 2 p->Is 1 p
 | s2 (p:List ByteArray) (o:ByteArray) (q:List ByteArray):Is 1 p->kp kL o=true->Is 2 q->Is 1 (p++o::q)
 | e1 (p:List ByteArray):Is 1 p->Is 0 p
 | e2 (p:List ByteArray) (o:ByteArray) (q:List ByteArray):Is 1 p->kp kF o=true->Is 1 q->Is 0 (p++o::q)
theorem JO (h:kp vJ o=true):o=⟨#[42]⟩\/o=⟨#[47]⟩\/o=⟨#[37]⟩:=by
 simp[kp,vJ]at h;rcases h with h | h | h <;> simp[<-h]
theorem JT (h:kp kL o=true):o=⟨#[43]⟩\/o=⟨#[45]⟩:=by
 simp[kp,kL]at h;rcases h with h | h <;> simp[<-h]
theorem VD (h:kp kF o=true):o=⟨#[60]⟩\/o=⟨#[61]⟩:=by
 simp[kp,kF]at h;rcases h with h | h <;> simp[<-h]
structure Bd (o:ByteArray):Prop where
 J9:J9 o=0
 opd:KX o=false
theorem eP (b:UInt8) (h:b∈[42,47,37,43,45,60,61]):Bd ⟨#[b]⟩:=by
 have e:∀l:List UInt8,((⟨#[b]⟩:ByteArray).toList==l)=([b]==l):=fun l=>by rw[show (⟨#[b]⟩:ByteArray).toList=[b]from Zw [b]]
 have d:Rt.qC ⟨#[b]⟩ 0=(b.toNat:Int):=by rw[Rt.jB (by show 0 < 1;decide)];rfl
 constructor
 ·simp only[J9,e];simp at h;rcases h with rfl | rfl | rfl | rfl | rfl | rfl | rfl <;> decide
 ·simp only[KX,yg,xi,d,e];simp at h;rcases h with rfl | rfl | rfl | rfl | rfl | rfl | rfl <;> simp[qt,jo]
theorem ay (h:kp vJ o=true):Bd o:=by
 rcases JO h with rfl | rfl | rfl <;> exact eP _ (by decide)
theorem ba (h:kp kL o=true):Bd o:=by
 rcases JT h with rfl | rfl <;> exact eP _ (by decide)
theorem eb (h:kp kF o=true):Bd o:=by
 rcases VD h with rfl | rfl <;> exact eP _ (by decide)
theorem Kl:J9 ⟨#[b]⟩=if b=40 then 1 else if b=91 then 1 else if b=41 then -1 else if b=93 then -1 else 0:=by
 simp[J9]
theorem JS {a b:List ByteArray} (h:i < a.length):ve (a++b) i=ve a i:=by
 simp[ve,yp h]
theorem Za (a b:List ByteArray) (j:Nat):ve (a++b) (a.length+j)=ve b j:=by
 simp[ve,yU]
theorem at_one:ve [x] 0=x:=rfl
theorem YO (a b:List ByteArray):∀i,i<=a.length->depth (a++b) i=depth a i
 | 0,_=>rfl
 | i+1,h=>by rw[depth,depth,YO a b i (by omega),JS (by omega)]
theorem vi (a b:List ByteArray):∀j,depth (a++b) (a.length+j)=depth a a.length+depth b j
 | 0=>by rw[qO,YO a b _ (zB _)];simp[depth]
 | j+1=>by rw[<-vN,depth,depth,vi a b j,Za];omega
theorem VC:depth [x] 1=J9 x:=by simp[depth,ve]
structure eH (p:List ByteArray):Prop where
 ne:0 < p.length
 zero:depth p p.length=0
 nn:∀i,i<=p.length->0<=depth p i
 fin:KX (ve p (p.length-1))=true
theorem jq:depth (x::q) (j+1)=J9 x+depth q j:=by
 have:=vi [x] q j;rw[ZB,yl,VC]at this;rw[Xs j 1,this]
theorem vK (x:ByteArray) (q:List ByteArray) (j:Nat):ve (x::q) (j+1)=ve q j:=by simp[ve]
theorem VF:ve (x::q) 0=x:=rfl
theorem eH.app (f:eH p) (d:eH q) (x:Bd o):eH (p++o::q):=by
 have k:(p++o::q).length=p.length+(q.length+1):=by simp
 refine⟨by rw[k];omega,?_,fun i hi=>?_,?_⟩
 ·rw[k,vi,jq,f.zero,x.J9,d.zero];rfl
 ·by_cases h:i<=p.length
  ·rw[YO p _ i h];exact f.nn i h
  ·obtain⟨j,rfl⟩:∃j,i=p.length+(j+1):=⟨i-p.length-1,by omega⟩;rw[vi,jq,f.zero,x.J9];have:=d.nn j (by omega);omega
 ·have y:=d.ne;rw[k,show p.length+(q.length+1)-1=p.length+((q.length-1)+1) by omega,Za,vK];exact d.fin
theorem eH.neg (d:eH p):eH (QM::p):=by
 have h:=d.ne;have f:J9 QM=0:=by rw[QM,Kl];decide
 refine⟨by simp,?_,fun i hi=>?_,?_⟩
 ·rw[yE,jq,d.zero,f];rfl
 ·cases i with
  | zero=>simp[depth]
  | succ j=>
   rw[jq,f];have:=d.nn j (by simpa using hi);omega
 ·rw[yE,show p.length+1-1=(p.length-1)+1 by omega,vK];exact d.fin
theorem V5 (l r:ByteArray) (p:List ByteArray) (j:Nat) (h:j<=p.length):depth (l::(p++[r])) (j+1)=J9 l+depth p j:=by
 rw[jq,YO p _ j h]
theorem Ki (l r:ByteArray) (p:List ByteArray):depth (l::(p++[r])) (p.length+2)=J9 l+depth p p.length+J9 r:=by
 have:=vi p [r] 1;rw[VC]at this;rw[show p.length+2=(p.length+1)+1 by omega,jq,this];omega
theorem lS (h:b=41\/b=93):KX ⟨#[b]⟩=true:=by
 have e:∀l:List UInt8,((⟨#[b]⟩:ByteArray).toList==l)=([b]==l):=fun l=>by rw[show (⟨#[b]⟩:ByteArray).toList=[b]from Zw [b]]
 simp only[KX,e];rcases h with rfl | rfl <;> simp
theorem eH.wrap (d:eH p) (f:J9 l=1) (k:J9 r=-1) (o:KX r=true):eH (l::(p++[r])):=by
 refine⟨by simp,?_,fun i hi=>?_,?_⟩
 ·rw[show (l::(p++[r])).length=p.length+2 by simp,Ki,d.zero,f,k];rfl
 ·cases i with
  | zero=>simp[depth]
  | succ j=>
   by_cases h:j<=p.length
   ·rw[V5 l r p j h,f];have:=d.nn j h;omega
   ·have:j+1=p.length+2:=by simp at hi;omega
    rw[this,Ki,d.zero,f,k];decide
 ·rw[show (l::(p++[r])).length-1=p.length+1 by simp,vK,show p.length=p.length+0 from rfl,Za];exact o
theorem eH.one (h:KX x=true) (d:J9 x=0):eH [x]:=by
 refine⟨by simp,by rw[yl,VC,d],fun i hi=>?_,h⟩
 match i with
 | 0=>simp[depth]
 | 1=>rw[VC,d];decide
 | i+2=>simp at hi
theorem gi (h:yg x=true\/xi x=true):J9 x=0:=by
 have d:qt (Rt.qC x 0)=true\/jo (Rt.qC x 0)=true:=by
  rcases h with h | h
  ·simp[yg]at h;exact Or.inl h.1.2
  ·simp[xi]at h;exact Or.inr h.2
 have e:∀b:UInt8,b∈[40,41,91,93]->¬x=⟨#[b]⟩:=by
  rintro b hm rfl;rw[Rt.jB (by show 0 < 1;decide)]at d;change qt (b.toNat:Int)=true\/jo (b.toNat:Int)=true at d;simp at hm;rcases hm with rfl | rfl | rfl | rfl <;> simp[qt,jo]at d
 have k:=e 40 (by decide);have j:=e 41 (by decide);have i:=e 91 (by decide);have f:=e 93 (by decide);simp[J9,Rt.ZF,k,j,i,f]
theorem CR (h:yg x=true\/xi x=true):KX x=true:=by
 rcases h with h | h <;> simp[KX,h]
theorem rK (h:yg x=true\/xi x=true):eH [x]:=eH.one (CR h) (gi h)
theorem eH.rE (k:eH p) (h:yg x=true):eH (x::qI::(p++[kM])):=by
 have d:eH (qI::(p++[kM])):=k.wrap (by rw[qI,Kl];decide) (by rw[kM,Kl];decide) (lS (Or.inr rfl));have f:=gi (Or.inl h);have o:=d.ne;refine⟨by simp,?_,fun i hi=>?_,?_⟩
 ·rw[yE,jq,f,d.zero];rfl
 ·cases i with
  | zero=>simp[depth]
  | succ j=>
   rw[jq,f];have:=d.nn j (by simpa using hi);omega
 ·rw[yE,show (qI::(p++[kM])).length+1-1=((qI::(p++[kM])).length-1)+1 by omega,vK];exact d.fin
theorem kh (h:Is k p):eH p:=by
 induction h with
 | num x h=>exact rK (Or.inr h)
 | br x h=>exact rK (Or.inl h)
 | neg p _ ih=>exact ih.neg
 | par p _ ih=>exact ih.wrap (by rw[aZ,Kl];decide) (by rw[dS,Kl];decide) (lS (Or.inl rfl))
 | rE x p hx _ ih=>exact ih.rE hx
 | t1 p _ ih=>exact ih
 | t2 p o q _ ho _ ih1 ih2=>exact ih1.app ih2 (ay ho)
 | s1 p _ ih=>exact ih
 | s2 p o q _ ho _ ih1 ih2=>exact ih1.app ih2 (ba ho)
 | e1 p _ ih=>exact ih
 | e2 p o q _ ho _ ih1 ih2=>exact ih1.app ih2 (eb ho)
def cond (sg t:List ByteArray) (i:Nat):Prop:=kp sg (ve t i)=true/\depth t (i+1)=0/\0 < i/\KX (ve t (i-1))=true
theorem dg {sg t:List ByteArray}:∀n,(∀i,i < n->¬cond sg t i)->kQ sg t n=-1
 | 0,_=>rfl
 | n+1,h=>by
  have d:=h n (by omega);unfold cond at d;rw[kQ,zA d];exact dg n (fun i hi=>h i (by omega))
theorem de {sg t:List ByteArray} {k:Nat} (d:cond sg t k):∀n,k < n->(∀i,k < i->i < n->¬cond sg t i)->kQ sg t n=k
 | 0,h,_=>by omega
 | n+1,h,h'=>by
  by_cases e:k=n
  ·subst e;unfold cond at d;rw[kQ,zE d]
  ·have f:=h' n (by omega) (by omega);unfold cond at f;rw[kQ,zA f];exact de d n (by omega) (fun i h1 h2=>h' i h1 (by omega))
def bp (sg p:List ByteArray):Prop:=∀i,i < p.length->¬cond sg p i
theorem bp.last {sg p:List ByteArray} (h:bp sg p):last sg p=-1:=dg _ h
theorem BI (d:i < p.length):cond sg (p++o::q) i↔cond sg p i:=by
 unfold cond;rw[JS d,YO p _ (i+1) (by omega),JS (by omega)]
theorem gk (f:depth p p.length=0) (d:Bd o):cond sg (p++o::q) (p.length+(j+1))↔cond sg q j:=by
 unfold cond;rw[Za,vK,show p.length+(j+1)+1=p.length+((j+1)+1) by omega,vi,jq,f,d.J9,show p.length+(j+1)-1=p.length+j by omega,Za];cases j with
 | zero=>rw[VF,d.opd];simp
 | succ j=>rw[vK];simp;omega
theorem pd (f:eH p) (k:Bd o) (h:kp sg o=false) (z:bp sg p) (y:bp sg q):bp sg (p++o::q):=by
 intro i x;by_cases hl:i < p.length
 ·rw[BI hl];exact z i hl
 ·by_cases he:i=p.length
  ·subst he;rintro ⟨d,_⟩;rw[show p.length=p.length+0 from rfl,Za,VF,h]at d;cases d
  ·obtain⟨j,rfl⟩:∃j,i=p.length+(j+1):=⟨i-p.length-1,by omega⟩;rw[gk f.zero k];exact y j (by simp at x;omega)
theorem JL (d:eH p) (f:Bd o) (h:kp sg o=true) (k:bp sg q):last sg (p++o::q)=p.length:=by
 refine de ?_ _ (by simp) (fun i h3 h4=>?_)
 ·refine⟨?_,?_,d.ne,?_⟩
  ·rw[show p.length=p.length+0 from rfl,Za,VF];exact h
  ·rw[vi p _ 1,d.zero,show (1:Nat)=0+1 from rfl,jq,f.J9];rfl
  ·have:=d.ne;rw[JS (by omega)];exact d.fin
 ·obtain⟨j,rfl⟩:∃j,i=p.length+(j+1):=⟨i-p.length-1,by omega⟩;rw[gk d.zero f];exact k j (by simp at h4;omega)
theorem DB (h:bp sg p):bp sg (QM::p):=by
 intro i k;have d:Bd QM:=eP 45 (by decide);rintro ⟨f,o,x,c4⟩;obtain⟨j,rfl⟩:∃j,i=j+1:=⟨i-1,by omega⟩;rw[vK]at f;rw[jq,d.J9]at o;rw[zu]at c4;cases j with
 | zero=>rw[VF,d.opd]at c4;cases c4
 | succ j=>
  rw[vK]at c4;exact h (j+1) (by simpa using k) ⟨f,by omega,by omega,c4⟩
theorem A4 (f:eH p) (h:J9 l=1) (d:kp sg r=false):bp sg (l::(p++[r])):=by
 intro i k;rintro ⟨c1,o,y,x⟩;obtain⟨j,rfl⟩:∃j,i=j+1:=⟨i-1,by omega⟩;by_cases hj:j < p.length
 ·rw[V5 l r p (j+1) (by omega),h]at o;have:=f.nn (j+1) (by omega);omega
 ·have:j=p.length:=by simp at k;omega
  subst this;rw[vK,show p.length=p.length+0 from rfl,Za,at_one,d]at c1;cases c1
theorem DC (o:eH p) (h:J9 x=0) (y:J9 l=1) (d:kp sg l=false) (k:kp sg r=false):bp sg (x::l::(p++[r])):=by
 intro i z;rintro ⟨c1,f,D,A⟩;obtain⟨j,rfl⟩:∃j,i=j+1:=⟨i-1,by omega⟩;rw[vK]at c1;rw[jq,h]at f;cases j with
 | zero=>rw[VF,d]at c1;cases c1
 | succ j=>
  by_cases hj:j < p.length
  ·rw[V5 l r p (j+1) (by omega),y]at f;have:=o.nn (j+1) (by omega);omega
  ·have:j=p.length:=by simp at z;omega
   subst this;rw[vK,show p.length=p.length+0 from rfl,Za,at_one,k]at c1;cases c1
theorem pZ (x:ByteArray):bp sg [x]:=by
 intro i d;rintro ⟨_,_,f,_⟩;simp at d;omega
theorem C6 (d:List ByteArray) (h:d=vJ\/d=kL\/d=kF):kp d dS=false/\kp d kM=false/\kp d qI=false:=by
 rcases h with rfl | rfl | rfl <;> simp[kp,vJ,kL,kF,dS,kM,qI]
theorem vh (h:Is k p) (d:List ByteArray) (o:d=vJ\/d=kL\/d=kF):k=3->bp d p:=by
 obtain⟨j,i,f⟩:=C6 d o
 induction h with
 | num x h=>intro _;exact pZ x
 | br x h=>intro _;exact pZ x
 | neg p _ ih=>intro _;exact DB (ih rfl)
 | par p hp _=>intro _;exact A4 (kh hp) (by rw[aZ,Kl];decide) j
 | rE x p hx hp _=>intro _;exact DC (kh hp) (gi (Or.inl hx)) (by rw[qI,Kl];decide) f i
 | _=>intro h;omega
theorem fj (h:kp vJ o=true):kp kL o=false/\kp kF o=false:=by
 rcases JO h with rfl | rfl | rfl <;> simp[kp,kL,kF]
theorem se (h:kp kL o=true):kp kF o=false:=by
 rcases JT h with rfl | rfl <;> simp[kp,kF]
theorem Yy (h:Is k p) (d:List ByteArray) (hs:d=kL\/d=kF):k=2->bp d p:=by
 induction h with
 | t1 p hp _=>intro _;exact vh hp d (Or.inr hs) rfl
 | t2 p o q hp ho hq ih1 _=>intro _;exact pd (kh hp) (ay ho) (by rcases hs with rfl | rfl;exact(fj ho).1;exact(fj ho).2) (ih1 rfl) (vh hq d (Or.inr hs) rfl)
 | _=>intro h;omega
theorem aj (h:Is k p):k=1->bp kF p:=by
 induction h with
 | s1 p hp _=>intro _;exact Yy hp kF (Or.inr rfl) rfl
 | s2 p o q hp ho hq ih1 _=>intro _;exact pd (kh hp) (ba ho) (se ho) (ih1 rfl) (Yy hq kF (Or.inr rfl) rfl)
 | _=>intro h;omega
theorem nR (h:5*u.length+4<=f):gr f 1 u=J1 u:=vy _ _ _ _ (by omega) (by omega) (by omega)
theorem nQ (h:5*u.length+3<=f):gr f 2 u=isTerm u:=vy _ _ _ _ (by omega) (by omega) (by omega)
theorem cz (h:5*u.length+2<=f):gr f 3 u=vI u:=vy _ _ _ _ (by omega) (by omega) (by omega)
theorem uh (h:5*u.length+5<=f):gr f 0 u=qX u:=vy _ _ _ _ (by omega) (by omega) (by omega)
theorem Em (h:5*u.length+1<=f):gr f 4 u=Jp u:=vy _ _ _ _ (by omega) (by omega) (by omega)
theorem Ep (h:last kF t=-1):qX t=J1 t:=by
 show Qa (gr (5*t.length+4) 1) t=_;rw[aq h];exact nR (zB _)
theorem Er (h:last kF t=k):qX t=(J1 (t.take k) && J1 (t.drop (k+1))):=by
 show Qa (gr (5*t.length+4) 1) t=_;rw[ar rfl h,nR (by simp;omega),nR (by simp;omega)]
theorem FW (h:last kL t=-1):J1 t=isTerm t:=by
 show Vk (gr (5*t.length+3) 1) (gr (5*t.length+3) 2) t=_;rw[eL h];exact nQ (zB _)
theorem FX (h:last kL t=k) (d:k < t.length):J1 t=(J1 (t.take k) && isTerm (t.drop (k+1))):=by
 show Vk (gr (5*t.length+3) 1) (gr (5*t.length+3) 2) t=_;rw[eM h,nR (by simp;omega),nQ (by simp;omega)]
theorem D6 (h:last vJ t=-1):isTerm t=vI t:=by
 show X8 (gr (5*t.length+2) 2) (gr (5*t.length+2) 3) t=_;rw[aF h];exact cz (zB _)
theorem D7 (h:last vJ t=k) (d:k < t.length):isTerm t=(isTerm (t.take k) && vI (t.drop (k+1))):=by
 show X8 (gr (5*t.length+2) 2) (gr (5*t.length+2) 3) t=_;rw[aG h,nQ (by simp;omega),cz (by simp;omega)]
theorem VB:vI t=kR vI qX Jp t:=by
 show kR (gr (5*t.length+1) 3) (gr (5*t.length+1) 0) (gr (5*t.length+1) 4) t=_;exact gX (fun h=>cz (by simp;omega)) (fun h=>uh (by simp;omega)) (Em (zB _))
theorem Ew:Jp t=kX qX t:=by
 show kX (gr (5*t.length) 0) t=_;exact rD (fun h=>uh (by simp;omega))
theorem tA (b:UInt8):((⟨#[b]⟩:ByteArray).toList==[b])=true:=by simp
theorem gV (h:yg x=true\/xi x=true):vI [x]=true:=by
 rw[VB,kR,zA (by simp),zE (by simp)];show (yg x || xi x)=true;rcases h with h | h <;> simp[h]
theorem tW (d:0 < p.length):vI (QM::p)=vI p:=by
 rw[VB,kR,zA (by simp),zA (by simp;intro h;simp[h]at d),zE (show ((first (QM::p)).toList==[45])=true from tA 45)];rfl
theorem wO (l r:ByteArray) (p:List ByteArray):((l::(p++[r])).take ((l::(p++[r])).length-1)).drop 1=p:=by
 simp
theorem V7 (a b:List ByteArray):ve (a++b) a.length=ve b 0:=Za a b 0
theorem tU:final (l::(p++[r]))=r:=by
 rw[final,show (l::(p++[r])).length-1=p.length+1 by simp,vK,V7];rfl
theorem tV:vI (aZ::(p++[dS]))=qX p:=by
 rw[VB,kR,zA (by simp),zA (by simp),zA (by show ¬((⟨#[40]⟩:ByteArray).toList==[45])=true;simp),zE ⟨show ((first (aZ::(p++[dS]))).toList==[40])=true from tA 40,by rw[tU];exact tA 41⟩,wO]
theorem mY (h:yg x=true\/xi x=true) (b:UInt8) (f:qt (b.toNat:Int)=false) (d:jo (b.toNat:Int)=false):(x.toList==[b])=false:=by
 rw[Rt.ZF,kH];rintro rfl;have e:Rt.qC ⟨#[b]⟩ 0=(b.toNat:Int):=by rw[Rt.jB (by show 0 < 1;decide)];rfl
 change yg ⟨#[b]⟩=true\/xi ⟨#[b]⟩=true at h;rcases h with h | h
 ·simp[yg,e,f]at h
 ·simp[xi,e,d]at h
theorem hJ (o:0 < p.length) (d:yg x=true):Jp (x::qI::(p++[kM]))=qX p:=by
 have i:(x::qI::(p++[kM])).length=p.length+3:=by simp
 have j:final (x::qI::(p++[kM]))=kM:=by
  rw[final,i,show p.length+3-1=p.length+1+1 by omega,vK,vK,V7];rfl
 have f:((x::qI::(p++[kM])).take ((x::qI::(p++[kM])).length-1)).drop 2=p:=by simp
 have k:¬((x::qI::(p++[kM])).length < 4\/((ve (x::qI::(p++[kM])) 1).toList==[91])=false\/((final (x::qI::(p++[kM]))).toList==[93])=false):=by
  rintro (h | h | h)
  ·omega
  ·change ((⟨#[91]⟩:ByteArray).toList==[91])=false at h;simp at h
  ·rw[j]at h;change ((⟨#[93]⟩:ByteArray).toList==[93])=false at h;simp at h
 rw[Ew,kX,zA k,f];show (yg x && qX p)=_;rw[d];rfl
theorem tX (f:0 < p.length) (d:yg x=true):vI (x::qI::(p++[kM]))=qX p:=by
 have i:(x::qI::(p++[kM])).length=p.length+3:=by simp
 rw[VB,kR,zA (by omega),zA (by omega),zA (by show ¬(x.toList==[45])=true;rw[mY (Or.inl d) 45 (by decide) (by decide)];simp),zA,hJ f d];rintro ⟨h,_⟩;change (x.toList==[40])=true at h;rw[mY (Or.inl d) 40 (by decide) (by decide)]at h;cases h
theorem Kc (h:Is k p):(k=3->vI p=true)/\(2<=k->isTerm p=true)/\(1<=k->J1 p=true)/\qX p=true:=by
 have j:∀{q},Is 3 q->vI q=true->isTerm q=true:=fun h h'=>by rw[D6 (vh h _ (Or.inl rfl) rfl).last];exact h'
 have i:∀{q},Is 2 q->isTerm q=true->J1 q=true:=fun h h'=>by rw[FW (Yy h _ (Or.inl rfl) rfl).last];exact h'
 have f:∀{q},Is 1 q->J1 q=true->qX q=true:=fun h h'=>by rw[Ep (aj h rfl).last];exact h'
 have d:∀{q},Is 3 q->vI q=true->(3=3->vI q=true)/\(2<=3->isTerm q=true)/\(1<=3->J1 q=true)/\qX q=true:=fun h h'=>
  have a:=j h h';have b:=i (.t1 _ h) a
  ⟨fun _=>h',fun _=>a,fun _=>b,f (.s1 _ (.t1 _ h)) b⟩
 induction h with
 | num x h=>exact d (.num x h) (gV (Or.inr h))
 | br x h=>exact d (.br x h) (gV (Or.inl h))
 | neg p hp ih=>exact d (.neg p hp) (by rw[tW (kh hp).ne];exact ih.1 rfl)
 | par p hp ih=>exact d (.par p hp) (by rw[tV];exact ih.2.2.2)
 | rE x p hx hp ih=>exact d (.rE x p hx hp) (by rw[tX (kh hp).ne hx];exact ih.2.2.2)
 | t1 p hp ih=>exact⟨by omega,fun _=>ih.2.1 (by omega),fun _=>ih.2.2.1 (by omega),ih.2.2.2⟩
 | t2 p o q hp ho hq ih1 ih2=>
  have h:Is 2 (p++o::q):=.t2 p o q hp ho hq;have a:isTerm (p++o::q)=true:=by
   rw[D7 (JL (kh hp) (ay ho) ho (vh hq _ (Or.inl rfl) rfl)) (by simp)];simp[ih1.2.1 (by omega),ih2.1 rfl]
  have b:=i h a;exact⟨by omega,fun _=>a,fun _=>b,f (.s1 _ h) b⟩
 | s1 p hp ih=>exact⟨by omega,by omega,fun _=>ih.2.2.1 (by omega),ih.2.2.2⟩
 | s2 p o q hp ho hq ih1 ih2=>
  have h:Is 1 (p++o::q):=.s2 p o q hp ho hq;have b:J1 (p++o::q)=true:=by
   rw[FX (JL (kh hp) (ba ho) ho (Yy hq _ (Or.inl rfl) rfl)) (by simp)];simp[ih1.2.2.1 (by omega),ih2.2.1 (by omega)]
  exact⟨by omega,by omega,fun _=>b,f h b⟩
 | e1 p hp ih=>exact⟨by omega,by omega,by omega,ih.2.2.2⟩
 | e2 p o q hp ho hq ih1 ih2=>
  refine⟨by omega,by omega,by omega,?_⟩;rw[Er (JL (kh hp) (eb ho) ho (aj hq rfl))];simp[ih1.2.2.1 (by omega),ih2.2.2.1 (by omega)]
theorem nL (h:last sg t=k):k < t.length/\kp sg (ve t k)=true:=by
 have d:∀n,kQ sg t n=k->k < n/\kp sg (ve t k)=true:=by
  intro n
  induction n with
  | zero=>intro h;simp[kQ]at h
  | succ n ih=>
   intro h;rw[kQ]at h;split at h
   ·rename_i hc;have:n=k:=by omega
    subst this;exact⟨by omega,hc.1⟩
   ·have:=ih h;exact⟨by omega,this.2⟩
 exact d _ h
theorem mf (h:k < t.length):t.take k++ve t k::t.drop (k+1)=t:=by
 rw[qq h,<-zZ h,kt]
theorem YE (h:(x.toList==[b])=true):x=⟨#[b]⟩:=by
 rw[Rt.ZF]at h;simpa using h
theorem uE (h:2<=t.length):first t::((t.take (t.length-1)).drop 1++[final t])=t:=by
 rw[first,final,qq (show 0 < t.length by omega),qq (show t.length-1 < t.length by omega)];apply qw
 ·simp;omega
 ·intro i f d;cases i with
  | zero=>simp
  | succ i=>
   simp only[yH];by_cases hi:i < ((t.take (t.length-1)).drop 1).length
   ·rw[xI hi];simp
   ·rw[xm (by omega)];simp at hi d ⊢;congr 1;omega
theorem ke:∀(f r:Nat) (t:List ByteArray),gr f r t=true->(r<=3->Is r t)/\(r=4->∃x p,t=x::qI::(p++[kM])/\yg x=true/\Is 0 p)
 | 0,_,_,h=>by simp[gr]at h
 | f+1,0,t,h=>by
  refine⟨fun _=>?_,by omega⟩;have h:Qa (gr f 1) t=true:=h;rcases Yx kF t with hk | ⟨k,hk,_,_⟩
  ·rw[aq hk]at h;exact .e1 _ ((ke f 1 t h).1 (by omega))
  ·rw[ar rfl hk,zy]at h;have hc:=nL hk;have:=Is.e2 _ _ _ ((ke f 1 _ h.1).1 (by omega)) hc.2 ((ke f 1 _ h.2).1 (by omega));rw[mf hc.1]at this;exact this
 | f+1,1,t,h=>by
  refine⟨fun _=>?_,by omega⟩;have h:Vk (gr f 1) (gr f 2) t=true:=h;rcases Yx kL t with hk | ⟨k,hk,_,_⟩
  ·rw[eL hk]at h;exact .s1 _ ((ke f 2 t h).1 (by omega))
  ·rw[eM hk,zy]at h;have hc:=nL hk;have:=Is.s2 _ _ _ ((ke f 1 _ h.1).1 (by omega)) hc.2 ((ke f 2 _ h.2).1 (by omega));rw[mf hc.1]at this;exact this
 | f+1,2,t,h=>by
  refine⟨fun _=>?_,by omega⟩;have h:X8 (gr f 2) (gr f 3) t=true:=h;rcases Yx vJ t with hk | ⟨k,hk,_,_⟩
  ·rw[aF hk]at h;exact .t1 _ ((ke f 3 t h).1 (by omega))
  ·rw[aG hk,zy]at h;have hc:=nL hk;have:=Is.t2 _ _ _ ((ke f 2 _ h.1).1 (by omega)) hc.2 ((ke f 3 _ h.2).1 (by omega));rw[mf hc.1]at this;exact this
 | f+1,3,t,h=>by
  refine⟨fun _=>?_,by omega⟩;have h:kR (gr f 3) (gr f 0) (gr f 4) t=true:=h;rw[kR]at h;split at h
  ·cases h
  split at h
  ·rename_i h0 h1
   match t,h1 with
   | [x],_=>
    rw[YC]at h;rcases h with h | h
    ·exact .br x h
    ·exact .num x h
  rename_i h0 h1;have i:2<=t.length:=by omega
  split at h
  ·rename_i hm;have e:t=QM::t.drop 1:=by
    have:=YE hm
    match t,i with
    | x::r,_=>change x=_ at this;rw[this];rfl
   rw[e];exact .neg _ ((ke f 3 _ h).1 (by omega))
  split at h
  ·rename_i hm hp;have e:=uE i;rw[YE hp.1,YE hp.2]at e;rw[<-e];exact .par _ ((ke f 0 _ h).1 (by omega))
  ·obtain⟨x,p,e,j,hp⟩:=(ke f 4 t h).2 rfl;rw[e];exact .rE x p j hp
 | f+1,r+4,t,h=>by
  refine⟨by omega,fun _=>?_⟩;have h:kX (gr f 0) t=true:=h;rw[kX]at h;split at h
  ·cases h
  rename_i hc;have z:¬t.length < 4:=fun h=>hc (Or.inl h);have y:((ve t 1).toList==[91])=true:=by cases hh:((ve t 1).toList==[91])with | true=>rfl | false=>exact absurd (Or.inr (Or.inl hh)) hc
  have o:((final t).toList==[93])=true:=by cases hh:((final t).toList==[93])with | true=>rfl | false=>exact absurd (Or.inr (Or.inr hh)) hc
  rw[zy]at h;refine⟨first t,(t.take (t.length-1)).drop 2,?_,h.1,(ke f 0 _ h.2).1 (by omega)⟩;have e:=uE (t:=t) (by omega);rw[show kM=final t from (YE o).symm,show qI=ve t 1 from (YE y).symm]
  conv=>lhs;rw[<-e]
  congr 1;rw[<-yF];congr 1
  match t,z with
  | a::b::c::d::r,_=>simp[ve]
  | [],h=>simp at h
  | [_],h=>simp at h
  | [_,_],h=>simp at h
  | [_,_,_],h=>simp at h
theorem gZ (t:List ByteArray):qX t=true↔Is 0 t:=⟨fun h=>(ke _ 0 t h).1 (by omega),fun h=>(Kc h).2.2.2⟩
theorem DZ:Jp t=true↔∃x p,t=x::qI::(p++[kM])/\yg x=true/\Is 0 p:=by
 constructor
 ·intro h;exact(ke _ 4 t h).2 rfl
 ·rintro ⟨x,p,rfl,f,d⟩;rw[hJ (kh d).ne f];exact(Kc d).2.2.2
end Rf
end Go.Proofs.YthleadfkfnnadaaGreat
