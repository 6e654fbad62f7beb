/- Both readings of a source's lines agree. -/
import Derived.Test.YthleadfkfnnadaaGreatEqv5
import Derived.Test.YthleadfkfnnadaaGreatLawC
set_option maxHeartbeats 4000000
set_option maxRecDepth 100000
set_option linter.unusedSimpArgs false
namespace Go.Proofs.YthleadfkfnnadaaGreat
variable {x nm s:ByteArray} {k:Int} {ps ls:List (List ByteArray)} {p:List ByteArray} {l:List UInt8} {a:Nat}
namespace Rf
open Rt
def Dy:ByteArray:=⟨#[118,97,114]⟩
def nc:ByteArray:=⟨#[97,114,114,97,121]⟩
def lK:ByteArray:=⟨#[112,114,111,99]⟩
def DH:ByteArray:=⟨#[101,110,100]⟩
def Gi:ByteArray:=⟨#[105,102]⟩
def uw:ByteArray:=⟨#[101,108,115,101]⟩
def ez:ByteArray:=⟨#[119,104,105,108,101]⟩
def Zz:ByteArray:=⟨#[115,101,116]⟩
def fV:ByteArray:=⟨#[112,114,105,110,116]⟩
def oF:ByteArray:=⟨#[114,101,97,100]⟩
def VY:ByteArray:=⟨#[99,97,108,108]⟩
def aK:ByteArray:=⟨#[114,101,116,117,114,110]⟩
def Ex (e:List qM) (p:List ByteArray):Prop:=Is 0 p/\(∀V A,ZG V A e=toksOK V A p)/\Cm 0 p e
inductive Bg:List (List qM)->List (List ByteArray)->Prop
 | nil:Bg [] []
 | cons (e:List qM) (p:List ByteArray) (es:List (List qM)) (ps:List (List ByteArray)):Ex e p->Bg es ps->Bg (e::es) (p::ps)
theorem Bg.is {es:List (List qM)} (h:Bg es ps):∀p∈ps,Is 0 p:=by
 induction h with
 | nil=>simp
 | cons e p es ps h _ ih=>
  intro q hq;rcases zw.mp hq with rfl | hq
  ·exact h.1
  ·exact ih q hq
theorem Bg.len {es:List (List qM)} (h:Bg es ps):es.length=ps.length:=by
 induction h with
 | nil=>rfl
 | cons e p es ps h _ ih=>simp[ih]
inductive kU:List ByteArray->qS->Prop
 | empty:kU [] ⟨0,⟨#[]⟩,0,[],[],[]⟩
 | var (x:ByteArray):yg x=true->kU [Dy,x] ⟨1,x,0,[],[],[]⟩
 | array (x n:ByteArray):yg x=true->xi n=true->1<=worth n->worth n<=32->kU [nc,x,n] ⟨2,x,worth n,[],[],[]⟩
 | proc (x:ByteArray) (ps:List ByteArray):yg x=true->(∀p∈ps,yg p=true)->ps.length<=4->kU (lK::x::ps) ⟨3,x,0,ps,[],[]⟩
 | end_:kU [DH] ⟨4,⟨#[]⟩,0,[],[],[]⟩
 | F8 (p:List ByteArray) (e:List qM):Ex e p->kU (Gi::p) ⟨5,⟨#[]⟩,0,[],[],[e]⟩
 | gb:kU [uw] ⟨6,⟨#[]⟩,0,[],[],[]⟩
 | Vg (p:List ByteArray) (e:List qM):Ex e p->kU (ez::p) ⟨7,⟨#[]⟩,0,[],[],[e]⟩
 | rl (x:ByteArray) (p:List ByteArray) (e:List qM):yg x=true->Ex e p->kU (Zz::x::Ym::p) ⟨8,x,0,[],[],[e]⟩
 | rj (x:ByteArray) (q:List ByteArray) (i:List qM) (p:List ByteArray) (e:List qM):yg x=true->Ex i q->Ex e p->kU (Zz::x::qI::(q++kM::Ym::p)) ⟨9,x,0,[],i,[e]⟩
 | print (p:List ByteArray) (e:List qM):Ex e p->kU (fV::p) ⟨10,⟨#[]⟩,0,[],[],[e]⟩
 | read (x:ByteArray):yg x=true->kU [oF,x] ⟨11,x,0,[],[],[]⟩
 | call (x:ByteArray) (args:List (List ByteArray)) (vs:List (List qM)):yg x=true->Bg vs args->kU (VY::x::joinC args) ⟨12,x,0,[],[],vs⟩
 | Jb:kU [aK] ⟨13,⟨#[]⟩,0,[],[],[]⟩
theorem dO (s:ByteArray):∀k,valTo s k=worthTo s k
 | 0=>rfl
 | k+1=>by rw[valTo,worthTo,dO s k,Int.mul_comm]
theorem cB (s:ByteArray):val s=worth s:=dO s s.size
theorem Ze (h:(x.toList==l)=true):x=⟨l.toArray⟩:=by
 rw[ZF]at h;simpa using h
theorem Zh {ts r:List Tk} (d:jf ts) (h:kE ts=some (nm,r)):∃t,ts=t::r/\t.text=nm/\yg nm=true:=by
 cases ts with
 | nil=>simp[kE]at h
 | cons t ts=>
  rw[kE]at h;split at h
  ·rename_i hc;simp only[zx,yZ]at h;obtain⟨rfl,rfl⟩:=h;exact⟨t,rfl,rfl,d.head.br.mp hc⟩
  ·cases h
theorem Kt {ts r:List Tk} (h:jb x ts=some r):∃t,ts=t::r/\t.text=x:=by
 cases ts with
 | nil=>simp[jb]at h
 | cons t ts=>
  rw[jb]at h;split at h
  ·rename_i hc;simp only[zx]at h;subst h;exact⟨t,rfl,hc⟩
  ·cases h
theorem dW:∀(ts:List Tk) (acc ps:List ByteArray),jf ts->jO acc ts=some ps->acc.length<=4->ps=acc++tx ts/\(∀p∈tx ts,yg p=true)/\ps.length<=4
 | [],acc,ps,_,h,hl=>by
  simp[jO]at h;subst h;exact⟨by simp[tx],by simp[tx],hl⟩
 | t::ts,acc,ps,hok,h,hl=>by
  rw[jO]at h;split at h
  ·rename_i hc;obtain⟨i,f,d⟩:=dW ts _ ps hok.tail h (by simp;omega);refine⟨by rw[i,xq];simp,?_,d⟩;intro p hp;rw[xq]at hp;rcases zw.mp hp with rfl | hp
   ·exact hok.head.br.mp hc.1
   ·exact f p hp
  ·cases h
theorem KD {ts r:List Tk} {fm:qS} (d:jf ts) (h:kn k ts=some (fm,r)):∃p e,ts=p++r/\Ex e (tx p)/\fm=⟨k,⟨#[]⟩,0,[],[],[e]⟩:=by
 unfold kn at h;split at h
 ·cases h
 ·rename_i e r' he;simp only[zx,yZ]at h;obtain⟨rfl,rfl⟩:=h;obtain⟨p,j,i,f⟩:=Jt ts e r' d he;exact⟨p,e,j,⟨i,f⟩,rfl⟩
theorem uJ {ix:List qM} {ts r:List Tk} {fm:qS} (d:jf ts) (h:pTo k nm ix ts=some (fm,r)):∃t p e,ts=t::(p++r)/\t.text=Ym/\Ex e (tx p)/\fm=⟨k,nm,0,[],ix,[e]⟩:=by
 unfold pTo at h;split at h
 ·cases h
 ·rename_i r' hr;obtain⟨t,rfl,f⟩:=Kt hr;split at h
  ·cases h
  ·rename_i e r2 he;simp only[zx,yZ]at h;obtain⟨rfl,rfl⟩:=h;obtain⟨p,o,j,i⟩:=Jt r' e r2 d.tail he;exact⟨t,p,e,by rw[o],f,⟨j,i⟩,rfl⟩
theorem mR:∀(f:Nat) (acc:List (List qM)) (ts:List Tk) (vs:List (List qM)) (r:List Tk),jf ts->pArgs f acc ts=some (vs,r)->∃p es args,ts=p++r/\vs=acc++es/\Bg es args/\tx p=joinC args/\0 < args.length
 | 0,_,_,_,_,_,h=>by simp[pArgs]at h
 | f+1,acc,ts,vs,r,hok,h=>by
  rw[pArgs]at h;split at h
  ·cases h
  ·rename_i e r1 he;obtain⟨p,rfl,i,d⟩:=Jt ts e r1 hok he;split at h
   ·simp only[zx,yZ]at h;obtain⟨rfl,rfl⟩:=h;exact⟨p,[e],[tx p],rfl,rfl,.cons e _ [] [] ⟨i,d⟩ .nil,rfl,by simp⟩
   ·rename_i r2 hr2;obtain⟨c,rfl,k⟩:=Kt hr2;obtain⟨j,es,args,A,z,y,x,o⟩:=mR f _ r2 vs r hok.right.tail h;refine⟨p++c::j,e::es,tx p::args,by rw[A];simp,by rw[z];simp,.cons e _ es args ⟨i,d⟩ y,?_,by simp⟩;rw[ZP,xq,k,x];cases args with
    | nil=>simp at o
    | cons a args=>rw[joinC];rfl
theorem tC {ts:List Tk} {fm:qS} (y:jf ts) (h:pLineAll ts=some fm):kU (tx ts) fm:=by
 cases ts with
 | nil=>
  simp only[pLineAll,zx]at h;subst h;exact .empty
 | cons t r=>
  rw[pLineAll]at h;split at h
  ·cases h
  rename_i fm' r' hl;split at h
  case isFalse=>cases h
  rename_i hr';simp only[zx]at h;subst h;subst hr';have f:=y.tail;rw[xq];unfold xY at hl;by_cases hw:(t.text.toList==[118,97,114])=true
  ·rw[zE hw]at hl;rw[Ze hw];unfold pNamed at hl;split at hl
   ·cases hl
   ·rename_i nm r2 hn;obtain⟨u,rfl,j,i⟩:=Zh f hn;simp only[zx,yZ]at hl;obtain⟨rfl,rfl⟩:=hl;rw[xq,j];exact .var _ i
  rw[zA hw]at hl;clear hw;by_cases hw:(t.text.toList==[97,114,114,97,121])=true
  ·rw[zE hw]at hl;rw[Ze hw];unfold pArray at hl;split at hl
   ·cases hl
   ·rename_i nm r2 hn;obtain⟨u,rfl,j,i⟩:=Zh f hn;cases r2 with
    | nil=>simp[XC]at hl
    | cons n r2=>
     rw[XC]at hl;split at hl
     ·cases hl
     ·rename_i v r3 hv;split at hv
      ·rename_i hk;simp only[zx,yZ]at hv;obtain⟨rfl,rfl⟩:=hv;split at hl
       ·cases hl
       ·rename_i hb2;simp only[zx,yZ]at hl;obtain⟨rfl,rfl⟩:=hl;rw[cB]at hb2 ⊢;rw[xq,xq,j];exact .array _ _ i (f.tail.head.num.mp hk) (by omega) (by omega)
      ·cases hv
  rw[zA hw]at hl;clear hw;by_cases hw:(t.text.toList==[112,114,111,99])=true
  ·rw[zE hw]at hl;rw[Ze hw];unfold pProc at hl;split at hl
   ·cases hl
   ·rename_i nm r2 hn;obtain⟨u,rfl,j,i⟩:=Zh f hn;split at hl
    ·cases hl
    ·rename_i ps hps;obtain⟨D,I,h3⟩:=dW r2 [] ps f.tail hps (by simp);simp only[zx,yZ]at hl;obtain⟨rfl,_⟩:=hl;rw[xN]at D;subst D;rw[xq,j];exact .proc _ _ i I h3
  rw[zA hw]at hl;clear hw;by_cases hw:(t.text.toList==[101,110,100])=true
  ·rw[zE hw]at hl;rw[Ze hw];simp only[zx,yZ]at hl;obtain⟨rfl,rfl⟩:=hl;exact .end_
  rw[zA hw]at hl;clear hw;by_cases hw:(t.text.toList==[105,102])=true
  ·rw[zE hw]at hl;rw[Ze hw];obtain⟨p,e,rfl,k,rfl⟩:=KD f hl;rw[yX];exact .F8 _ _ k
  rw[zA hw]at hl;clear hw;by_cases hw:(t.text.toList==[101,108,115,101])=true
  ·rw[zE hw]at hl;rw[Ze hw];simp only[zx,yZ]at hl;obtain⟨rfl,rfl⟩:=hl;exact .gb
  rw[zA hw]at hl;clear hw;by_cases hw:(t.text.toList==[119,104,105,108,101])=true
  ·rw[zE hw]at hl;rw[Ze hw];obtain⟨p,e,rfl,k,rfl⟩:=KD f hl;rw[yX];exact .Vg _ _ k
  rw[zA hw]at hl;clear hw;by_cases hw:(t.text.toList==[115,101,116])=true
  ·rw[zE hw]at hl;rw[Ze hw];unfold J6 at hl;split at hl
   ·cases hl
   ·rename_i nm r2 hn;obtain⟨u,rfl,j,i⟩:=Zh f hn;split at hl
    ·obtain⟨c,p,e,rfl,A,k,rfl⟩:=uJ f.tail hl;rw[yX,xq,xq,j,A];exact .rl _ _ _ i k
    ·rename_i r3 h3;obtain⟨c,rfl,A⟩:=Kt h3;split at hl
     ·cases hl
     ·rename_i ix r4 hix;obtain⟨q,rfl,x,o⟩:=Jt r3 ix r4 f.tail.tail hix;split at hl
      ·cases hl
      ·rename_i r5 h5;obtain⟨d,rfl,F⟩:=Kt h5;obtain⟨L,p,e,rfl,z,k,rfl⟩:=uJ f.tail.tail.right.tail hl;rw[yX,xq,xq,ZP,xq,xq,j,A,F,z];exact .rj _ _ _ _ _ i ⟨x,o⟩ k
  rw[zA hw]at hl;clear hw;by_cases hw:(t.text.toList==[112,114,105,110,116])=true
  ·rw[zE hw]at hl;rw[Ze hw];obtain⟨p,e,rfl,k,rfl⟩:=KD f hl;rw[yX];exact .print _ _ k
  rw[zA hw]at hl;clear hw;by_cases hw:(t.text.toList==[114,101,97,100])=true
  ·rw[zE hw]at hl;rw[Ze hw];unfold pNamed at hl;split at hl
   ·cases hl
   ·rename_i nm r2 hn;obtain⟨u,rfl,j,i⟩:=Zh f hn;simp only[zx,yZ]at hl;obtain⟨rfl,rfl⟩:=hl;rw[xq,j];exact .read _ i
  rw[zA hw]at hl;clear hw;by_cases hw:(t.text.toList==[99,97,108,108])=true
  ·rw[zE hw]at hl;rw[Ze hw];unfold pCall at hl;split at hl
   ·cases hl
   ·rename_i nm r2 hn;obtain⟨u,rfl,j,i⟩:=Zh f hn;rw[xq,j];split at hl
    ·cases hl
    ·rename_i vs r3 hvs;simp only[zx,yZ]at hl;obtain⟨rfl,rfl⟩:=hl;unfold ZT at hvs;split at hvs
     ·rename_i h0;subst h0;simp only[zx,yZ,jJ]at hvs;subst hvs;exact .call _ [] [] i .nil
     ·obtain⟨p,J,args,rfl,rfl,H,G,_⟩:=mR 25 [] r2 vs [] f.tail hvs;rw[yX,G];exact .call _ _ _ i H
  rw[zA hw]at hl;clear hw;by_cases hw:(t.text.toList==[114,101,116,117,114,110])=true
  ·rw[zE hw]at hl;rw[Ze hw];simp only[zx,yZ]at hl;obtain⟨rfl,rfl⟩:=hl;exact .Jb
  rw[zA hw]at hl;cases hl
open Rt
theorem jl (l:List UInt8):(⟨l.toArray⟩:ByteArray).toList=l:=Zw l
theorem gM (t:List ByteArray):isKind t [101,110,100]=decide (t.length=1):=by simp[isKind]
theorem dj (t:List ByteArray):isKind t [101,108,115,101]=decide (t.length=1):=by simp[isKind]
theorem VT (t:List ByteArray):isKind t [114,101,116,117,114,110]=decide (t.length=1):=by simp[isKind]
theorem gL (t:List ByteArray):isKind t [118,97,114]=(decide (t.length=2) && kl (t.drop 1)):=by simp[isKind]
theorem dh (t:List ByteArray):isKind t [114,101,97,100]=(decide (t.length=2) && kl (t.drop 1)):=by simp[isKind]
theorem di (t:List ByteArray):isKind t [112,114,111,99]=(decide (2<=t.length/\t.length<=6) && kl (t.drop 1)):=by simp[isKind]
theorem lj (t:List ByteArray):isKind t [105,102]=qX (t.drop 1):=by simp[isKind]
theorem af (t:List ByteArray):isKind t [119,104,105,108,101]=qX (t.drop 1):=by simp[isKind]
theorem ag (t:List ByteArray):isKind t [112,114,105,110,116]=qX (t.drop 1):=by simp[isKind]
theorem Vy (t:List ByteArray):isKind t [115,101,116]=isSet t:=by simp[isKind]
theorem dk (t:List ByteArray):isKind t [99,97,108,108]=QV t:=by simp[isKind]
theorem ah (t:List ByteArray):isKind t [97,114,114,97,121]=Qn t:=by simp[isKind]
theorem Zj {r:List ByteArray} (h:x=⟨l.toArray⟩):xM (x::r)=isKind (x::r) l:=by
 rw[QT (by simp),show first (x::r)=x from rfl,h,jl]
theorem Kg {e:List qM} (h:Ex e p):qX p=true:=(Kc h.1).2.2.2
theorem EE (d:yg x=true):isSet (Zz::x::Ym::p)=qX p:=by
 have f:behind (Zz::x::Ym::p)=2:=VE (a:=[Zz,x]) (b:=p) (fun y hy=>by
  simp at hy;rcases hy with rfl | rfl
  ·simp[Zz,Ym]
  ·exact(Vs (Or.inl d)).2)
 rw[isSet,f,zA (by omega),zE rfl];show (yg x && qX p)=_;rw[d];rfl
theorem ED {q:List ByteArray} (h:yg x=true) (d:Is 0 q):isSet (Zz::x::qI::(q++kM::Ym::p))=qX p:=by
 have f:Zz::x::qI::(q++kM::Ym::p)=(Zz::x::qI::(q++[kM]))++Ym::p:=by simp
 have i:behind (Zz::x::qI::(q++kM::Ym::p))=q.length+4:=by
  rw[f,VE (fun y hy=>?_)]
  ·simp
  ·simp only[zw,zd,qb,Z2]at hy;rcases hy with rfl | rfl | rfl | hy | rfl
   ·simp[Zz,Ym]
   ·exact(Vs (Or.inl h)).2
   ·simp[qI,Ym]
   ·exact(K7 d _ hy).2
   ·simp[kM,Ym]
 rw[isSet,i,zA (by omega),zA (by omega)];have k:((Zz::x::qI::(q++kM::Ym::p)).take (q.length+4)).drop 1=x::qI::(q++[kM]):=by
  rw[f,kG (by simp),yw (by simp)];rfl
 have j:(Zz::x::qI::(q++kM::Ym::p)).drop (q.length+4+1)=p:=by
  rw[f,Zr,zp (by simp),show q.length+4+1-(Zz::x::qI::(q++[kM])).length=1 by simp];rfl
 rw[k,j,hJ (kh d).ne h,(Kc d).2.2.2];rfl
theorem Eg {t:List ByteArray} {fm:qS} (h:kU t fm):xM t=true:=by
 cases h with
 | empty=>rfl
 | var x hx=>rw[Zj (x:=Dy) (l:=[118,97,114]) rfl,gL];simp[kl,hx]
 | array x n hx hn h1 h2=>
  rw[Zj (x:=nc) (l:=[97,114,114,97,121]) rfl,ah,Qn,zE (by simp)];show (yg x && xi n && decide (1<=worth n) && decide (worth n<=32))=true;simp[hx,hn,h1,h2]
 | proc x ps hx hps hl=>
  rw[Zj (x:=lK) (l:=[112,114,111,99]) rfl,di];simp[kl,hx];exact⟨by omega,hps⟩
 | end_=>rw[Zj (x:=DH) (l:=[101,110,100]) rfl,gM];rfl
 | F8 p e he=>rw[Zj (x:=Gi) (l:=[105,102]) rfl,lj];exact Kg he
 | gb=>rw[Zj (x:=uw) (l:=[101,108,115,101]) rfl,dj];rfl
 | Vg p e he=>rw[Zj (x:=ez) (l:=[119,104,105,108,101]) rfl,af];exact Kg he
 | rl x p e hx he=>rw[Zj (x:=Zz) (l:=[115,101,116]) rfl,Vy,EE hx];exact Kg he
 | rj x q i p e hx hi he=>rw[Zj (x:=Zz) (l:=[115,101,116]) rfl,Vy,ED hx hi.1];exact Kg he
 | print p e he=>rw[Zj (x:=fV) (l:=[112,114,105,110,116]) rfl,ag];exact Kg he
 | read x hx=>rw[Zj (x:=oF) (l:=[114,101,97,100]) rfl,dh];simp[kl,hx]
 | call x args vs hx hv=>
  rw[Zj (x:=VY) (l:=[99,97,108,108]) rfl,dk,QV,zA (by simp)];show ((parts (joinC args)).all qX && yg x)=true;rw[aP args hv.is,hx];simp;intro a d;exact(Kc (hv.is a d)).2.2.2
 | Jb=>rw[Zj (x:=aK) (l:=[114,101,116,117,114,110]) rfl,VT];rfl
theorem dJ {ts:List Tk} (h:kl (tx ts)=true):∀t∈ts,yg t.text=true:=by
 simp[kl,tx]at h;exact h
theorem K5 {t:Tk} {r:List Tk} (d:jf (t::r)) (h:yg t.text=true):kE (t::r)=some (t.text,r):=by
 rw[kE,zE (d.head.br.mpr h)]
theorem lM:∀(ts:List Tk) (acc:List ByteArray),jf ts->(∀t∈ts,yg t.text=true)->acc.length+ts.length<=4->∃ps,jO acc ts=some ps
 | [],acc,_,_,_=>⟨acc,rfl⟩
 | t::ts,acc,hok,h,hl=>by
  rw[jO,zE ⟨hok.head.br.mpr (h t (by simp)),by simp at hl;omega⟩];exact lM ts _ hok.tail (fun u hu=>h u (by simp[hu])) (by simp at hl ⊢;omega)
theorem ga:Ends 5 11 []:=⟨by simp[tx,first,ve,qI],by rw[show tx []=[]from rfl,sZ];omega⟩
theorem pw {t:Tk} {r:List Tk} (h:(¬t.text=qI)/\yI t.text=0):Ends 5 11 (t::r):=⟨h.1,by show ¬(5<=yI t.text/\yI t.text<=11);rw[h.2];omega⟩
theorem cA {ts:List Tk} (d:jf ts) (i:ts.length<=24) (h:qX (tx ts)=true):∃fm,kn k ts=some (fm,[]):=by
 obtain⟨e,f⟩:=JN ts [] (by simpa using d) ((gZ _).mp h) i ga;rw[yX]at f;refine⟨⟨k,⟨#[]⟩,0,[],[],[e]⟩,?_⟩;unfold kn;rw[f]
theorem FL {ix:List qM} {t:Tk} {ts:List Tk} (d:jf ts) (j:ts.length<=24) (i:t.text=Ym) (h:qX (tx ts)=true):∃fm,pTo k nm ix (t::ts)=some (fm,[]):=by
 obtain⟨e,f⟩:=JN ts [] (by simpa using d) ((gZ _).mp h) j ga;rw[yX]at f;refine⟨⟨k,nm,0,[],ix,[e]⟩,?_⟩;unfold pTo;rw[jb,zE (show t.text=⟨#[116,111]⟩from i)];simp only;rw[f]
theorem gw (b:UInt8) (h:b=41\/b=93\/b=44):(¬(⟨#[b]⟩:ByteArray)=qI)/\yI ⟨#[b]⟩=0:=by
 rcases h with rfl | rfl | rfl <;> simp[qI,yI]
theorem wE:∀(args:List (List ByteArray)) (f:Nat) (acc:List (List qM)) (ts:List Tk),jf ts->ts.length<=24->(∀a∈args,Is 0 a)->tx ts=joinC args->0 < args.length->args.length<=f->∃vs,pArgs f acc ts=some (vs,[])
 | [],_,_,_,_,_,_,_,h,_=>by simp at h
 | [a],0,_,_,_,_,_,_,_,h=>by simp at h
 | [a],f+1,acc,ts,hok,hl,ha,he,_,_=>by
  obtain⟨e,d⟩:=JN ts [] (by simpa using hok) (by rw[he];exact ha a (by simp)) hl ga;rw[yX]at d;refine⟨acc++[e],?_⟩;rw[pArgs,d];rfl
 | a::b::r,0,_,_,_,_,_,_,_,h=>by simp at h
 | a::b::r,f+1,acc,ts,hok,hl,ha,he,_,hf=>by
  rw[joinC]at he;obtain⟨k,D,rfl,A,z⟩:=X3 he;obtain⟨c,i,rfl,j,y⟩:=jj z;simp only[ze,yE]at hl;obtain⟨e,d⟩:=JN k (c::i) hok (by rw[A];exact ha a (by simp)) (by omega) (pw (by rw[j];exact gw 44 (by simp)));obtain⟨vs,o⟩:=wE (b::r) f (acc++[e]) i hok.right.tail (by omega) (fun x hx=>ha x (by simp at hx ⊢;exact Or.inr hx)) y (by simp) (by simp at hf ⊢;omega);refine⟨vs,?_⟩;rw[pArgs,d];simp only;rw[jb,zE (show c.text=⟨#[44]⟩from j)];exact o
theorem lh:∀(args:List (List ByteArray)),(∀a∈args,Is 0 a)->args.length<=(joinC args).length
 | [],_=>by simp
 | [a],h=>by have:=(kh (h a (by simp))).ne;simp[joinC];omega
 | a::b::r,h=>by
  have:=lh (b::r) (fun x hx=>h x (by simp at hx ⊢;exact Or.inr hx));have d:=(kh (h a (by simp))).ne;rw[joinC];simp at this ⊢;omega
theorem AU (r:List Tk):xY ⟨#[101,110,100]⟩ r=some (⟨4,⟨#[]⟩,0,[],[],[]⟩,r):=by simp[xY]
theorem sU (r:List Tk):xY ⟨#[101,108,115,101]⟩ r=some (⟨6,⟨#[]⟩,0,[],[],[]⟩,r):=by simp[xY]
theorem nA (r:List Tk):xY ⟨#[114,101,116,117,114,110]⟩ r=some (⟨13,⟨#[]⟩,0,[],[],[]⟩,r):=by simp[xY]
theorem AR (r:List Tk):xY ⟨#[118,97,114]⟩ r=pNamed 1 r:=by simp[xY]
theorem sS (r:List Tk):xY ⟨#[114,101,97,100]⟩ r=pNamed 11 r:=by simp[xY]
theorem sT (r:List Tk):xY ⟨#[112,114,111,99]⟩ r=pProc r:=by simp[xY]
theorem CN (r:List Tk):xY ⟨#[105,102]⟩ r=kn 5 r:=by simp[xY]
theorem oP (r:List Tk):xY ⟨#[119,104,105,108,101]⟩ r=kn 7 r:=by simp[xY]
theorem oQ (r:List Tk):xY ⟨#[112,114,105,110,116]⟩ r=kn 10 r:=by simp[xY]
theorem AS (r:List Tk):xY ⟨#[115,101,116]⟩ r=J6 r:=by simp[xY]
theorem sV (r:List Tk):xY ⟨#[99,97,108,108]⟩ r=pCall r:=by simp[xY]
theorem oR (r:List Tk):xY ⟨#[97,114,114,97,121]⟩ r=pArray r:=by simp[xY]
theorem oS {t:Tk} {r:List Tk} {fm:qS} (h:xY t.text r=some (fm,[])):pLineAll (t::r)=some fm:=by
 rw[pLineAll,h];simp
theorem pS {t:List ByteArray} {h:List UInt8} (F:¬h=[101,110,100]) (D:¬h=[101,108,115,101]) (A:¬h=[114,101,116,117,114,110]) (z:¬h=[118,97,114]) (y:¬h=[114,101,97,100]) (x:¬h=[112,114,111,99]) (o:¬h=[105,102]) (k:¬h=[119,104,105,108,101]) (j:¬h=[112,114,105,110,116]) (i:¬h=[115,101,116]) (f:¬h=[99,97,108,108]) (d:¬h=[97,114,114,97,121]):isKind t h=false:=by
 simp[isKind,F,D,A,z,y,x,o,k,j,i,f,d]
theorem oh {r:List Tk} (d:jf r) (f:r.length=1) (h:kl (tx r)=true):∃fm,pNamed k r=some (fm,[]):=by
 match r,f with
 | [u],_=>
  refine⟨⟨k,u.text,0,[],[],[]⟩,?_⟩;unfold pNamed;rw[K5 d (dJ h u (by simp))]
theorem EM {r:List Tk} (d:jf r) (i:1<=r.length/\r.length<=5) (h:kl (tx r)=true):∃fm,pProc r=some (fm,[]):=by
 match r,i with
 | u::r,i=>
  obtain⟨ps,f⟩:=lM r [] d.tail (fun t ht=>dJ h t (by simp[ht])) (by simp at i ⊢;omega);refine⟨⟨3,u.text,0,ps,[],[]⟩,?_⟩;unfold pProc;rw[K5 d (dJ h u (by simp))];simp only;rw[f]
theorem Di {t:Tk} {r:List Tk} (d:jf r) (h:Qn (tx (t::r))=true):∃fm,pArray r=some (fm,[]):=by
 rw[Qn]at h;split at h
 ·rename_i hl;rw[KE]at hl
  match r,hl with
  | [u,n],_=>
   have h:(yg u.text && xi n.text && decide (1<=worth n.text) && decide (worth n.text<=32))=true:=h;simp at h;obtain⟨⟨⟨i,f⟩,k⟩,j⟩:=h;refine⟨⟨2,u.text,val n.text,[],[],[]⟩,?_⟩;unfold pArray;rw[K5 d i];simp only;rw[XC,zE (d.tail.head.num.mpr f)];simp only;rw[zA (by rw[cB];omega)]
 ·cases h
theorem Fk {t:Tk} {r:List Tk} (o:jf r) (G:r.length<=24) (h:isSet (tx (t::r))=true):∃fm,J6 r=some (fm,[]):=by
 rw[isSet]at h;split at h
 ·cases h
 rename_i hk2;obtain⟨f,j⟩:=BQ (t:=tx (t::r)) (by omega);split at h
 ·rename_i hk;rw[hk,KE]at f
  match r,f with
  | u::v::r,_=>
   rw[hk]at j;change v.text=Ym at j;have h:(yg u.text && qX (tx r))=true:=h;rw[zy]at h;unfold J6;rw[K5 o h.1];simp only;rw[jb,zA (show ¬v.text=⟨#[91]⟩ by rw[j];simp[Ym])];exact FL o.tail.tail (by simp at G;omega) j h.2
  | [u],f=>simp at f
  | [],f=>simp at f
 ·rename_i hk;rw[zy]at h;obtain⟨T,F⟩:=h;obtain⟨x,q,D,L,M⟩:=(DZ).mp T;generalize N:behind (tx (t::r))=k at *;rw[xq]at D F j f;have O:0 < k:=by omega
  obtain⟨z,rfl⟩:∃z,k=z+1:=⟨k-1,by omega⟩;rw[qz,Z7,Zb]at D;rw[jX]at F;rw[vK]at j;simp only[yE]at f;have y:tx r=(x::qI::(q++[kM]))++Ym::(tx r).drop (z+1):=by
   rw[<-D,<-j];have A:z < (tx r).length:=by omega
   rw[qq A,<-zZ A,kt]
  generalize (tx r).drop (z+1)=p at *;simp only[yF,yK,xN]at y;obtain⟨u,r1,rfl,e1,y⟩:=jj y;obtain⟨v,r2,rfl,Z,y⟩:=jj y;obtain⟨J,r3,rfl,W,y⟩:=X3 y;obtain⟨c,r4,rfl,H,y⟩:=jj y;obtain⟨d,I,rfl,V,U⟩:=jj y;simp only[yE,ze]at G;obtain⟨i,R⟩:=JN J (c::d::I) o.tail.tail (by rw[W];exact M) (by omega) (pw (by rw[H];exact gw 93 (by simp)));unfold J6;rw[K5 o (by rw[e1];exact L)];simp only;rw[jb,zE (show v.text=⟨#[91]⟩from Z)];simp only;rw[R];simp only;rw[jb,zE (show c.text=⟨#[93]⟩from H)];exact FL o.tail.tail.right.tail.tail (by omega) V (by rw[U];exact F)
theorem Ey {t:Tk} {r:List Tk} (d:jf r) (A:r.length<=24) (h:QV (tx (t::r))=true):∃fm,pCall r=some (fm,[]):=by
 rw[QV]at h;split at h
 ·cases h
 rename_i h2;rw[KE]at h2
 match r,h2 with
 | u::r,_=>
  rw[zy]at h;obtain⟨o,k⟩:=h;have o:(parts (tx r)).all qX=true:=o;have k:yg u.text=true:=k;have i:∀a∈parts (tx r),Is 0 a:=fun a i=>(gZ a).mp (vZ.mp o a i);unfold pCall;rw[K5 d k];simp only;by_cases hr:r=[]
  ·subst hr;exact⟨_,rfl⟩
  ·have f:=sM (tx r);have z:0 < (parts (tx r)).length:=by
    cases hh:parts (tx r)with
    | nil=>
     rw[hh]at f;exact absurd (cC f.symm) hr
    | cons _ _=>simp
   have j:=lh (parts (tx r)) i;rw[f,KE]at j;simp only[yE]at A;obtain⟨x,y⟩:=wE (parts (tx r)) 25 [] r d.tail (by omega) i f.symm z (by omega);refine⟨⟨12,u.text,0,[],[],x⟩,?_⟩;unfold ZT;rw[zA hr,y]
 | [],h2=>simp at h2
theorem Ap {ts:List Tk} (o:jf ts) (x:ts.length<=24) (h:xM (tx ts)=true):∃fm,pLineAll ts=some fm:=by
 cases ts with
 | nil=>exact⟨_,rfl⟩
 | cons t r=>
  have d:=o.tail;simp only[yE]at x;rw[QT (by simp[tx]),show first (tx (t::r))=t.text from rfl]at h;have fin:∀{l:List UInt8} {fm:qS},t.text=⟨l.toArray⟩->xY ⟨l.toArray⟩ r=some (fm,[])->∃fm,pLineAll (t::r)=some fm:=fun h1 h2=>⟨_,oS (by rw[h1];exact h2)⟩;have i:∀{l:List UInt8},t.text.toList=l->t.text=⟨l.toArray⟩:=fun h=>Ze (by rw[h];simp);by_cases e0:t.text.toList=[101,110,100]
  ·rw[e0,gM]at h;have j:r=[]:=by simpa[tx] using h
   subst j;exact fin (i e0) (AU [])
  by_cases e1:t.text.toList=[101,108,115,101]
  ·rw[e1,dj]at h;have j:r=[]:=by simpa[tx] using h
   subst j;exact fin (i e1) (sU [])
  by_cases e2:t.text.toList=[114,101,116,117,114,110]
  ·rw[e2,VT]at h;have j:r=[]:=by simpa[tx] using h
   subst j;exact fin (i e2) (nA [])
  by_cases e3:t.text.toList=[118,97,114]
  ·rw[e3,gL]at h;rw[zy,yS,KE]at h;obtain⟨fm,f⟩:=oh (k:=1) d (by simpa using h.1) h.2;exact fin (i e3) ((AR r).trans f)
  by_cases e4:t.text.toList=[114,101,97,100]
  ·rw[e4,dh]at h;rw[zy,yS,KE]at h;obtain⟨fm,f⟩:=oh (k:=11) d (by simpa using h.1) h.2;exact fin (i e4) ((sS r).trans f)
  by_cases e5:t.text.toList=[112,114,111,99]
  ·rw[e5,di]at h;rw[zy,yS,KE,yE]at h;obtain⟨fm,f⟩:=EM d ⟨by omega,by omega⟩ h.2;exact fin (i e5) ((sT r).trans f)
  by_cases e6:t.text.toList=[105,102]
  ·rw[e6,lj]at h;obtain⟨fm,f⟩:=cA (k:=5) d (by omega) h;exact fin (i e6) ((CN r).trans f)
  by_cases e7:t.text.toList=[119,104,105,108,101]
  ·rw[e7,af]at h;obtain⟨fm,f⟩:=cA (k:=7) d (by omega) h;exact fin (i e7) ((oP r).trans f)
  by_cases e8:t.text.toList=[112,114,105,110,116]
  ·rw[e8,ag]at h;obtain⟨fm,f⟩:=cA (k:=10) d (by omega) h;exact fin (i e8) ((oQ r).trans f)
  by_cases e9:t.text.toList=[115,101,116]
  ·rw[e9,Vy]at h;obtain⟨fm,f⟩:=Fk d (by omega) h;exact fin (i e9) ((AS r).trans f)
  by_cases e10:t.text.toList=[99,97,108,108]
  ·rw[e10,dk]at h;obtain⟨fm,f⟩:=Ey d (by omega) h;exact fin (i e10) ((sV r).trans f)
  by_cases e11:t.text.toList=[97,114,114,97,121]
  ·rw[e11,ah]at h;obtain⟨fm,f⟩:=Di d h;exact fin (i e11) ((oR r).trans f)
  rw[pS e0 e1 e2 e3 e4 e5 e6 e7 e8 e9 e10 e11]at h;cases h
open Rt
theorem Et (s:ByteArray) (d f:Int) (a:Nat) (i:a < s.size) (h:within d f s[a]=false):cw s d f a=0:=by
 rw[bJ s d f a a (zB _) (by omega) (fun j h h1 h2=>by omega) (fun _=>h)];omega
theorem uy {lo hi:Int} (d:a < s.size) (h:0 < cw s lo hi a):lo<=qC s a/\qC s a<=hi:=by
 cases hw:within lo hi s[a]with
 | false=>rw[Et s lo hi a d hw]at h;omega
 | true=>rw[jB d];simpa[within] using hw
theorem tT {n:Nat} (h:a+n<=s.size) (f:0 < n):qC (s.extract a (a+n)) 0=qC s a:=by
 have d:(s.extract a (a+n)).size=n:=by rw[kV];omega
 rw[jB (by omega),jB (by omega)];congr 1;simp[ByteArray.getElem_extract]
theorem EI:aL x=kp KM x:=by
 simp only[aL,cJ,kp,KM,vw,bn,ZF];simp only[eY]
theorem wX {b:Int} (h:sign b=true):qt b=false/\jo b=false:=by
 simp[sign]at h;rcases h with h | h | h | h | h | h | h | h | h | h | h | h <;> subst h <;> decide
theorem GX (o:a < s.size) (d:¬jL s a=0):GM ⟨YZ s a,s.extract a (a+jL s a)⟩:=by
 have j:=ou s a (by omega);have k:=tT j (by omega);have f:0 < (s.extract a (a+jL s a)).size:=by rw[kV];omega
 have h:xi (s.extract a (a+jL s a))=jo (qC s a):=by rw[xi,k,qA f];rfl
 have i:yg (s.extract a (a+jL s a))=(qt (qC s a) && !aL (s.extract a (a+jL s a))):=by rw[yg,k,qA f,EI];rfl
 have key:(YZ s a=1/\qt (qC s a)=true/\jo (qC s a)=false)\/(YZ s a=2/\qt (qC s a)=false/\jo (qC s a)=true)\/(YZ s a=3/\qt (qC s a)=false/\jo (qC s a)=false):=by
  unfold jL at d;unfold YZ;by_cases h1:8 < cw s 97 122 a
  ·rw[zE h1]at d;omega
  rw[zA h1]at d ⊢;by_cases h2:0 < cw s 97 122 a
  ·rw[zE h2];have:=uy o h2;exact Or.inl ⟨rfl,by simp[qt];omega,by simp[jo];omega⟩
  rw[zA h2]at d ⊢;by_cases h3:9 < cw s 48 57 a
  ·rw[zE h3]at d;omega
  rw[zA h3]at d ⊢;by_cases h4:0 < cw s 48 57 a
  ·rw[zE h4];have:=uy o h4;exact Or.inr (Or.inl ⟨rfl,by simp[qt];omega,by simp[jo];omega⟩)
  rw[zA h4]at d ⊢;by_cases h5:a < s.size/\sign (qC s a)=true
  ·rw[zE h5];have:=wX h5.2;exact Or.inr (Or.inr ⟨rfl,this.1,this.2⟩)
  ·rw[zA h5]at d;omega
 constructor
 ·show YZ s a=2↔_;rw[h];rcases key with⟨k1,k2,k3⟩| ⟨k1,k2,k3⟩| ⟨k1,k2,k3⟩ <;> rw[k1,k3] <;> simp
 ·show (YZ s a=1/\_)↔_;rw[i];rcases key with⟨k1,k2,k3⟩| ⟨k1,k2,k3⟩| ⟨k1,k2,k3⟩ <;> rw[k1,k2] <;> simp
theorem KG (s:ByteArray):∀(f a:Nat) (acc ts:List Tk),jf acc->toksFrom s f a acc=some ts->jf ts
 | 0,_,_,_,_,h=>by simp[toksFrom]at h
 | f+1,a,acc,ts,hacc,h=>by
  rw[toksFrom]at h;split at h
  ·rename_i ha;split at h
   ·exact KG s f _ acc ts hacc h
   ·split at h
    ·cases h
    ·rename_i hb hn;refine KG s f _ _ ts (fun t ht=>?_) h;simp at ht;rcases ht with ht | rfl
     ·exact hacc t ht
     ·exact GX ha (fun e=>hn (Or.inl e))
  ·simp only[zx]at h;subst h;exact hacc
theorem D4 {ts:List Tk} (h:yY s=some ts):jf ts:=KG s _ _ [] ts (by intro t d;simp at d) h
open Rt
inductive LR (R:PL->List ByteArray->Prop):List PL->List (List ByteArray)->Prop
 | nil:LR R [] []
 | cons (p:PL) (t:List ByteArray) (ps:List PL) (ls:List (List ByteArray)):R p t->LR R ps ls->LR R (p::ps) (t::ls)
theorem LR.len {R:PL->List ByteArray->Prop} {ps:List PL} (h:LR R ps ls):ps.length=ls.length:=by
 induction h with
 | nil=>rfl
 | cons p t ps ls _ _ ih=>simp[ih]
theorem LR.snoc {R:PL->List ByteArray->Prop} {ps:List PL} (h:LR R ps ls) {p:PL} {t:List ByteArray} (d:R p t):LR R (ps++[p]) (ls++[t]):=by
 induction h with
 | nil=>exact .cons p t [] [] d .nil
 | cons q u ps ls hq _ ih=>exact .cons q u _ _ hq ih
def FH (p:PL) (t:List ByteArray):Prop:=kU t p.form/\tx p.yY=t/\p.depth=0/\p.opener=0/\p.proc=0
theorem pg:∀(texts:List ByteArray) (i:Nat) (acc:List PL) (al:List (List ByteArray)),(∀s∈texts,s.size<=40000)->LR FH acc al->
  (rForms i texts (kb::acc)).1=(formsFrom i texts al).1/\((rForms i texts (kb::acc)).1=0->∃ps,(rForms i texts (kb::acc)).2=kb::ps/\LR FH ps (formsFrom i texts al).2)
 | [],i,acc,al,_,h=>⟨rfl,fun _=>⟨acc,rfl,h⟩⟩
 | s::r,i,acc,al,hs,h=>by
  rw[rForms,formsFrom,rdLine];cases ht:yY s with
  | none=>exact⟨rfl,fun h=>by simp at h⟩
  | some ts=>
   have d:=D4 ht;have k:=(JY (hs s (by simp)) ht).1;simp only;cases hp:pLineAll ts with
   | none=>
    have:xM (tx ts)=false:=by
     cases hi:xM (tx ts)with
     | false=>rfl
     | true=>
      obtain⟨j,hf⟩:=Ap d k hi;rw[hp]at hf;cases hf
    rw[zA (by rw[this];simp)];exact⟨rfl,fun h=>by simp at h⟩
   | some j=>
    have f:=tC d hp;rw[zE (Eg f)];have:=pg r (i+1) (acc++[⟨ts,j,0,0,0⟩]) (al++[tx ts]) (fun x hx=>hs x (by simp[hx])) (h.snoc ⟨f,rfl,rfl,rfl,rfl⟩);exact this
def idx (k:Int):Nat:=if k=0 then 0 else if k=1 then 1 else if k=2 then 2 else if k=3 then 3 else if k=5 then 4 else if k=7 then 5 else if k=6 then 6 else if k=4 then 7 else 8
theorem Yc (l:List UInt8) (i:Nat) (h:((l==[])=decide (i=0))/\(l==[118,97,114])=decide (i=1)/\(l==[97,114,114,97,121])=decide (i=2)/\(l==[112,114,111,99])=decide (i=3)/\ (l==[105,102])=decide (i=4)/\(l==[119,104,105,108,101])=decide (i=5)/\(l==[101,108,115,101])=decide (i=6)/\(l==[101,110,100])=decide (i=7)):HF ⟨l.toArray⟩ i:=by
 unfold HF;rw[jl];exact h
theorem Ya {t:List ByteArray} {fm:qS} (h:kU t fm):HF (first t) (idx fm.kind):=by
 cases h with
 | empty=>exact Yc [] 0 (by decide)
 | var x hx=>exact Yc [118,97,114] 1 (by decide)
 | array x n hx hn h1 h2=>exact Yc [97,114,114,97,121] 2 (by decide)
 | proc x ps hx hps hl=>exact Yc [112,114,111,99] 3 (by decide)
 | end_=>exact Yc [101,110,100] 7 (by decide)
 | F8 p e he=>exact Yc [105,102] 4 (by decide)
 | gb=>exact Yc [101,108,115,101] 6 (by decide)
 | Vg p e he=>exact Yc [119,104,105,108,101] 5 (by decide)
 | rl x p e hx he=>exact Yc [115,101,116] 8 (by decide)
 | rj x q i p e hx hi he=>exact Yc [115,101,116] 8 (by decide)
 | print p e he=>exact Yc [112,114,105,110,116] 8 (by decide)
 | read x hx=>exact Yc [114,101,97,100] 8 (by decide)
 | call x args vs hx hv=>exact Yc [99,97,108,108] 8 (by decide)
 | Jb=>exact Yc [114,101,116,117,114,110] 8 (by decide)
end Rf
end Go.Proofs.YthleadfkfnnadaaGreat
