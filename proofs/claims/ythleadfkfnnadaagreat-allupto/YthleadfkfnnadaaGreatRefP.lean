/- The document's answer: where a block ends, the other way of an if, going on from a line. -/
import Derived.Test.YthleadfkfnnadaaGreatEqv5
set_option maxHeartbeats 4000000
set_option maxRecDepth 100000
set_option linter.all false
namespace Go.Proofs.YthleadfkfnnadaaGreat
open Value renaming int->J,string->O,pointer->H,tuple->E
open IntKind renaming i64->U
open Option renaming none->Z,some->Q
open Bool renaming false->W,true->D
open List renaming length->G
open Ending renaming returned->T
open Rf Rt Go.Proofs.Tryz
variable {x nm s:Ia} {ls us:List Ib} {t:Ib} {op sp:List Nat} {l k a i:Nat}
namespace Rf
open Rt
def Dy:Ia:=⟨#[118,97,114]⟩
def nc:Ia:=⟨#[97,114,114,97,121]⟩
def lK:Ia:=⟨#[112,114,111,99]⟩
def DH:Ia:=⟨#[101,110,100]⟩
def Gi:Ia:=⟨#[105,102]⟩
def uw:Ia:=⟨#[101,108,115,101]⟩
def ez:Ia:=⟨#[119,104,105,108,101]⟩
def Zz:Ia:=⟨#[115,101,116]⟩
def fV:Ia:=⟨#[112,114,105,110,116]⟩
def oF:Ia:=⟨#[114,101,97,100]⟩
def VY:Ia:=⟨#[99,97,108,108]⟩
def aK:Ia:=⟨#[114,101,116,117,114,110]⟩
def Ex (e:List qM) (p:Ib):Prop:=Is 0 p/\(∀V A,ZG V A e=toksOK V A p)/\Cm 0 p e
inductive Bg:List (List qM)->List (List ByteArray)->Prop
 | nil:Bg [] []
 | cons (e:List qM) (p:List ByteArray) (es:List (List qM)) (ps:List (List ByteArray)):Ex e p->Bg es ps->Bg (e::es) (p::ps)
theorem Bg.is {es:List (List qM)} {ps:List Ib} (h:Bg es ps):∀p∈ps,Is 0 p:=by
 induction h with
 | nil=>simp
 | cons e p es ps h _ ih=>
  intro q hq;rcases zw.mp hq with rfl | hq
  ·exact h.1
  ·exact ih q hq
theorem Bg.len {es:List (List qM)} {ps:List Ib} (h:Bg es ps):G es=G ps:=by
 induction h with
 | nil=>rfl
 | cons e p es ps h _ ih=>simp[ih]
inductive kU:List ByteArray->qS->Prop
 | empty:kU [] ⟨0,⟨#[]⟩,0,[],[],[]⟩
 | var (x:ByteArray):yg x=true->kU [Dy,x] ⟨1,x,0,[],[],[]⟩
 | array (x n:ByteArray):yg x=true->xi n=true->1<=worth n->worth n<=32->kU [nc,x,n] ⟨2,x,worth n,[],[],[]⟩
 | proc (x:ByteArray) (ps:List ByteArray):yg x=true->(∀p∈ps,yg p=true)->ps.length<=4->kU (lK::x::ps) ⟨3,x,0,ps,[],[]⟩
 | end_:kU [DH] ⟨4,⟨#[]⟩,0,[],[],[]⟩
 | F8 (p:List ByteArray) (e:List qM):Ex e p->kU (Gi::p) ⟨5,⟨#[]⟩,0,[],[],[e]⟩
 | gb:kU [uw] ⟨6,⟨#[]⟩,0,[],[],[]⟩
 | Vg (p:List ByteArray) (e:List qM):Ex e p->kU (ez::p) ⟨7,⟨#[]⟩,0,[],[],[e]⟩
 | set1 (x:ByteArray) (p:List ByteArray) (e:List qM):yg x=true->Ex e p->kU (Zz::x::Ym::p) ⟨8,x,0,[],[],[e]⟩
 | rj (x:ByteArray) (q:List ByteArray) (i:List qM) (p:List ByteArray) (e:List qM):yg x=true->Ex i q->Ex e p->kU (Zz::x::qI::(q++kM::Ym::p)) ⟨9,x,0,[],i,[e]⟩
 | print (p:List ByteArray) (e:List qM):Ex e p->kU (fV::p) ⟨10,⟨#[]⟩,0,[],[],[e]⟩
 | read (x:ByteArray):yg x=true->kU [oF,x] ⟨11,x,0,[],[],[]⟩
 | call (x:ByteArray) (args:List (List ByteArray)) (vs:List (List qM)):yg x=true->Bg vs args->kU (VY::x::joinC args) ⟨12,x,0,[],[],vs⟩
 | Jb:kU [aK] ⟨13,⟨#[]⟩,0,[],[],[]⟩
theorem dO (s:Ia):∀k,valTo s k=worthTo s k
 | 0=>rfl
 | k+1=>by rw[valTo,worthTo,dO s k,Int.mul_comm]
theorem cB (s:Ia):val s=worth s:=dO s s.size
theorem Ze {l:List UInt8} (h:(x.toList==l)=D):x=⟨l.toArray⟩:=by
 rw[ZF]at h;simpa using h
theorem Zh {ts r:List Tk} (d:jf ts) (h:kE ts=Q (nm,r)):∃t,ts=t::r/\t.text=nm/\yg nm=D:=by
 cases ts with
 | nil=>simp[kE]at h
 | cons t ts=>
  rw[kE]at h;split at h
  ·rename_i hc;simp only[zx,yZ]at h;obtain⟨rfl,rfl⟩:=h;exact⟨t,rfl,rfl,d.head.br.mp hc⟩
  ·cases h
theorem Kt {ts r:List Tk} (h:jb x ts=Q r):∃t,ts=t::r/\t.text=x:=by
 cases ts with
 | nil=>simp[jb]at h
 | cons t ts=>
  rw[jb]at h;split at h
  ·rename_i hc;simp only[zx]at h;subst h;exact⟨t,rfl,hc⟩
  ·cases h
theorem dW:∀(ts:List Tk) (acc ps:Ib),jf ts->jO acc ts=Q ps->G acc<=4->ps=acc++tx ts/\(∀p∈tx ts,yg p=D)/\G ps<=4
 | [],acc,ps,_,h,hl=>by
  simp[jO]at h;subst h;exact⟨by simp[tx],by simp[tx],hl⟩
 | t::ts,acc,ps,hok,h,hl=>by
  rw[jO]at h;split at h
  ·rename_i hc;obtain⟨i,f,d⟩:=dW ts _ ps hok.tail h (by simp;omega);refine⟨by rw[i,xq];simp,?_,d⟩;intro p hp;rw[xq]at hp;rcases zw.mp hp with rfl | hp
   ·exact hok.head.br.mp hc.1
   ·exact f p hp
  ·cases h
theorem KD {k:Int} {ts r:List Tk} {fm:qS} (d:jf ts) (h:kn k ts=Q (fm,r)):∃p e,ts=p++r/\Ex e (tx p)/\fm=⟨k,⟨#[]⟩,0,[],[],[e]⟩:=by
 unfold kn at h;split at h
 ·cases h
 ·rename_i e r' he;simp only[zx,yZ]at h;obtain⟨rfl,rfl⟩:=h;obtain⟨p,j,i,f⟩:=Jt ts e r' d he;exact⟨p,e,j,⟨i,f⟩,rfl⟩
theorem uJ {k:Int} {ix:List qM} {ts r:List Tk} {fm:qS} (d:jf ts) (h:pTo k nm ix ts=Q (fm,r)):∃t p e,ts=t::(p++r)/\t.text=Ym/\Ex e (tx p)/\fm=⟨k,nm,0,[],ix,[e]⟩:=by
 unfold pTo at h;split at h
 ·cases h
 ·rename_i r' hr;obtain⟨t,rfl,f⟩:=Kt hr;split at h
  ·cases h
  ·rename_i e r2 he;simp only[zx,yZ]at h;obtain⟨rfl,rfl⟩:=h;obtain⟨p,o,j,i⟩:=Jt r' e r2 d.tail he;exact⟨t,p,e,by rw[o],f,⟨j,i⟩,rfl⟩
theorem mR:∀(f:Nat) (acc:List (List qM)) (ts:List Tk) (vs:List (List qM)) (r:List Tk),jf ts->pArgs f acc ts=Q (vs,r)->∃p es args,ts=p++r/\vs=acc++es/\Bg es args/\tx p=joinC args/\0 < G args
 | 0,_,_,_,_,_,h=>by simp[pArgs]at h
 | f+1,acc,ts,vs,r,hok,h=>by
  rw[pArgs]at h;split at h
  ·cases h
  ·rename_i e r1 he;obtain⟨p,rfl,i,d⟩:=Jt ts e r1 hok he;split at h
   ·simp only[zx,yZ]at h;obtain⟨rfl,rfl⟩:=h;exact⟨p,[e],[tx p],rfl,rfl,.cons e _ [] [] ⟨i,d⟩ .nil,rfl,by simp⟩
   ·rename_i r2 hr2;obtain⟨c,rfl,k⟩:=Kt hr2;obtain⟨j,es,args,A,z,y,x,o⟩:=mR f _ r2 vs r hok.right.tail h;refine⟨p++c::j,e::es,tx p::args,by rw[A];simp,by rw[z];simp,.cons e _ es args ⟨i,d⟩ y,?_,by simp⟩;rw[ZP,xq,k,x];cases args with
    | nil=>simp at o
    | cons a args=>rw[joinC];rfl
theorem tC {ts:List Tk} {fm:qS} (y:jf ts) (h:pLineAll ts=Q fm):kU (tx ts) fm:=by
 cases ts with
 | nil=>
  simp only[pLineAll,zx]at h;subst h;exact .empty
 | cons t r=>
  rw[pLineAll]at h;split at h
  ·cases h
  rename_i fm' r' hl;split at h
  case isFalse=>cases h
  rename_i hr';simp only[zx]at h;subst h;subst hr';have f:=y.tail;rw[xq];unfold xY at hl;by_cases hw:(t.text.toList==[118,97,114])=D
  ·rw[zE hw]at hl;rw[Ze hw];unfold pNamed at hl;split at hl
   ·cases hl
   ·rename_i nm r2 hn;obtain⟨u,rfl,j,i⟩:=Zh f hn;simp only[zx,yZ]at hl;obtain⟨rfl,rfl⟩:=hl;rw[xq,j];exact .var _ i
  rw[zA hw]at hl;clear hw;by_cases hw:(t.text.toList==[97,114,114,97,121])=D
  ·rw[zE hw]at hl;rw[Ze hw];unfold pArray at hl;split at hl
   ·cases hl
   ·rename_i nm r2 hn;obtain⟨u,rfl,j,i⟩:=Zh f hn;cases r2 with
    | nil=>simp[XC]at hl
    | cons n r2=>
     rw[XC]at hl;split at hl
     ·cases hl
     ·rename_i v r3 hv;split at hv
      ·rename_i hk;simp only[zx,yZ]at hv;obtain⟨rfl,rfl⟩:=hv;split at hl
       ·cases hl
       ·rename_i hb2;simp only[zx,yZ]at hl;obtain⟨rfl,rfl⟩:=hl;rw[cB]at hb2 ⊢;rw[xq,xq,j];exact .array _ _ i (f.tail.head.num.mp hk) (by omega) (by omega)
      ·cases hv
  rw[zA hw]at hl;clear hw;by_cases hw:(t.text.toList==[112,114,111,99])=D
  ·rw[zE hw]at hl;rw[Ze hw];unfold pProc at hl;split at hl
   ·cases hl
   ·rename_i nm r2 hn;obtain⟨u,rfl,j,i⟩:=Zh f hn;split at hl
    ·cases hl
    ·rename_i ps hps;obtain⟨F,J,h3⟩:=dW r2 [] ps f.tail hps (by simp);simp only[zx,yZ]at hl;obtain⟨rfl,_⟩:=hl;rw[xN]at F;subst F;rw[xq,j];exact .proc _ _ i J h3
  rw[zA hw]at hl;clear hw;by_cases hw:(t.text.toList==[101,110,100])=D
  ·rw[zE hw]at hl;rw[Ze hw];simp only[zx,yZ]at hl;obtain⟨rfl,rfl⟩:=hl;exact .end_
  rw[zA hw]at hl;clear hw;by_cases hw:(t.text.toList==[105,102])=D
  ·rw[zE hw]at hl;rw[Ze hw];obtain⟨p,e,rfl,k,rfl⟩:=KD f hl;rw[yX];exact .F8 _ _ k
  rw[zA hw]at hl;clear hw;by_cases hw:(t.text.toList==[101,108,115,101])=D
  ·rw[zE hw]at hl;rw[Ze hw];simp only[zx,yZ]at hl;obtain⟨rfl,rfl⟩:=hl;exact .gb
  rw[zA hw]at hl;clear hw;by_cases hw:(t.text.toList==[119,104,105,108,101])=D
  ·rw[zE hw]at hl;rw[Ze hw];obtain⟨p,e,rfl,k,rfl⟩:=KD f hl;rw[yX];exact .Vg _ _ k
  rw[zA hw]at hl;clear hw;by_cases hw:(t.text.toList==[115,101,116])=D
  ·rw[zE hw]at hl;rw[Ze hw];unfold J6 at hl;split at hl
   ·cases hl
   ·rename_i nm r2 hn;obtain⟨u,rfl,j,i⟩:=Zh f hn;split at hl
    ·obtain⟨c,p,e,rfl,A,k,rfl⟩:=uJ f.tail hl;rw[yX,xq,xq,j,A];exact .set1 _ _ _ i k
    ·rename_i r3 h3;obtain⟨c,rfl,A⟩:=Kt h3;split at hl
     ·cases hl
     ·rename_i ix r4 hix;obtain⟨q,rfl,x,o⟩:=Jt r3 ix r4 f.tail.tail hix;split at hl
      ·cases hl
      ·rename_i r5 h5;obtain⟨d,rfl,G⟩:=Kt h5;obtain⟨M,p,e,rfl,z,k,rfl⟩:=uJ f.tail.tail.right.tail hl;rw[yX,xq,xq,ZP,xq,xq,j,A,G,z];exact .rj _ _ _ _ _ i ⟨x,o⟩ k
  rw[zA hw]at hl;clear hw;by_cases hw:(t.text.toList==[112,114,105,110,116])=D
  ·rw[zE hw]at hl;rw[Ze hw];obtain⟨p,e,rfl,k,rfl⟩:=KD f hl;rw[yX];exact .print _ _ k
  rw[zA hw]at hl;clear hw;by_cases hw:(t.text.toList==[114,101,97,100])=D
  ·rw[zE hw]at hl;rw[Ze hw];unfold pNamed at hl;split at hl
   ·cases hl
   ·rename_i nm r2 hn;obtain⟨u,rfl,j,i⟩:=Zh f hn;simp only[zx,yZ]at hl;obtain⟨rfl,rfl⟩:=hl;rw[xq,j];exact .read _ i
  rw[zA hw]at hl;clear hw;by_cases hw:(t.text.toList==[99,97,108,108])=D
  ·rw[zE hw]at hl;rw[Ze hw];unfold pCall at hl;split at hl
   ·cases hl
   ·rename_i nm r2 hn;obtain⟨u,rfl,j,i⟩:=Zh f hn;rw[xq,j];split at hl
    ·cases hl
    ·rename_i vs r3 hvs;simp only[zx,yZ]at hl;obtain⟨rfl,rfl⟩:=hl;unfold ZT at hvs;split at hvs
     ·rename_i h0;subst h0;simp only[zx,yZ,jJ]at hvs;subst hvs;exact .call _ [] [] i .nil
     ·obtain⟨p,L,args,rfl,rfl,I,H,_⟩:=mR 25 [] r2 vs [] f.tail hvs;rw[yX,H];exact .call _ _ _ i I
  rw[zA hw]at hl;clear hw;by_cases hw:(t.text.toList==[114,101,116,117,114,110])=D
  ·rw[zE hw]at hl;rw[Ze hw];simp only[zx,yZ]at hl;obtain⟨rfl,rfl⟩:=hl;exact .Jb
  rw[zA hw]at hl;cases hl
open Rt
theorem jl (l:List UInt8):(⟨l.toArray⟩:Ia).toList=l:=Zw l
theorem gM (t:Ib):isKind t [101,110,100]=decide (G t=1):=by simp[isKind]
theorem dj (t:Ib):isKind t [101,108,115,101]=decide (G t=1):=by simp[isKind]
theorem VT (t:Ib):isKind t [114,101,116,117,114,110]=decide (G t=1):=by simp[isKind]
theorem gL (t:Ib):isKind t [118,97,114]=(decide (G t=2) && kl (t.drop 1)):=by simp[isKind]
theorem dh (t:Ib):isKind t [114,101,97,100]=(decide (G t=2) && kl (t.drop 1)):=by simp[isKind]
theorem di (t:Ib):isKind t [112,114,111,99]=(decide (2<=G t/\G t<=6) && kl (t.drop 1)):=by simp[isKind]
theorem lj (t:Ib):isKind t [105,102]=qX (t.drop 1):=by simp[isKind]
theorem af (t:Ib):isKind t [119,104,105,108,101]=qX (t.drop 1):=by simp[isKind]
theorem ag (t:Ib):isKind t [112,114,105,110,116]=qX (t.drop 1):=by simp[isKind]
theorem Vy (t:Ib):isKind t [115,101,116]=isSet t:=by simp[isKind]
theorem dk (t:Ib):isKind t [99,97,108,108]=QV t:=by simp[isKind]
theorem ah (t:Ib):isKind t [97,114,114,97,121]=Qn t:=by simp[isKind]
theorem Zj {l:List UInt8} {r:Ib} (h:x=⟨l.toArray⟩):xM (x::r)=isKind (x::r) l:=by
 rw[QT (by simp),show first (x::r)=x from rfl,h,jl]
theorem Kg {e:List qM} {p:Ib} (h:Ex e p):qX p=D:=(Kc h.1).2.2.2
theorem EE {p:Ib} (d:yg x=D):isSet (Zz::x::Ym::p)=qX p:=by
 have f:behind (Zz::x::Ym::p)=2:=VE (a:=[Zz,x]) (b:=p) (fun y hy=>by
  simp at hy;rcases hy with rfl | rfl
  ·simp[Zz,Ym]
  ·exact(Vs (Or.inl d)).2)
 rw[isSet,f,zA (by omega),zE rfl];show (yg x && qX p)=_;rw[d];rfl
theorem ED {q p:Ib} (h:yg x=D) (d:Is 0 q):isSet (Zz::x::qI::(q++kM::Ym::p))=qX p:=by
 have f:Zz::x::qI::(q++kM::Ym::p)=(Zz::x::qI::(q++[kM]))++Ym::p:=by simp
 have i:behind (Zz::x::qI::(q++kM::Ym::p))=G q+4:=by
  rw[f,VE (fun y hy=>?_)]
  ·simp
  ·simp only[zw,zd,qb,Z2]at hy;rcases hy with rfl | rfl | rfl | hy | rfl
   ·simp[Zz,Ym]
   ·exact(Vs (Or.inl h)).2
   ·simp[qI,Ym]
   ·exact(K7 d _ hy).2
   ·simp[kM,Ym]
 rw[isSet,i,zA (by omega),zA (by omega)];have k:((Zz::x::qI::(q++kM::Ym::p)).take (G q+4)).drop 1=x::qI::(q++[kM]):=by
  rw[f,kG (by simp),yw (by simp)];rfl
 have j:(Zz::x::qI::(q++kM::Ym::p)).drop (G q+4+1)=p:=by
  rw[f,Zr,zp (by simp),show (G q)+4+1-(Zz::x::qI::(q++[kM])).length=1 by simp];rfl
 rw[k,j,hJ (kh d).ne h,(Kc d).2.2.2];rfl
theorem Eg {fm:qS} (h:kU t fm):xM t=D:=by
 cases h with
 | empty=>rfl
 | var x hx=>rw[Zj (x:=Dy) (l:=[118,97,114]) rfl,gL];simp[kl,hx]
 | array x n hx hn h1 h2=>
  rw[Zj (x:=nc) (l:=[97,114,114,97,121]) rfl,ah,Qn,zE (by simp)];show (yg x && xi n && decide (1<=worth n) && decide (worth n<=32))=D;simp[hx,hn,h1,h2]
 | proc x ps hx hps hl=>
  rw[Zj (x:=lK) (l:=[112,114,111,99]) rfl,di];simp[kl,hx];exact⟨by omega,hps⟩
 | end_=>rw[Zj (x:=DH) (l:=[101,110,100]) rfl,gM];rfl
 | F8 p e he=>rw[Zj (x:=Gi) (l:=[105,102]) rfl,lj];exact Kg he
 | gb=>rw[Zj (x:=uw) (l:=[101,108,115,101]) rfl,dj];rfl
 | Vg p e he=>rw[Zj (x:=ez) (l:=[119,104,105,108,101]) rfl,af];exact Kg he
 | set1 x p e hx he=>rw[Zj (x:=Zz) (l:=[115,101,116]) rfl,Vy,EE hx];exact Kg he
 | rj x q i p e hx hi he=>rw[Zj (x:=Zz) (l:=[115,101,116]) rfl,Vy,ED hx hi.1];exact Kg he
 | print p e he=>rw[Zj (x:=fV) (l:=[112,114,105,110,116]) rfl,ag];exact Kg he
 | read x hx=>rw[Zj (x:=oF) (l:=[114,101,97,100]) rfl,dh];simp[kl,hx]
 | call x args vs hx hv=>
  rw[Zj (x:=VY) (l:=[99,97,108,108]) rfl,dk,QV,zA (by simp)];show ((parts (joinC args)).all qX && yg x)=D;rw[aP args hv.is,hx];simp;intro a d;exact(Kc (hv.is a d)).2.2.2
 | Jb=>rw[Zj (x:=aK) (l:=[114,101,116,117,114,110]) rfl,VT];rfl
theorem dJ {ts:List Tk} (h:kl (tx ts)=D):∀t∈ts,yg t.text=D:=by
 simp[kl,tx]at h;exact h
theorem K5 {t:Tk} {r:List Tk} (d:jf (t::r)) (h:yg t.text=D):kE (t::r)=Q (t.text,r):=by
 rw[kE,zE (d.head.br.mpr h)]
theorem lM:∀(ts:List Tk) (acc:Ib),jf ts->(∀t∈ts,yg t.text=D)->G acc+G ts<=4->∃ps,jO acc ts=Q ps
 | [],acc,_,_,_=>⟨acc,rfl⟩
 | t::ts,acc,hok,h,hl=>by
  rw[jO,zE ⟨hok.head.br.mpr (h t (by simp)),by simp at hl;omega⟩];exact lM ts _ hok.tail (fun u hu=>h u (by simp[hu])) (by simp at hl ⊢;omega)
theorem ga:Ends 5 11 []:=⟨by simp[tx,first,ve,qI],by rw[show tx []=[]from rfl,sZ];omega⟩
theorem pw {t:Tk} {r:List Tk} (h:(¬t.text=qI)/\yI t.text=0):Ends 5 11 (t::r):=⟨h.1,by show ¬(5<=yI t.text/\yI t.text<=11);rw[h.2];omega⟩
theorem cA {k:Int} {ts:List Tk} (d:jf ts) (i:G ts<=24) (h:qX (tx ts)=D):∃fm,kn k ts=Q (fm,[]):=by
 obtain⟨e,f⟩:=JN ts [] (by simpa using d) ((gZ _).mp h) i ga;rw[yX]at f;refine⟨⟨k,⟨#[]⟩,0,[],[],[e]⟩,?_⟩;unfold kn;rw[f]
theorem FL {k:Int} {ix:List qM} {t:Tk} {ts:List Tk} (d:jf ts) (j:G ts<=24) (i:t.text=Ym) (h:qX (tx ts)=D):∃fm,pTo k nm ix (t::ts)=Q (fm,[]):=by
 obtain⟨e,f⟩:=JN ts [] (by simpa using d) ((gZ _).mp h) j ga;rw[yX]at f;refine⟨⟨k,nm,0,[],ix,[e]⟩,?_⟩;unfold pTo;rw[jb,zE (show t.text=⟨#[116,111]⟩from i)];simp only;rw[f]
theorem gw (b:UInt8) (h:b=41\/b=93\/b=44):(¬(⟨#[b]⟩:Ia)=qI)/\yI ⟨#[b]⟩=0:=by
 rcases h with rfl | rfl | rfl <;> simp[qI,yI]
theorem wE:∀(args:List Ib) (f:Nat) (acc:List (List qM)) (ts:List Tk),jf ts->G ts<=24->(∀a∈args,Is 0 a)->tx ts=joinC args->0 < G args->G args<=f->∃vs,pArgs f acc ts=Q (vs,[])
 | [],_,_,_,_,_,_,_,h,_=>by simp at h
 | [a],0,_,_,_,_,_,_,_,h=>by simp at h
 | [a],f+1,acc,ts,hok,hl,ha,he,_,_=>by
  obtain⟨e,d⟩:=JN ts [] (by simpa using hok) (by rw[he];exact ha a (by simp)) hl ga;rw[yX]at d;refine⟨acc++[e],?_⟩;rw[pArgs,d];rfl
 | a::b::r,0,_,_,_,_,_,_,_,h=>by simp at h
 | a::b::r,f+1,acc,ts,hok,hl,ha,he,_,hf=>by
  rw[joinC]at he;obtain⟨k,D,rfl,A,z⟩:=X3 he;obtain⟨c,i,rfl,j,y⟩:=jj z;simp only[ze,yE]at hl;obtain⟨e,d⟩:=JN k (c::i) hok (by rw[A];exact ha a (by simp)) (by omega) (pw (by rw[j];exact gw 44 (by simp)));obtain⟨vs,o⟩:=wE (b::r) f (acc++[e]) i hok.right.tail (by omega) (fun x hx=>ha x (by simp at hx ⊢;exact Or.inr hx)) y (by simp) (by simp at hf ⊢;omega);refine⟨vs,?_⟩;rw[pArgs,d];simp only;rw[jb,zE (show c.text=⟨#[44]⟩from j)];exact o
theorem lh:∀(args:List Ib),(∀a∈args,Is 0 a)->G args<=(joinC args).length
 | [],_=>by simp
 | [a],h=>by have:=(kh (h a (by simp))).ne;simp[joinC];omega
 | a::b::r,h=>by
  have:=lh (b::r) (fun x hx=>h x (by simp at hx ⊢;exact Or.inr hx));have d:=(kh (h a (by simp))).ne;rw[joinC];simp at this ⊢;omega
theorem AU (r:List Tk):xY ⟨#[101,110,100]⟩ r=Q (⟨4,⟨#[]⟩,0,[],[],[]⟩,r):=by simp[xY]
theorem sU (r:List Tk):xY ⟨#[101,108,115,101]⟩ r=Q (⟨6,⟨#[]⟩,0,[],[],[]⟩,r):=by simp[xY]
theorem nA (r:List Tk):xY ⟨#[114,101,116,117,114,110]⟩ r=Q (⟨13,⟨#[]⟩,0,[],[],[]⟩,r):=by simp[xY]
theorem AR (r:List Tk):xY ⟨#[118,97,114]⟩ r=pNamed 1 r:=by simp[xY]
theorem sS (r:List Tk):xY ⟨#[114,101,97,100]⟩ r=pNamed 11 r:=by simp[xY]
theorem sT (r:List Tk):xY ⟨#[112,114,111,99]⟩ r=pProc r:=by simp[xY]
theorem CN (r:List Tk):xY ⟨#[105,102]⟩ r=kn 5 r:=by simp[xY]
theorem oP (r:List Tk):xY ⟨#[119,104,105,108,101]⟩ r=kn 7 r:=by simp[xY]
theorem oQ (r:List Tk):xY ⟨#[112,114,105,110,116]⟩ r=kn 10 r:=by simp[xY]
theorem AS (r:List Tk):xY ⟨#[115,101,116]⟩ r=J6 r:=by simp[xY]
theorem sV (r:List Tk):xY ⟨#[99,97,108,108]⟩ r=pCall r:=by simp[xY]
theorem oR (r:List Tk):xY ⟨#[97,114,114,97,121]⟩ r=pArray r:=by simp[xY]
theorem oS {t:Tk} {r:List Tk} {fm:qS} (h:xY t.text r=Q (fm,[])):pLineAll (t::r)=Q fm:=by
 rw[pLineAll,h];simp
theorem pS {h:List UInt8} (F:¬h=[101,110,100]) (D:¬h=[101,108,115,101]) (A:¬h=[114,101,116,117,114,110]) (z:¬h=[118,97,114]) (y:¬h=[114,101,97,100]) (x:¬h=[112,114,111,99]) (o:¬h=[105,102]) (k:¬h=[119,104,105,108,101]) (j:¬h=[112,114,105,110,116]) (i:¬h=[115,101,116]) (f:¬h=[99,97,108,108]) (d:¬h=[97,114,114,97,121]):isKind t h=W:=by
 simp[isKind,F,D,A,z,y,x,o,k,j,i,f,d]
theorem oh {k:Int} {r:List Tk} (d:jf r) (f:G r=1) (h:kl (tx r)=D):∃fm,pNamed k r=Q (fm,[]):=by
 match r,f with
 | [u],_=>
  refine⟨⟨k,u.text,0,[],[],[]⟩,?_⟩;unfold pNamed;rw[K5 d (dJ h u (by simp))]
theorem EM {r:List Tk} (d:jf r) (i:1<=G r/\G r<=5) (h:kl (tx r)=D):∃fm,pProc r=Q (fm,[]):=by
 match r,i with
 | u::r,i=>
  obtain⟨ps,f⟩:=lM r [] d.tail (fun t ht=>dJ h t (by simp[ht])) (by simp at i ⊢;omega);refine⟨⟨3,u.text,0,ps,[],[]⟩,?_⟩;unfold pProc;rw[K5 d (dJ h u (by simp))];simp only;rw[f]
theorem Di {t:Tk} {r:List Tk} (d:jf r) (h:Qn (tx (t::r))=D):∃fm,pArray r=Q (fm,[]):=by
 rw[Qn]at h;split at h
 ·rename_i hl;rw[KE]at hl
  match r,hl with
  | [u,n],_=>
   have h:(yg u.text && xi n.text && decide (1<=worth n.text) && decide (worth n.text<=32))=D:=h;simp at h;obtain⟨⟨⟨i,f⟩,k⟩,j⟩:=h;refine⟨⟨2,u.text,val n.text,[],[],[]⟩,?_⟩;unfold pArray;rw[K5 d i];simp only;rw[XC,zE (d.tail.head.num.mpr f)];simp only;rw[zA (by rw[cB];omega)]
 ·cases h
theorem Fk {t:Tk} {r:List Tk} (o:jf r) (I:G r<=24) (h:isSet (tx (t::r))=D):∃fm,J6 r=Q (fm,[]):=by
 rw[isSet]at h;split at h
 ·cases h
 rename_i hk2;obtain⟨f,j⟩:=BQ (t:=tx (t::r)) (by omega);split at h
 ·rename_i hk;rw[hk,KE]at f
  match r,f with
  | u::v::r,_=>
   rw[hk]at j;change v.text=Ym at j;have h:(yg u.text && qX (tx r))=D:=h;rw[zy]at h;unfold J6;rw[K5 o h.1];simp only;rw[jb,zA (show ¬v.text=⟨#[91]⟩ by rw[j];simp[Ym])];exact FL o.tail.tail (by simp at I;omega) j h.2
  | [u],f=>simp at f
  | [],f=>simp at f
 ·rename_i hk;rw[zy]at h;obtain⟨V,H⟩:=h;obtain⟨x,q,F,N,O⟩:=(DZ).mp V;generalize R:behind (tx (t::r))=k at *;rw[xq]at F H j f;have T:0 < k:=by omega
  obtain⟨z,rfl⟩:∃z,k=z+1:=⟨k-1,by omega⟩;rw[qz,Z7,Zb]at F;rw[jX]at H;rw[vK]at j;simp only[yE]at f;have y:tx r=(x::qI::(q++[kM]))++Ym::(tx r).drop (z+1):=by
   rw[<-F,<-j];have A:z < (tx r).length:=by omega
   rw[qq A,<-zZ A,kt]
  generalize (tx r).drop (z+1)=p at *;simp only[yF,yK,xN]at y;obtain⟨u,r1,rfl,e1,y⟩:=jj y;obtain⟨v,r2,rfl,e2,y⟩:=jj y;obtain⟨M,r3,rfl,e3,y⟩:=X3 y;obtain⟨c,r4,rfl,J,y⟩:=jj y;obtain⟨d,L,rfl,Z,W⟩:=jj y;simp only[yE,ze]at I;obtain⟨i,U⟩:=JN M (c::d::L) o.tail.tail (by rw[e3];exact O) (by omega) (pw (by rw[J];exact gw 93 (by simp)));unfold J6;rw[K5 o (by rw[e1];exact N)];simp only;rw[jb,zE (show v.text=⟨#[91]⟩from e2)];simp only;rw[U];simp only;rw[jb,zE (show c.text=⟨#[93]⟩from J)];exact FL o.tail.tail.right.tail.tail (by omega) Z (by rw[W];exact H)
theorem Ey {t:Tk} {r:List Tk} (d:jf r) (A:G r<=24) (h:QV (tx (t::r))=D):∃fm,pCall r=Q (fm,[]):=by
 rw[QV]at h;split at h
 ·cases h
 rename_i h2;rw[KE]at h2
 match r,h2 with
 | u::r,_=>
  rw[zy]at h;obtain⟨o,k⟩:=h;have o:(parts (tx r)).all qX=D:=o;have k:yg u.text=D:=k;have i:∀a∈parts (tx r),Is 0 a:=fun a i=>(gZ a).mp (vZ.mp o a i);unfold pCall;rw[K5 d k];simp only;by_cases hr:r=[]
  ·subst hr;exact⟨_,rfl⟩
  ·have f:=sM (tx r);have z:0 < (parts (tx r)).length:=by
    cases hh:parts (tx r)with
    | nil=>
     rw[hh]at f;exact absurd (cC f.symm) hr
    | cons _ _=>simp
   have j:=lh (parts (tx r)) i;rw[f,KE]at j;simp only[yE]at A;obtain⟨x,y⟩:=wE (parts (tx r)) 25 [] r d.tail (by omega) i f.symm z (by omega);refine⟨⟨12,u.text,0,[],[],x⟩,?_⟩;unfold ZT;rw[zA hr,y]
 | [],h2=>simp at h2
theorem Ap {ts:List Tk} (o:jf ts) (x:G ts<=24) (h:xM (tx ts)=D):∃fm,pLineAll ts=Q fm:=by
 cases ts with
 | nil=>exact⟨_,rfl⟩
 | cons t r=>
  have d:=o.tail;simp only[yE]at x;rw[QT (by simp[tx]),show first (tx (t::r))=t.text from rfl]at h;have fin:∀{l:List UInt8} {fm:qS},t.text=⟨l.toArray⟩->xY ⟨l.toArray⟩ r=Q (fm,[])->∃fm,pLineAll (t::r)=Q fm:=fun h1 h2=>⟨_,oS (by rw[h1];exact h2)⟩;have i:∀{l:List UInt8},t.text.toList=l->t.text=⟨l.toArray⟩:=fun h=>Ze (by rw[h];simp);by_cases e0:t.text.toList=[101,110,100]
  ·rw[e0,gM]at h;have j:r=[]:=by simpa[tx] using h
   subst j;exact fin (i e0) (AU [])
  by_cases e1:t.text.toList=[101,108,115,101]
  ·rw[e1,dj]at h;have j:r=[]:=by simpa[tx] using h
   subst j;exact fin (i e1) (sU [])
  by_cases e2:t.text.toList=[114,101,116,117,114,110]
  ·rw[e2,VT]at h;have j:r=[]:=by simpa[tx] using h
   subst j;exact fin (i e2) (nA [])
  by_cases e3:t.text.toList=[118,97,114]
  ·rw[e3,gL]at h;rw[zy,yS,KE]at h;obtain⟨fm,f⟩:=oh (k:=1) d (by simpa using h.1) h.2;exact fin (i e3) ((AR r).trans f)
  by_cases e4:t.text.toList=[114,101,97,100]
  ·rw[e4,dh]at h;rw[zy,yS,KE]at h;obtain⟨fm,f⟩:=oh (k:=11) d (by simpa using h.1) h.2;exact fin (i e4) ((sS r).trans f)
  by_cases e5:t.text.toList=[112,114,111,99]
  ·rw[e5,di]at h;rw[zy,yS,KE,yE]at h;obtain⟨fm,f⟩:=EM d ⟨by omega,by omega⟩ h.2;exact fin (i e5) ((sT r).trans f)
  by_cases e6:t.text.toList=[105,102]
  ·rw[e6,lj]at h;obtain⟨fm,f⟩:=cA (k:=5) d (by omega) h;exact fin (i e6) ((CN r).trans f)
  by_cases e7:t.text.toList=[119,104,105,108,101]
  ·rw[e7,af]at h;obtain⟨fm,f⟩:=cA (k:=7) d (by omega) h;exact fin (i e7) ((oP r).trans f)
  by_cases e8:t.text.toList=[112,114,105,110,116]
  ·rw[e8,ag]at h;obtain⟨fm,f⟩:=cA (k:=10) d (by omega) h;exact fin (i e8) ((oQ r).trans f)
  by_cases e9:t.text.toList=[115,101,116]
  ·rw[e9,Vy]at h;obtain⟨fm,f⟩:=Fk d (by omega) h;exact fin (i e9) ((AS r).trans f)
  by_cases e10:t.text.toList=[99,97,108,108]
  ·rw[e10,dk]at h;obtain⟨fm,f⟩:=Ey d (by omega) h;exact fin (i e10) ((sV r).trans f)
  by_cases e11:t.text.toList=[97,114,114,97,121]
  ·rw[e11,ah]at h;obtain⟨fm,f⟩:=Di d h;exact fin (i e11) ((oR r).trans f)
  rw[pS e0 e1 e2 e3 e4 e5 e6 e7 e8 e9 e10 e11]at h;cases h
open Rt
theorem Et (s:Ia) (d f:Int) (a:Nat) (i:a < s.size) (h:within d f s[a]=W):cw s d f a=0:=by
 rw[bJ s d f a a (zB _) (by omega) (fun j h h1 h2=>by omega) (fun _=>h)];omega
theorem uy {lo hi:Int} (d:a < s.size) (h:0 < cw s lo hi a):lo<=qC s a/\qC s a<=hi:=by
 cases hw:within lo hi s[a]with
 | false=>rw[Et s lo hi a d hw]at h;omega
 | true=>rw[jB d];simpa[within] using hw
theorem tT {n:Nat} (h:a+n<=s.size) (f:0 < n):qC (s.extract a (a+n)) 0=qC s a:=by
 have d:(s.extract a (a+n)).size=n:=by rw[kV];omega
 rw[jB (by omega),jB (by omega)];congr 1;simp[ByteArray.getElem_extract]
theorem EI:aL x=kp KM x:=by
 simp only[aL,resvWords,kp,KM,vw,bn,ZF];simp only[eY]
theorem wX {b:Int} (h:sign b=D):qt b=W/\jo b=W:=by
 simp[sign]at h;rcases h with h | h | h | h | h | h | h | h | h | h | h | h <;> subst h <;> decide
theorem GX (o:a < s.size) (d:¬jL s a=0):GM ⟨YZ s a,s.extract a (a+jL s a)⟩:=by
 have j:=ou s a (by omega);have k:=tT j (by omega);have f:0 < (s.extract a (a+jL s a)).size:=by rw[kV];omega
 have h:xi (s.extract a (a+jL s a))=jo (qC s a):=by rw[xi,k,qA f];rfl
 have i:yg (s.extract a (a+jL s a))=(qt (qC s a) && !aL (s.extract a (a+jL s a))):=by rw[yg,k,qA f,EI];rfl
 have key:(YZ s a=1/\qt (qC s a)=D/\jo (qC s a)=W)\/(YZ s a=2/\qt (qC s a)=W/\jo (qC s a)=D)\/(YZ s a=3/\qt (qC s a)=W/\jo (qC s a)=W):=by
  unfold jL at d;unfold YZ;by_cases h1:8 < cw s 97 122 a
  ·rw[zE h1]at d;omega
  rw[zA h1]at d ⊢;by_cases h2:0 < cw s 97 122 a
  ·rw[zE h2];have:=uy o h2;exact Or.inl ⟨rfl,by simp[qt];omega,by simp[jo];omega⟩
  rw[zA h2]at d ⊢;by_cases h3:9 < cw s 48 57 a
  ·rw[zE h3]at d;omega
  rw[zA h3]at d ⊢;by_cases h4:0 < cw s 48 57 a
  ·rw[zE h4];have:=uy o h4;exact Or.inr (Or.inl ⟨rfl,by simp[qt];omega,by simp[jo];omega⟩)
  rw[zA h4]at d ⊢;by_cases h5:a < s.size/\sign (qC s a)=D
  ·rw[zE h5];have:=wX h5.2;exact Or.inr (Or.inr ⟨rfl,this.1,this.2⟩)
  ·rw[zA h5]at d;omega
 constructor
 ·show YZ s a=2↔_;rw[h];rcases key with⟨k1,k2,k3⟩| ⟨k1,k2,k3⟩| ⟨k1,k2,k3⟩ <;> rw[k1,k3] <;> simp
 ·show (YZ s a=1/\_)↔_;rw[i];rcases key with⟨k1,k2,k3⟩| ⟨k1,k2,k3⟩| ⟨k1,k2,k3⟩ <;> rw[k1,k2] <;> simp
theorem KG (s:Ia):∀(f a:Nat) (acc ts:List Tk),jf acc->toksFrom s f a acc=Q ts->jf ts
 | 0,_,_,_,_,h=>by simp[toksFrom]at h
 | f+1,a,acc,ts,hacc,h=>by
  rw[toksFrom]at h;split at h
  ·rename_i ha;split at h
   ·exact KG s f _ acc ts hacc h
   ·split at h
    ·cases h
    ·rename_i hb hn;refine KG s f _ _ ts (fun t ht=>?_) h;simp at ht;rcases ht with ht | rfl
     ·exact hacc t ht
     ·exact GX ha (fun e=>hn (Or.inl e))
  ·simp only[zx]at h;subst h;exact hacc
theorem D4 {ts:List Tk} (h:yY s=Q ts):jf ts:=KG s _ _ [] ts (by intro t d;simp at d) h
open Rt
inductive LR (R:PL->List ByteArray->Prop):List PL->List (List ByteArray)->Prop
 | nil:LR R [] []
 | cons (p:PL) (t:List ByteArray) (ps:List PL) (ls:List (List ByteArray)):R p t->LR R ps ls->LR R (p::ps) (t::ls)
theorem LR.len {R:PL->Ib->Prop} {ps:List PL} (h:LR R ps ls):G ps=G ls:=by
 induction h with
 | nil=>rfl
 | cons p t ps ls _ _ ih=>simp[ih]
theorem LR.snoc {R:PL->Ib->Prop} {ps:List PL} (h:LR R ps ls) {p:PL} (d:R p t):LR R (ps++[p]) (ls++[t]):=by
 induction h with
 | nil=>exact .cons p t [] [] d .nil
 | cons q u ps ls hq _ ih=>exact .cons q u _ _ hq ih
def FH (p:PL) (t:Ib):Prop:=kU t p.form/\tx p.yY=t/\p.depth=0/\p.opener=0/\p.proc=0
theorem pg:∀(texts:Ib) (i:Nat) (acc:List PL) (al:List Ib),(∀s∈texts,s.size<=40000)->LR FH acc al->
  (rForms i texts (kb::acc)).1=(formsFrom i texts al).1/\((rForms i texts (kb::acc)).1=0->∃ps,(rForms i texts (kb::acc)).2=kb::ps/\LR FH ps (formsFrom i texts al).2)
 | [],i,acc,al,_,h=>⟨rfl,fun _=>⟨acc,rfl,h⟩⟩
 | s::r,i,acc,al,hs,h=>by
  rw[rForms,formsFrom,rdLine];cases ht:yY s with
  | none=>exact⟨rfl,fun h=>by simp at h⟩
  | some ts=>
   have d:=D4 ht;have k:=(JY (hs s (by simp)) ht).1;simp only;cases hp:pLineAll ts with
   | none=>
    have:xM (tx ts)=W:=by
     cases hi:xM (tx ts)with
     | false=>rfl
     | true=>
      obtain⟨j,hf⟩:=Ap d k hi;rw[hp]at hf;cases hf
    rw[zA (by rw[this];simp)];exact⟨rfl,fun h=>by simp at h⟩
   | some j=>
    have f:=tC d hp;rw[zE (Eg f)];have:=pg r (i+1) (acc++[⟨ts,j,0,0,0⟩]) (al++[tx ts]) (fun x hx=>hs x (by simp[hx])) (h.snoc ⟨f,rfl,rfl,rfl,rfl⟩);exact this
def idx (k:Int):Nat:=if k=0 then 0 else if k=1 then 1 else if k=2 then 2 else if k=3 then 3 else if k=5 then 4 else if k=7 then 5 else if k=6 then 6 else if k=4 then 7 else 8
theorem Yc (l:List UInt8) (i:Nat) (h:((l==[])=decide (i=0))/\(l==[118,97,114])=decide (i=1)/\(l==[97,114,114,97,121])=decide (i=2)/\(l==[112,114,111,99])=decide (i=3)/\ (l==[105,102])=decide (i=4)/\(l==[119,104,105,108,101])=decide (i=5)/\(l==[101,108,115,101])=decide (i=6)/\(l==[101,110,100])=decide (i=7)):HF ⟨l.toArray⟩ i:=by
 unfold HF;rw[jl];exact h
theorem Ya {fm:qS} (h:kU t fm):HF (first t) (idx fm.kind):=by
 cases h with
 | empty=>exact Yc [] 0 (by decide)
 | var x hx=>exact Yc [118,97,114] 1 (by decide)
 | array x n hx hn h1 h2=>exact Yc [97,114,114,97,121] 2 (by decide)
 | proc x ps hx hps hl=>exact Yc [112,114,111,99] 3 (by decide)
 | end_=>exact Yc [101,110,100] 7 (by decide)
 | F8 p e he=>exact Yc [105,102] 4 (by decide)
 | gb=>exact Yc [101,108,115,101] 6 (by decide)
 | Vg p e he=>exact Yc [119,104,105,108,101] 5 (by decide)
 | set1 x p e hx he=>exact Yc [115,101,116] 8 (by decide)
 | rj x q i p e hx hi he=>exact Yc [115,101,116] 8 (by decide)
 | print p e he=>exact Yc [112,114,105,110,116] 8 (by decide)
 | read x hx=>exact Yc [114,101,97,100] 8 (by decide)
 | call x args vs hx hv=>exact Yc [99,97,108,108] 8 (by decide)
 | Jb=>exact Yc [114,101,116,117,114,110] 8 (by decide)
open Rt
theorem vA (k:Int):(idx k=0↔k=0)/\(idx k=1↔k=1)/\(idx k=2↔k=2)/\(idx k=3↔k=3)/\(idx k=4↔k=5)/\(idx k=5↔k=7)/\(idx k=6↔k=6)/\(idx k=7↔k=4):=by
 unfold idx;by_cases h0:k=0
 ·subst h0;decide
 by_cases h1:k=1
 ·subst h1;decide
 by_cases h2:k=2
 ·subst h2;decide
 by_cases h3:k=3
 ·subst h3;decide
 by_cases h5:k=5
 ·subst h5;decide
 by_cases h7:k=7
 ·subst h7;decide
 by_cases h6:k=6
 ·subst h6;decide
 by_cases h4:k=4
 ·subst h4;decide
 simp[h0,h1,h2,h3,h4,h5,h6,h7]
def cnt (ls:List Ib):Nat->Int
 | 0=>0
 | k+1=>cnt ls k+(if kJ (xU ls k)=true then 1 else 0)-(if ((first (xU ls k)).toList==[101,110,100])=true then 1 else 0)
theorem DV (h:k < G ls) (f:HF (first ls[k]) i):cnt ls (k+1)=cnt ls k+(if i=3\/i=4\/i=5 then 1 else 0)-(if i=7 then 1 else 0):=by
 obtain⟨H,F,A,y,x,o,z,j⟩:=f;have d:(kJ ls[k]=D)↔(i=3\/i=4\/i=5):=by
  unfold kJ;rw[y,x,o];simp[KV]
 rw[cnt,yq h,j];simp only[d,yS]
theorem nO (h:k < G ls) (d:HF (first ls[k]) i):home ls (k+1)=if i=3 then k+1 else home ls k:=by
 rw[Xy,yq h,d.2.2.2.1];simp
structure SR (ls:List Ib) (k:Nat) (bs:List Zx) (op sp:List Nat):Prop where
 rW:op=bs.map (·.line)
 GU:sp=(bs.filter (·.aB)).map (·.line)
 inv:J3 ls k op
 home:∀x,op.head?=some x->home ls k=x
 FN:∀b∈bs,1<=b.line/\b.line<=k
 inc:bs.Pairwise (fun a b=>a.line < b.line)
 kind:∀b∈bs,((first (xU ls (b.line-1))).toList==[105,102])=decide (b.kind=5)
 cnt:(op.length:Int)=cnt ls k
theorem SR.same {ls:List Ib} {k i:Nat} {bs:List Zx} {op sp:List Nat} (h:SR ls k bs op sp) (d:k < G ls) (f:HF (first ls[k]) i) (o:¬(i=3\/i=4\/i=5)) (j:¬i=7):SR ls (k+1) bs op sp:=by
 refine⟨h.rW,h.GU,h.inv.same d f o j,fun x hx=>?_,fun b hb=>by have:=h.FN b hb;omega,h.inc,h.kind,?_⟩
 ·rw[nO d f,zA (by omega)];exact h.home x hx
 ·rw[DV d f,zA o,zA j,h.cnt];omega
theorem SR.push {ls:List Ib} {k i:Nat} {bs:List Zx} {op sp:List Nat} {kd:Int} (h:SR ls k bs op sp) (d:k < G ls) (f:HF (first ls[k]) i) (A:i=3\/i=4\/i=5) (z:i=3↔bs=[]) (o:i=4↔kd=5):SR ls (k+1) (bs++[⟨k+1,kd,W⟩]) (op++[k+1]) sp:=by
 refine⟨by rw[h.rW];simp,by rw[h.GU];simp,h.inv.push d f A,fun x hx=>?_,fun b hb=>?_,?_,fun b hb=>?_,?_⟩
 ·rw[nO d f];by_cases hb:bs=[]
  ·rw[zE (z.mpr hb)];rw[h.rW,hb]at hx;simpa using hx
  ·rw[zA (fun e=>hb (z.mp e))];refine h.home x ?_;have j:op≠[]:=by rw[h.rW];simpa using hb
   cases hop:op with
   | nil=>exact absurd hop j
   | cons y r=>rw[hop]at hx;simpa using hx
 ·simp at hb;rcases hb with hb | rfl
  ·have:=h.FN b hb;omega
  ·exact⟨by simp,by simp⟩
 ·rw[qE];refine⟨h.inc,by simp,fun a ha b hb=>?_⟩;simp at hb;subst hb;have:=h.FN a ha;show a.line < k+1;omega
 ·simp at hb;rcases hb with hb | rfl
  ·exact h.kind b hb
  ·show ((first (xU ls (k+1-1))).toList==[105,102])=decide (kd=5);rw[zu,yq d,f.2.2.2.2.1,xO];simpa using o
 ·rw[DV d f,zE A,zA (by omega),ze,<-h.cnt];simp
theorem hU (bs:List Zx):bs=[]\/∃pre b,bs=pre++[b]:=by
 rcases ZC bs with h | ⟨a,b,h⟩
 ·exact Or.inl h
 ·exact Or.inr ⟨a,b,by simpa using h⟩
theorem ae (d:List Zx) (b:Zx):jE (d++[b])=b:=by simp[jE]
theorem SR.uO {pre:List Zx} {b:Zx} (h:SR ls k (pre++[b]) op sp):(0 < G sp/\vQ sp=vQ op)↔b.aB=D:=by
 have f:vQ op=b.line:=by rw[h.rW];simp[vQ]
 have d:=h.GU;rw[List.filter_append,yB]at d;rw[f];cases hb:b.aB with
 | true=>
  simp[hb]at d;rw[d];simp[vQ]
 | false=>
  simp[hb]at d;constructor
  ·rintro ⟨j,i⟩;rcases hU (pre.filter (·.aB))with he | ⟨p2,c,he⟩
   ·rw[d,he]at j;simp at j
   ·rw[d,he]at i;simp[vQ]at i;have o:c∈pre:=by
     have:c∈pre.filter (·.aB):=by rw[he];simp
     exact(List.mem_filter.mp this).1
    have:=(qE.mp h.inc).2.2 c o b (by simp);omega
  ·intro h;cases h
theorem SR.aB {ls:List Ib} {k i:Nat} {pre:List Zx} {b:Zx} {op sp:List Nat} (h:SR ls k (pre++[b]) op sp) (j:k < G ls) (o:HF (first ls[k]) i) (y:i=6) (x:b.aB=W):SR ls (k+1) (pre++[⟨b.line,b.kind,D⟩]) op (sp++[vQ op]):=by
 have d:=h.same j o (by omega) (by omega);have f:vQ op=b.line:=by rw[h.rW];simp[vQ]
 refine⟨by rw[h.rW];simp,?_,d.inv,d.home,fun c hc=>?_,?_,fun c hc=>?_,d.cnt⟩
 ·rw[f,h.GU];simp[x]
 ·simp at hc;rcases hc with hc | rfl
  ·exact d.FN c (by simp[hc])
  ·exact d.FN b (by simp)
 ·have:=qE.mp h.inc;rw[qE];refine⟨this.1,by simp,fun a ha c hc=>?_⟩;simp at hc;subst hc;exact this.2.2 a ha b (by simp)
 ·simp at hc;rcases hc with hc | rfl
  ·exact h.kind c (by simp[hc])
  ·exact h.kind b (by simp)
theorem SR.pop {ls:List Ib} {k i:Nat} {pre:List Zx} {b:Zx} {op sp:List Nat} (h:SR ls k (pre++[b]) op sp) (j:k < G ls) (o:HF (first ls[k]) i) (A:i=7):SR ls (k+1) pre op.dropLast (if 0 < G sp/\vQ sp=vQ op then sp.dropLast else sp):=by
 have d:op=pre.map (·.line)++[b.line]:=by rw[h.rW];simp
 have f:op.dropLast=pre.map (·.line):=by rw[d,xo]
 have z:=h.inv;rw[d]at z;refine⟨f,?_,by rw[f];exact z.pop j o A,fun x hx=>?_,fun c hc=>by have:=h.FN c (by simp[hc]);omega,(qE.mp h.inc).1,fun c hc=>h.kind c (by simp[hc]),?_⟩
 ·cases hb:b.aB with
  | true=>
   rw[zE (h.uO.mpr hb),h.GU];simp[hb]
  | false=>
   rw[zA (fun e=>by have:=h.uO.mp e;rw[hb]at this;cases this),h.GU];simp[hb]
 ·rw[nO j o,zA (by omega)];refine h.home x ?_;rw[f]at hx;rw[d];cases hp:pre with
  | nil=>rw[hp]at hx;simp at hx
  | cons y r=>rw[hp]at hx;simpa using hx
 ·rw[DV j o,zA (by omega),zE A,<-h.cnt,f,d];simp
structure uB (ls:List Ib) (l:Nat) (p:PL) (t:Ib):Prop where
 line:kU t p.form
 yY:tx p.yY=t
 proc:¬(idx p.form.kind=0\/idx p.form.kind=1\/idx p.form.kind=2\/idx p.form.kind=3)->p.proc=(home ls (l+1):Nat)
 opener:idx p.form.kind=7->p.opener=(openerFrom ls l 1:Nat)
 aB:idx p.form.kind=6->p.opener=(openerFrom ls l 1:Nat)
 depth:p.depth=if idx p.form.kind=6\/idx p.form.kind=7 then cnt ls l-1 else cnt ls l
inductive LN (ls:List (List ByteArray)):Nat->List PL->List (List ByteArray)->Prop
 | nil (k:Nat):LN ls k [] []
 | cons (k:Nat) (p:PL) (t:List ByteArray) (ps:List PL) (us:List (List ByteArray)):uB ls k p t->LN ls (k+1) ps us->LN ls k (p::ps) (t::us)
theorem sG {bs:List Zx} {p:PL} (h:SR ls k bs op sp) (T:k < G ls) (R:FH p ls[k]) (had:Yj bs p.form.kind=D):uB ls k (ym bs p) ls[k]:=by
 obtain⟨A,F,V,ho,O⟩:=R;have U:=Ya A;obtain⟨N,M,L,J,i4,Z,o,j⟩:=vA p.form.kind;rcases hU bs with rfl | ⟨pre,b,rfl⟩
 ·have d:ym [] p=p:=by simp[ym]
  have W:cnt ls k=0:=by rw[<-h.cnt,h.rW];rfl
  unfold Yj at had;have hk4:p.form.kind=0\/p.form.kind=1\/p.form.kind=2\/p.form.kind=3:=by
   by_cases hx:p.form.kind=0
   ·exact Or.inl hx
   ·rw[zA hx]at had;by_cases hy:p.form.kind=1\/p.form.kind=2\/p.form.kind=3
    ·exact Or.inr hy
    ·rw[zA hy,zE rfl]at had;cases had
  rw[d];refine⟨A,F,fun hn=>?_,fun h7=>?_,fun h6=>?_,?_⟩
  ·exfalso;apply hn;rcases hk4 with h | h | h | h
   ·exact Or.inl (N.mpr h)
   ·exact Or.inr (Or.inl (M.mpr h))
   ·exact Or.inr (Or.inr (Or.inl (L.mpr h)))
   ·exact Or.inr (Or.inr (Or.inr (J.mpr h)))
  ·have:=j.mp h7;omega
  ·have:=o.mp h6;omega
  ·rw[V,W,zA];rintro (h | h)
   ·have:=o.mp h;omega
   ·have:=j.mp h;omega
 ·have x:¬(pre++[b])=[]:=by simp
  have H:op=pre.map (·.line)++[b.line]:=by rw[h.rW];simp
  have I:=ae pre b;have z:((pre++[b]).length:Int)=cnt ls k:=by rw[<-h.cnt,h.rW];simp
  have f:openerFrom ls k 1=b.line:=h.inv (pre.map (·.line)) b.line [] (by rw[H]);have i:home ls k=(kr (pre++[b])).line:=by
   refine h.home _ ?_;rw[h.rW];cases pre with
   | nil=>simp[kr]
   | cons c r=>simp[kr]
  have y:¬idx p.form.kind=3->home ls (k+1)=(kr (pre++[b])).line:=fun hn=>by rw[nO T U,zA hn];exact i
  by_cases h46:p.form.kind=6\/p.form.kind=4
  ·have d:ym (pre++[b]) p=⟨p.yY,p.form,((pre++[b]).length:Int)-1,b.line,(kr (pre++[b])).line⟩:=by
    rw[ym,zA x,zE h46,I]
   rw[d];refine⟨A,F,fun hn=>?_,fun h7=>?_,fun h6=>?_,?_⟩
   ·show ((kr (pre++[b])).line:Int)=_;rw[y (fun e=>hn (Or.inr (Or.inr (Or.inr e))))]
   ·show (b.line:Int)=_;rw[f]
   ·show (b.line:Int)=_;rw[f]
   ·show ((pre++[b]).length:Int)-1=_;rw[zE (h46.imp o.mpr j.mpr),z]
  ·have d:ym (pre++[b]) p=⟨p.yY,p.form,(pre++[b]).length,p.opener,(kr (pre++[b])).line⟩:=by
    rw[ym,zA x,zA h46]
   rw[d];refine⟨A,F,fun hn=>?_,fun h7=>?_,fun h6=>?_,?_⟩
   ·show ((kr (pre++[b])).line:Int)=_;rw[y (fun e=>hn (Or.inr (Or.inr (Or.inr e))))]
   ·exact absurd (Or.inr (j.mp h7)) h46
   ·exact absurd (Or.inl (o.mp h6)) h46
   ·show ((pre++[b]).length:Int)=_;rw[zA (fun e=>h46 (e.imp o.mp j.mp)),z]
def eh (ls:List Ib) (k:Nat) (acc:List PL) (Z:Nat×List PL×List Zx) (X:Nat):Prop:=
 (Z.1=0/\Z.2.2=[]/\X=0/\∃ps,Z.2.1=acc++ps/\LN ls k ps (ls.drop k))\/(Z.1=0/\¬Z.2.2=[]/\X=G ls)\/(¬Z.1=0/\X=Z.1)
theorem uV {ls:List Ib}:∀(rem:List PL) (k:Nat) (bs:List Zx) (acc:List PL) (op sp:List Nat),LR FH rem (ls.drop k)->SR ls k bs op sp->k<=G ls->
  eh ls k acc (Rt.nestFrom rem (k+1) bs acc) (nestFrom ls (ls.drop k) k op sp)
 | [],k,bs,acc,op,sp,hr,hs,hkl=>by
  have hk:ls.drop k=[]:=by
   generalize ls.drop k=d at hr;cases hr;rfl
  have V:k=G ls:=by
   have:=qB List.length hk;simp at this;omega
  rw[hk];by_cases hb:bs=[]
  ·refine Or.inl ⟨rfl,hb,?_,[],by simp[Rt.nestFrom],by rw[hk];exact .nil k⟩;rw[nestFrom,zE (by rw[hs.rW,hb];rfl)]
  ·refine Or.inr (Or.inl ⟨rfl,hb,?_⟩);rw[nestFrom,zA (by rw[hs.rW];simpa using hb),V]
 | p::rem,k,bs,acc,op,sp,hr,hs,hkl=>by
  have hk:k < G ls:=by
   have:=hr.len;simp at this;omega
  have x:=zZ hk;rw[x]at hr;cases hr with
  | cons _ _ _ _ hp hr=>
  have z:=Ya hp.1;obtain⟨i0,i1,i2,J,T,i5,i6,i7⟩:=vA p.form.kind;have y:G op=G bs:=by rw[hs.rW];simp
  have j:Yj bs p.form.kind=W->eh ls k acc (Rt.nestFrom (p::rem) (k+1) bs acc) (k+1):=by
   intro i;rw[Rt.nestFrom,zA (by rw[i];simp)];exact Or.inr (Or.inr ⟨by simp,rfl⟩)
  have A:∀op' sp',Yj bs p.form.kind=D->SR ls (k+1) (qK bs (k+1) p.form.kind) op' sp'->eh ls k acc (Rt.nestFrom (p::rem) (k+1) bs acc) (nestFrom ls (ls.drop (k+1)) (k+1) op' sp'):=by
   intro op' sp' i U;have hrel:=sG hs hk hp i;rw[Rt.nestFrom,zE i];rcases uV rem (k+1) _ (acc++[ym bs p]) op' sp' hr U hk with⟨a1,a2,a3,ps,a4,a5⟩| a | a
   ·exact Or.inl ⟨a1,a2,a3,ym bs p::ps,by rw[a4];simp,by rw[x];exact .cons k _ _ _ _ hrel a5⟩
   ·exact Or.inr (Or.inl a)
   ·exact Or.inr (Or.inr a)
  rw[Vt hk z];by_cases e0:p.form.kind=0
  ·have i:Yj bs p.form.kind=D:=by rw[Yj,zE e0]
   have f:qK bs (k+1) p.form.kind=bs:=by simp[qK,e0]
   have h0:=i0.mpr e0;rw[zE h0];exact A op sp i (by rw[f];exact hs.same hk z (by omega) (by omega))
  rw[zA (fun e=>e0 (i0.mp e))];by_cases et:p.form.kind=1\/p.form.kind=2\/p.form.kind=3
  ·have ei:idx p.form.kind=1\/idx p.form.kind=2\/idx p.form.kind=3:=et.imp i1.mpr (Or.imp i2.mpr J.mpr);by_cases hb:bs=[]
   ·have i:Yj bs p.form.kind=D:=by rw[Yj,zA e0,zE et];simp[hb]
    rw[zA (by rw[y,hb];simp[ei])];by_cases e3:p.form.kind=3
    ·have Z:=J.mpr e3;have f:qK bs (k+1) p.form.kind=bs++[⟨k+1,3,W⟩]:=by simp[qK,e3]
     rw[zE (Or.inl Z)];refine A (op++[k+1]) sp i ?_;rw[f];exact hs.push hk z (Or.inl Z) ⟨fun _=>hb,fun _=>Z⟩ ⟨fun e=>by omega,fun e=>by omega⟩
    ·have f:qK bs (k+1) p.form.kind=bs:=by
      rw[qK,zA (by omega),zA (by omega),zA (by omega)]
     have I:¬(idx p.form.kind=3\/idx p.form.kind=4\/idx p.form.kind=5):=by omega
     have n6:¬idx p.form.kind=6:=by omega
     have H:¬idx p.form.kind=7:=by omega
     rw[zA I,zA n6,zA H];refine A op sp i ?_;rw[f];exact hs.same hk z I H
   ·have i:Yj bs p.form.kind=W:=by rw[Yj,zA e0,zE et];simp[hb]
    have:¬G op=0:=by rw[y];simpa using hb
    rw[zE (by simp[ei,this])];exact j i
  ·have ni:¬(idx p.form.kind=1\/idx p.form.kind=2\/idx p.form.kind=3):=fun e=>et (e.imp i1.mp (Or.imp i2.mp J.mp));rcases hU bs with rfl | ⟨pre,b,rfl⟩
   ·have i:Yj [] p.form.kind=W:=by rw[Yj,zA e0,zA et,zE rfl]
    have:G op=0:=by rw[y];rfl
    rw[zE (by simp[ni,this])];exact j i
   ·have o:¬(pre++[b])=[]:=by simp
    have M:=ae pre b;have R:¬G op=0:=by rw[y];simp
    rw[zA (by simp[ni,R])];have I:¬p.form.kind=3:=fun e=>et (Or.inr (Or.inr e));by_cases e57:p.form.kind=5\/p.form.kind=7
    ·have i:Yj (pre++[b]) p.form.kind=D:=by rw[Yj,zA e0,zA et,zA o,zA (by omega)]
     have hi:idx p.form.kind=3\/idx p.form.kind=4\/idx p.form.kind=5:=Or.inr (e57.imp T.mpr i5.mpr);have f:qK (pre++[b]) (k+1) p.form.kind=(pre++[b])++[⟨k+1,p.form.kind,W⟩]:=by rw[qK,zE (Or.inr e57)]
     rw[zE hi];refine A (op++[k+1]) sp i ?_;rw[f];exact hs.push hk z hi ⟨fun e=>absurd (J.mp e) I,fun e=>absurd e o⟩ T
    ·have F:¬(idx p.form.kind=3\/idx p.form.kind=4\/idx p.form.kind=5):=by
      rintro (e | e | e)
      ·exact I (J.mp e)
      ·exact e57 (Or.inl (T.mp e))
      ·exact e57 (Or.inr (i5.mp e))
     rw[zA F];by_cases e6:p.form.kind=6
     ·have h6:=i6.mpr e6;rw[zE h6];have L:vQ op=b.line:=by rw[hs.rW];simp[vQ]
      have N:=hs.kind b (by simp);have O:Yj (pre++[b]) p.form.kind=(decide (b.kind=5) && !b.aB):=by rw[Yj,zA e0,zA et,zA o,zE e6,M]
      have f:qK (pre++[b]) (k+1) p.form.kind=pre++[⟨b.line,b.kind,D⟩]:=by
       rw[qK,zA (by omega),zE e6,zA o,M];simp
      by_cases hc:b.kind=5/\b.aB=W
      ·have i:Yj (pre++[b]) p.form.kind=D:=by rw[O];simp[hc.1,hc.2]
       rw[zA]
       ·refine A op (sp++[vQ op]) i ?_;rw[f];exact hs.aB hk z h6 hc.2
       ·rintro (h | h)
        ·rw[L,N]at h;simp[hc.1]at h
        ·have:=hs.uO.mp h;rw[hc.2]at this;cases this
      ·have i:Yj (pre++[b]) p.form.kind=W:=by
        rw[O];cases hb:b.aB with
        | true=>simp
        | false=>
         have:¬b.kind=5:=fun e=>hc ⟨e,hb⟩;simp[this]
       rw[zE]
       ·exact j i
       ·by_cases h5:b.kind=5
        ·refine Or.inr (hs.uO.mpr ?_);cases hb:b.aB with
         | true=>rfl
         | false=>exact absurd ⟨h5,hb⟩ hc
        ·refine Or.inl ?_;rw[L,N];simp[h5]
     ·rw[zA (fun e=>e6 (i6.mp e))];have i:Yj (pre++[b]) p.form.kind=D:=by rw[Yj,zA e0,zA et,zA o,zA e6]
      by_cases e4:p.form.kind=4
      ·have h7:=i7.mpr e4;have f:qK (pre++[b]) (k+1) p.form.kind=pre:=by
        rw[qK,zA (by omega),zA e6,zE e4];simp
       rw[zE h7];refine A _ _ i ?_;rw[f];exact hs.pop hk z h7
      ·have f:qK (pre++[b]) (k+1) p.form.kind=pre++[b]:=by
        rw[qK,zA (by omega),zA e6,zA e4]
       have H:¬idx p.form.kind=7:=fun e=>e4 (i7.mp e);rw[zA H];refine A op sp i ?_;rw[f];exact hs.same hk z F H
open Rt
theorem LN.len {ps:List PL} (h:LN ls k ps us):G ps=G us:=by
 induction h with
 | nil=>rfl
 | cons k p t ps us _ _ ih=>simp[ih]
theorem LN.get {ps:List PL} (h:LN ls k ps us):∀j (h1:j < G ps) (h2:j < G us),uB ls (k+j) ps[j] us[j]:=by
 induction h with
 | nil=>intro j h1;simp at h1
 | cons k p t ps us hp _ ih=>
  intro j h1 h2;cases j with
  | zero=>exact hp
  | succ j=>
   have:=ih j (by simpa using h1) (by simpa using h2);rw[show k+1+j=k+(j+1) by omega]at this;exact this
theorem uI (d:HF (first t) i):Xl t=decide (i=1\/i=2\/i=3):=by
 obtain⟨k,j,h,f,_⟩:=d;unfold Xl;rw[j,h,f,xO];simp[KV]
theorem BF {fm:qS} (h:kU t fm) (d:fm.kind=1\/fm.kind=2\/fm.kind=3):ve t 1=fm.name:=by
 cases h with
 | var x hx=>rfl
 | array x n hx hn h1 h2=>rfl
 | proc x ps hx hps hl=>rfl
 | _=>simp at d
theorem DQ {p:PL} (h:kU t p.form) (x:Ia):isDecl p x=Kk t x:=by
 obtain⟨G,j,i,f,F,D,A,z⟩:=vA p.form.kind;rw[isDecl,Kk,uI (Ya h)];by_cases hk:p.form.kind=1\/p.form.kind=2\/p.form.kind=3
 ·have d:idx p.form.kind=1\/idx p.form.kind=2\/idx p.form.kind=3:=hk.imp j.mpr (Or.imp i.mpr f.mpr);rw[BF h hk,me,qA d];rcases hk with hk | hk | hk <;> simp[hk]
 ·have d:¬(idx p.form.kind=1\/idx p.form.kind=2\/idx p.form.kind=3):=fun e=>hk (e.imp j.mp (Or.imp i.mp f.mp));rw[qP d];have y:¬p.form.kind=1:=fun e=>hk (Or.inl e);have o:¬p.form.kind=2:=fun e=>hk (Or.inr (Or.inl e));have k:¬p.form.kind=3:=fun e=>hk (Or.inr (Or.inr e));simp[y,o,k]
theorem decl_eq {ps:List PL} (h:LN ls k ps us) (x:Ia):∀n,Rt.declFrom n ps x=declFrom n us x:=by
 induction h with
 | nil=>intro n;rfl
 | cons k p t ps us hp _ ih=>
  intro n;rw[Rt.declFrom,declFrom,DQ hp.line,ih]
structure ZM (zL:List PL) (ls:List Ib):Prop where
 ex:∃ps,zL=kb::ps/\LN ls 0 ps ls
 nested:nested ls=0
theorem ZM.len {zL:List PL} {ls:List Ib} (h:ZM zL ls):G zL=G ls+1:=by
 obtain⟨ps,rfl,d⟩:=h.ex;simp[d.len]
theorem ZM.get {zL:List PL} {ls:List Ib} (h:ZM zL ls) {l:Nat} (f:l < G ls):∃p,zL[l+1]?=Q p/\uB ls l p ls[l]:=by
 obtain⟨ps,rfl,d⟩:=h.ex;have:=d.len;refine⟨ps[l]'(by omega),by simp,?_⟩;have:=d.get l (by omega) f;simpa using this
theorem ZM.Xh {zL:List PL} (h:ZM zL ls) (x:Ia):xb zL x=decl ls x:=by
 obtain⟨ps,rfl,d⟩:=h.ex;exact decl_eq d x 1
theorem ZM.um {zL:List PL} (h:ZM zL ls):yA zL (0:Nat)=zF:=by
 obtain⟨ps,rfl,d⟩:=h.ex;rfl
theorem ZM.form {zL:List PL} {ls:List Ib} (h:ZM zL ls) {l:Nat} (d:l < G ls):kU ls[l] (yA zL ((l+1:Nat):Int)):=by
 obtain⟨p,i,f⟩:=h.get d;have:yA zL ((l+1:Nat):Int)=p.form:=by
  rw[yA,zA (by omega),xS,i];rfl
 rw[this];exact f.line
theorem ZM.bD {zL:List PL} (h:ZM zL ls) (x:Ia):(decl ls x=0/\yJ zL x=zF)\/(¬decl ls x=0/\∃hd:decl ls x-1 < G ls,kU ls[decl ls x-1] (yJ zL x)):=by
 have d:=Qb ls x;rw[yJ,h.Xh];by_cases h0:decl ls x=0
 ·exact Or.inl ⟨h0,by rw[h0];exact h.um⟩
 ·refine Or.inr ⟨h0,by omega,?_⟩;have:=h.form (l:=decl ls x-1) (by omega);rw[show decl ls x-1+1=decl ls x by omega]at this;exact this
theorem KO {fm:qS} (h:kU t fm) (f:((first t).toList==[112,114,111,99])=D):fm.kind=3/\fm.params=t.drop 2:=by
 have i:=Ya h;have j:idx fm.kind=3:=by
  have:=i.2.2.2.1;rw[f]at this;simpa using this.symm
 have d:=(vA fm.kind).2.2.2.1.mp j;refine⟨d,?_⟩;cases h with
 | proc x ps hx hps hl=>rfl
 | _=>simp at d
theorem ZM.par {zL:List PL} (h:ZM zL ls) (k:0 < home ls (l+1)) (o:l < G ls) (x:Ia):VS zL ((home ls (l+1):Nat):Int) x=kp (Vp ls l) x:=by
 have y:=tN ls (l+1);have i:=nN ls (l+1) k;obtain⟨d,j⟩:∃d,home ls (l+1)=d+1:=⟨home ls (l+1)-1,by omega⟩;have f:d < G ls:=by omega
 rw[j,zu,yq f]at i;have:=KO (h.form f) i;rw[VS,Vp,j,zu,yq f,this.2];rfl
theorem ZM.named {zL:List PL} (h:ZM zL ls) (k:0 < home ls (l+1)) (j:l < G ls) (i:yg x=D) (c:Bool):QK ls l x c=if c=D then ZW zL ((home ls (l+1):Nat):Int) x else Rt.isVar zL ((home ls (l+1):Nat):Int) x:=by
 rw[QK,zA (by rw[i];simp),ZW,Rt.isVar,h.par k j];cases hp:kp (Vp ls l) x with
 | true=>rw[zE rfl];cases c <;> rfl
 | false=>
  rw[zA (by simp)];rcases h.bD x with⟨h0,hz⟩| ⟨h0,hd,hli⟩
  ·rw[zE h0,hz];cases c <;> rfl
  ·rw[zA h0];obtain⟨z,y,o,_⟩:=Ya hli;obtain⟨_,f,d,_⟩:=vA (yJ zL x).kind;rw[yq hd,y,o];cases c with
   | true=>simp[d]
   | false=>simp[f]
theorem aX {zL:List PL} {ls:List Ib} (h:ZM zL ls) {l:Nat} (j:0 < home ls (l+1)) (i:l < G ls) (t:Ib):∀f k,k+f=G t->
  namesFrom ls l t f k=toksOK (Rt.isVar zL ((home ls (l+1):Nat):Int)) (ZW zL ((home ls (l+1):Nat):Int)) (t.drop k)
 | 0,k,hk=>by rw[zp (by omega)];rfl
 | f+1,k,hk=>by
  have d:k < G t:=by omega
  rw[namesFrom,zZ d,toksOK,aX h j i t f (k+1) (by omega),qq d];congr 1;have o:(cellAt t k=D)↔first (t.drop (k+1))=qI:=by
   rw[cellAt,ZF,jG];have:first (t.drop (k+1))=ve t (k+1):=by simp[first,ve]
   rw[this];rfl
  by_cases hx:yg t[k]=D
  ·rw[h.named j i hx,zE hx];by_cases hcc:cellAt t k=D
   ·rw[zE hcc,zE (o.mp hcc)]
   ·rw[zA hcc,zA (fun e=>hcc (o.mpr e))]
  ·rw[zA hx,QK,zE (by simpa using hx)]
theorem Y0 {zL:List PL} {proc:Int} {e:List qM}:XP zL proc e=ZG (Rt.isVar zL proc) (ZW zL proc) e:=rfl
theorem KF (V A:Ia->Bool) (d:yg x=D) (r:Ib):toksOK V A (x::r)=((if first r=qI then A x else V x) && toksOK V A r):=by rw[toksOK,zE d]
theorem db (l:List UInt8) (h:(⟨l.toArray⟩:Ia)∈KM):yg ⟨l.toArray⟩=W:=by
 have:kp KM ⟨l.toArray⟩=D:=by simp[kp];exact h
 simp[yg,this]
theorem aE (V A:Ia->Bool):∀(es:List (List qM)) (args:List Ib),Bg es args->toksOK V A (joinC args)=es.all (ZG V A)
 | _,_,.nil=>rfl
 | _,_,.cons e p [] [] he .nil=>by simp[joinC,he.2.1]
 | _,_,.cons e p (e2::es) (q::qs) he h=>by
  have d:=aE V A (e2::es) (q::qs) h;rw[joinC,ZQ V A (by show ¬kS=qI;simp[kS,qI]),jI V A (show yg kS=W from ZV 44 (by decide)),d,<-he.2.1];simp only[kY]
theorem vG {r:Ib} (lt:List UInt8) (h:x=⟨lt.toArray⟩) (j:(lt==[118,97,114])=W) (i:(lt==[97,114,114,97,121])=W) (f:(lt==[112,114,111,99])=W) (d:(lt==[99,97,108,108])=W):jZ ls l (x::r)=namesFrom ls l (x::r) (G r) 1:=by
 have e:(first (x::r)).toList=lt:=by show x.toList=lt;rw[h,jl]
 rw[jZ,e,j,i,f,d];simp
theorem fA {t:Ib}:∀f k,k+f=G t->(twiceFrom t f k=W↔∀i,k<=i->i < G t->kp (t.take i) (ve t i)=W)
 | 0,k,hk=>by
  constructor
  ·intro _ i j d;omega
  ·intro _;rfl
 | f+1,k,hk=>by
  rw[twiceFrom,Bool.or_eq_false_iff,fA f (k+1) (by omega)];constructor
  ·rintro ⟨j,d⟩ i x o;by_cases e:i=k
   ·subst e;exact j
   ·exact d i (by omega) o
  ·intro h;exact⟨h k (zB _) (by omega),fun i j d=>h i (by omega) d⟩
theorem ug (d:i < G t):kp (t.take i) (ve t i)=W↔∀j,j < i->¬t[i]?=t[j]?:=by
 rw[qq d,yL];constructor
 ·intro h j f e;apply h;rw[zJ d,zJ (show j < G t by omega)]at e;simp[kp];rw[List.mem_take_iff_getElem];exact⟨j,by omega,by simpa using e.symm⟩
 ·intro h e;simp[kp]at e;rw[List.mem_take_iff_getElem]at e;obtain⟨j,f,e⟩:=e;have:=h j (by omega);rw[zJ d,zJ (show j < G t by omega)]at this;exact this (by rw[e])
theorem dP (t:Ib):VN t=W↔bh t (G t):=by
 rw[VN,fA (G t) 0 (by omega)];constructor
 ·intro h i j f d _;exact(ug d).mp (h i (by omega) d) j f
 ·intro h i _ d;exact(ug d).mpr (fun j f=>h i j f d d)
open Classical in
theorem CB {zL:List PL} (h:ZM zL ls) (I:l < G ls) {p:PL} (D:uB ls l p ls[l]):jZ ls l ls[l]=qh zL (l+1) p:=by
 have N:Xl ls[l]=W->((first ls[l]).toList==[])=W->0 < home ls (l+1):=fun a b=>dc h.nested I a b;have o:=D.proc;have hli:=D.line;clear D;have j:=h.Xh;generalize ls[l]=t at *;obtain⟨T,A,U,J,H⟩:=p;simp only at hli o;have y:=Ya hli;have d:¬(idx A.kind=0\/idx A.kind=1\/idx A.kind=2\/idx A.kind=3)->∀k f,k+f=G t->namesFrom ls l t f k=toksOK (Rt.isVar zL H) (ZW zL H) (t.drop k):=by
  intro z k f M;have F:0 < home ls (l+1):=N (by rw[uI y,qP];intro e;exact z (Or.inr e)) (by rw[y.1,qP];intro e;exact z (Or.inl e));rw[o z];exact aX h F I t f k M
 unfold qh;cases hli with
 | empty=>simp[jZ,first,ve,namesFrom,jF,XP]
 | var x hx=>
  have e:(first [Dy,x]).toList=[118,97,114]:=jl [118,97,114];rw[jZ,e,zE (by decide),zE (Or.inl rfl)];show decide (decl ls x=l+1)=decide (xb zL x=l+1);rw[j]
 | array x n hx z h1 h2=>
  have e:(first [nc,x,n]).toList=[97,114,114,97,121]:=jl [97,114,114,97,121];rw[jZ,e,zA (by decide),zE (by decide),zE (Or.inr rfl)];show decide (decl ls x=l+1)=decide (xb zL x=l+1);rw[j]
 | proc x ps hx hps hpl=>
  have e:(first (lK::x::ps)).toList=[112,114,111,99]:=jl [112,114,111,99];rw[jZ,e,zA (by decide),zA (by decide),zE (by decide),zA (by simp),zE rfl];show (decide (decl ls x=l+1) && !VN ps && (!(x.toList==[109,97,105,110])|| decide ((lK::x::ps).length=2)))=(decide (xb zL x=l+1) && (!((x.toList==QN) && decide (0 < G ps)) && decide (bh ps (G ps))));rw[j,show QN=[109,97,105,110]from rfl];have L:VN ps=!decide (bh ps (G ps)):=by
   by_cases hd:bh ps (G ps)
   ·rw[(dP ps).mpr hd,qA hd];rfl
   ·rw[qP hd];cases htw:VN ps with
    | true=>rfl
    | false=>exact absurd ((dP ps).mp htw) hd
  rw[L];have hz:decide ((lK::x::ps).length=2)=!decide (0 < G ps):=by
   rw[xO];simp
  rw[hz];cases decide (decl ls x=l+1) <;> cases (x.toList==[109,97,105,110]) <;> cases decide (bh ps (G ps)) <;> cases decide (0 < G ps) <;> rfl
 | end_=>
  rw[vG (x:=DH) [101,110,100] rfl (by decide) (by decide) (by decide) (by decide)];simp[namesFrom,jF,XP]
 | F8 q e he=>
  rw[vG (x:=Gi) [105,102] rfl (by decide) (by decide) (by decide) (by decide),d (by simp[idx]) 1 _ (by simp;omega)];show toksOK _ _ q=_;rw[<-he.2.1];simp[jF,Y0,ZG]
 | gb=>
  rw[vG (x:=uw) [101,108,115,101] rfl (by decide) (by decide) (by decide) (by decide)];simp[namesFrom,jF,XP]
 | Vg q e he=>
  rw[vG (x:=ez) [119,104,105,108,101] rfl (by decide) (by decide) (by decide) (by decide),d (by simp[idx]) 1 _ (by simp;omega)];show toksOK _ _ q=_;rw[<-he.2.1];simp[jF,Y0,ZG]
 | set1 x q e hx he=>
  rw[vG (x:=Zz) [115,101,116] rfl (by decide) (by decide) (by decide) (by decide),d (by simp[idx]) 1 _ (by simp;omega)];show toksOK _ _ (x::Ym::q)=_;rw[KF _ _ hx,zA (show ¬first (Ym::q)=qI by show ¬Ym=qI;simp[Ym,qI]),jI _ _ (show yg Ym=W from db [116,111] (by simp[KM])),<-he.2.1];simp[jF,Y0,ZG]
 | rj x q i u e hx hi he=>
  rw[vG (x:=Zz) [115,101,116] rfl (by decide) (by decide) (by decide) (by decide),d (by simp[idx]) 1 _ (by simp;omega)];show toksOK _ _ (x::qI::(q++kM::Ym::u))=_;rw[KF _ _ hx,zE (show first (qI::(q++kM::Ym::u))=qI from rfl),jI _ _ (show yg qI=W from ZV 91 (by decide)),ZQ _ _ (show ¬first (kM::Ym::u)=qI by show ¬kM=qI;simp[kM,qI]),
   jI _ _ (show yg kM=W from ZV 93 (by decide)),jI _ _ (show yg Ym=W from db [116,111] (by simp[KM])),<-hi.2.1,<-he.2.1];simp[jF,Y0,ZG]
 | print q e he=>
  rw[vG (x:=fV) [112,114,105,110,116] rfl (by decide) (by decide) (by decide) (by decide),d (by simp[idx]) 1 _ (by simp;omega)];show toksOK _ _ q=_;rw[<-he.2.1];simp[jF,Y0,ZG]
 | read x hx=>
  rw[vG (x:=oF) [114,101,97,100] rfl (by decide) (by decide) (by decide) (by decide),d (by simp[idx]) 1 _ (by simp)];show toksOK _ _ [x]=_;rw[KF _ _ hx,zA (show ¬first []=qI by simp[first,ve,qI])];simp[jF,Y0,ZG,toksOK]
 | call x args vs hx hv=>
  have e:(first (VY::x::joinC args)).toList=[99,97,108,108]:=jl [99,97,108,108];rw[jZ,e,zA (by decide),zA (by decide),zA (by decide),zE (by decide),d (by simp[idx]) 2 _ (by simp;omega)];show (Xr ls (VY::x::joinC args) && toksOK _ _ (joinC args))=_;rw[aE _ _ _ _ hv];have O:Xr ls (VY::x::joinC args)=XF zL ⟨12,x,0,[],[],vs⟩:=by
   rw[Xr,XF];show (if decl ls x=0 then W else if ((first (xU ls (decl ls x-1))).toList==[112,114,111,99])=W then W else decide ((parts (joinC args)).length=((xU ls (decl ls x-1)).drop 2).length))=(decide ((yJ zL x).kind=3) && decide ((yJ zL x).params.length=G vs));rcases h.bD x with⟨h0,hz⟩| ⟨h0,hd,hli⟩
   ·rw[zE h0,hz];rfl
   ·rw[zA h0,yq hd];cases hpc:((first ls[decl ls x-1]).toList==[112,114,111,99])with
    | false=>
     rw[zE rfl];have:=(Ya hli).2.2.2.1;rw[hpc]at this;have R:=(vA (yJ zL x).kind).2.2.2.1;have:¬(yJ zL x).kind=3:=fun e=>by rw[R.mpr e]at this;cases this
     simp[this]
    | true=>
     rw[zA (by decide)];have:=KO hli hpc;rw[this.1,this.2,aP args hv.is,<-hv.len];simp[eY]
  rw[O];simp[jF,Y0];rfl
 | Jb=>
  rw[vG (x:=aK) [114,101,116,117,114,110] rfl (by decide) (by decide) (by decide) (by decide)];simp[namesFrom,jF,XP]
open Rt
theorem fx {zL:List PL} {ls:List Ib} (h:ZM zL ls):∀f k,k+f=G ls->nameErr zL (k+1) (zL.drop (k+1))=rightFrom ls f k
 | 0,k,hk=>by
  rw[zp (by rw[h.len];omega)];rfl
 | f+1,k,hk=>by
  have d:k < G ls:=by omega
  obtain⟨p,x,o⟩:=h.get d;obtain⟨i,j⟩:=qy.mp x;rw[zZ i,j,nameErr,rightFrom,yq d,CB h d o,fx h f (k+1) (by omega)]
theorem main_eq {zL:List PL} (h:ZM zL ls):((yJ zL xP).kind=3)↔(¬decl ls Yk=0/\((first (xU ls (decl ls Yk-1))).toList==[112,114,111,99])=D):=by
 rcases h.bD Yk with⟨h0,hz⟩| ⟨h0,hd,hli⟩
 ·rw[show yJ zL xP=zF from hz,h0];simp[zF]
 ·have d:=(vA (yJ zL Yk).kind).2.2.2.1;rw[yq hd,(Ya hli).2.2.2.1];show ((yJ zL Yk).kind=3)↔_;rw[<-d];simp[h0]
theorem DI (ls:List Ib):SR ls 0 [] [] []:=by
 refine⟨rfl,rfl,?_,by simp,by simp,.nil,by simp,rfl⟩;intro f o d h;simp at h
theorem eR (s:Ia):(qx s).1=(vP s).1/\(qx s).2.1=(vP s).2.1/\((qx s).1=0->ZM (qx s).2.2 (vP s).2.2):=by
 have A:=ch s;unfold qx vP;by_cases h1:40000 < s.size
 ·rw[zE (show ZE s=D by simp[ZE,h1]),zE h1];exact⟨rfl,rfl,fun h=>by simp at h⟩
 rw[zA h1];by_cases h2:100 < (lines s).length
 ·rw[zE (show ZE s=D by simp[ZE];omega),zE h2];exact⟨rfl,rfl,fun h=>by simp at h⟩
 rw[zA (show ¬ZE s=D by simp[ZE];omega),zA h2];obtain⟨z,I⟩:=pg (lines s) 0 [] [] (YM (by omega)) .nil;unfold Yq;rw[z];by_cases h3:(formsFrom 0 (lines s) []).1=0
 ·rw[zA (by omega),zA (by omega)];obtain⟨ps,H,e4⟩:=I (z.trans h3);rw[H];have d:(lines s).length=(formsFrom 0 (lines s) []).2.length:=by
   have f:∀(texts:Ib) (i:Nat) (acc:List Ib),(formsFrom i texts acc).1=0->(formsFrom i texts acc).2.length=G acc+G texts:=by
    intro texts
    induction texts with
    | nil=>intro i acc _;simp[formsFrom]
    | cons t r ih=>
     intro i acc h;rw[formsFrom]at h ⊢;cases ht:yY t with
     | none=>rw[ht]at h;simp at h
     | some ts=>
      rw[ht]at h;simp only at h ⊢;by_cases hi:xM (tx ts)=D
      ·rw[zE hi]at h ⊢;rw[ih _ _ h];simp;omega
      ·rw[zA hi]at h;simp at h
   have:=f (lines s) 0 [] h3;simpa using this.symm
  generalize (formsFrom 0 (lines s) []).2=ls at *;show (vH (Rt.nestFrom ps 1 [] [kb]).1 (Rt.nestFrom ps 1 [] [kb]).2.1 (Rt.nestFrom ps 1 [] [kb]).2.2 (lines s).length).1=_/\_;have hn:=uV (ls:=ls) ps 0 [] [kb] [] [] (by simpa using e4) (DI ls) (by omega);rw[d];change eh ls 0 [kb] (Rt.nestFrom ps 1 [] [kb]) (nested ls)at hn;show (vH (Rt.nestFrom ps 1 [] [kb]).1 (Rt.nestFrom ps 1 [] [kb]).2.1 (Rt.nestFrom ps 1 [] [kb]).2.2 (G ls)).1=(Xu ls).1/\(vH (Rt.nestFrom ps 1 [] [kb]).1 (Rt.nestFrom ps 1 [] [kb]).2.1 (Rt.nestFrom ps 1 [] [kb]).2.2 (G ls)).2.1=(Xu ls).2.1/\((vH (Rt.nestFrom ps 1 [] [kb]).1 (Rt.nestFrom ps 1 [] [kb]).2.1 (Rt.nestFrom ps 1 [] [kb]).2.2 (G ls)).1=0->ZM (vH (Rt.nestFrom ps 1 [] [kb]).1 (Rt.nestFrom ps 1 [] [kb]).2.1 (Rt.nestFrom ps 1 [] [kb]).2.2 (G ls)).2.2 (Xu ls).2.2);unfold vH Xu;rcases hn with⟨a1,a2,a3,qs,a4,a5⟩| ⟨a1,a2,a3⟩| ⟨a1,a2⟩
  ·rw[zA (by omega),zA (by simp[a2]),zA (by omega)];have o:ZM (Rt.nestFrom ps 1 [] [kb]).2.1 ls:=⟨⟨qs,a4,by simpa using a5⟩,a3⟩;generalize (Rt.nestFrom ps 1 [] [kb]).2.1=zL at *;unfold Rt.jV jV;have j:=fx o (G ls) 0 (by omega);rw[j];by_cases h4:rightFrom ls (G ls) 0=0
   ·rw[zA (show ¬¬rightFrom ls (G ls) 0=0 by omega),zA (show ¬¬rightFrom ls (G ls) 0=0 by omega)];have x:=main_eq o;by_cases h5:(yJ zL xP).kind=3
    ·have y:=x.mp h5;rw[zA (show ¬¬(yJ zL xP).kind=3 from fun h=>h h5),zA y.1,zA (by rw[y.2];simp)];exact⟨rfl,rfl,fun _=>o⟩
    ·rw[zE h5];by_cases h7:decl ls Yk=0
     ·rw[zE h7];exact⟨rfl,rfl,fun h=>by simp at h⟩
     ·rw[zA h7,zE]
      ·exact⟨rfl,rfl,fun h=>by simp at h⟩
      ·cases hq:((first (xU ls (decl ls Yk-1))).toList==[112,114,111,99])with
       | false=>rfl
       | true=>exact absurd (x.mpr ⟨h7,hq⟩) h5
   ·rw[zE h4,zE h4];exact⟨rfl,rfl,fun h=>by simp at h⟩
  ·have k:¬G ls=0:=by
    intro F;have:ls=[]:=yu F;subst this;cases e4;simp[Rt.nestFrom]at a2
   rw[zA (by omega),zE a2,a3,zE k];exact⟨rfl,rfl,fun h=>by simp at h⟩
  ·rw[zE a1,a2,zE a1];exact⟨rfl,rfl,fun h=>by simp at h⟩
 ·rw[zE h3,zE h3];exact⟨rfl,rfl,fun h=>by simp at h⟩
theorem uN {zL:List PL} (h:ZM zL ls) (L:l < G ls) {p:PL} (z:uB ls l p ls[l]):xV zL p=xx ls l ls[l]:=by
 have A:((first ls[l]).toList==[101,110,100])=D->0 < openerFrom ls l 1:=fun e=>KZ h.nested L e;have J:=Zg ls l 1;have o:=z.opener;have hli:=z.line;clear z;have j:=fun {d} (hd:d < G ls)=>h.form hd;generalize ls[l]=t at *;obtain⟨N,T,U,I,O⟩:=p;simp only at hli o;have f:∀(x:Ia) (r:Ib) (lt:List UInt8),x=⟨lt.toArray⟩->(first (x::r)).toList=lt:=fun x r lt h=>by show x.toList=lt;rw[h,jl]
 cases hli with
 | empty=>simp[xV,xy,xx,first,ve]
 | var x hx=>rw[xV,xx,f Dy _ [118,97,114] rfl];simp[xy]
 | array x n hx hn h1 h2=>rw[xV,xx,f nc _ [97,114,114,97,121] rfl];simp[xy]
 | proc x ps hx hps hpl=>rw[xV,xx,f lK _ [112,114,111,99] rfl];simp[xy]
 | end_=>
  have k:=f DH [] [101,110,100] rfl;have R:=A (by rw[k];decide);have H:=o (by decide);obtain⟨d,hd⟩:∃d,openerFrom ls l 1=d+1:=⟨openerFrom ls l 1-1,by omega⟩;have y:d < G ls:=by omega
  have F:=j y;have M:=(vA (yA zL ((d+1:Nat):Int)).kind).2.2.2.1;rw[xV,xx,k,hd,zu,yq y,(Ya F).2.2.2.1,H,hd];show decide ((yA zL ((d+1:Nat):Int)).kind=3)=decide (idx (yA zL ((d+1:Nat):Int)).kind=3);rw[xO,jG,jG];exact M.symm
 | F8 q e k=>rw[xV,xx,f Gi _ [105,102] rfl];simp[xy]
 | gb=>rw[xV,xx,f uw _ [101,108,115,101] rfl];simp[xy]
 | Vg q e k=>rw[xV,xx,f ez _ [119,104,105,108,101] rfl];simp[xy]
 | set1 x q e hx k=>rw[xV,xx,f Zz _ [115,101,116] rfl];simp[xy]
 | rj x q i u e hx H k=>rw[xV,xx,f Zz _ [115,101,116] rfl];simp[xy]
 | print q e k=>rw[xV,xx,f fV _ [112,114,105,110,116] rfl];simp[xy]
 | read x hx=>rw[xV,xx,f oF _ [114,101,97,100] rfl];simp[xy]
 | call x args vs hx hv=>rw[xV,xx,f VY _ [99,97,108,108] rfl];simp[xy]
 | Jb=>rw[xV,xx,f aK _ [114,101,116,117,114,110] rfl];simp[xy]
theorem stops_eq {zL:List PL} {ls:List Ib} (h:ZM zL ls):∀f k (acc:List Nat),k+f=G ls->Rt.stopsFrom zL (k+1) (zL.drop (k+1)) (acc.map (fun n:Nat=>(n:Int)))=(stopsFrom ls f k acc).map (fun n:Nat=>(n:Int))
 | 0,k,acc,hk=>by
  rw[zp (by rw[h.len];omega)];rfl
 | f+1,k,acc,hk=>by
  have d:k < G ls:=by omega
  obtain⟨p,x,o⟩:=h.get d;obtain⟨i,j⟩:=qy.mp x;rw[zZ i,j,Rt.stopsFrom,stopsFrom,yq d,uN h d o,<-stops_eq h f (k+1) _ (by omega)];congr 1;split <;> simp
theorem stops_same {zL:List PL} (h:ZM zL ls):IA zL=(stops ls).map (fun n:Nat=>(n:Int)):=stops_eq h (G ls) 0 [] (by omega)
end Rf
section
open Go.RowKit
namespace Rf
def spTo (out:Ia):Nat->Ia
 | 0=>out
 | k+1=>spTo out k++⟨#[32,32]⟩
def Hb (out:Ia) (deep:Int) (t:Ib):Nat->Ia
 | 0=>out
 | i+1=>(if i=0 then spTo (Hb out deep t i) deep.toNat else Hb out deep t i++⟨#[32]⟩)++ve t i
def Ho (ls:List Ib) (l:Nat):Int:=cnt ls l-(if ((first (xU ls l)).toList==[101,110,100])=D then 1 else 0)-(if ((first (xU ls l)).toList==[101,108,115,101])=D then 1 else 0)
def G2 (ls:List Ib):Nat->Ia
 | 0=>⟨#[]⟩
 | l+1=>Hb (if 0 < l then G2 ls l++⟨#[10]⟩else G2 ls l) (Ho ls l) (xU ls l) (xU ls l).length
def tidy (ls:List Ib):Ia:=G2 ls (G ls)
theorem readR_at (h:(vP s).1=0):(vP s).2.1=0:=by
 unfold vP at h ⊢;split
 ·rfl
 ·rename_i q;rw[zA q]at h;split
  ·rfl
  ·rename_i q;rw[zA q]at h;split
   ·rename_i q;rw[zE q]at h;simp at h
   ·rename_i q;rw[zA q]at h;unfold Xu at h ⊢;split
    ·rename_i q;rw[zE q]at h;simp at h
    ·rename_i q;rw[zA q]at h;split
     ·rename_i q;rw[zE q]at h;simp at h
     ·rename_i q;rw[zA q]at h;unfold jV at h ⊢;split
      ·rfl
      ·split
       ·rfl
       ·rfl
theorem IH (out:Ia):∀k,(spTo out k).size=out.size+2*k
 | 0=>rfl
 | k+1=>by rw[spTo,ByteArray.size_append,IH out k];show _+2=_;omega
theorem IV {t:Ib} (f:Y8 t) (out:Ia) (d:Int) (h:d<=200):∀i,i<=G t->(Hb out d t i).size<=out.size+400+i*40001
 | 0,_=>by rw[Hb];omega
 | i+1,hi=>by
  have j:=IV f out d h i (by omega);have k:=f.2 _ (zj (show i < G t by omega));rw[Hb,ByteArray.size_append,qq (by omega)];split
  ·rename_i h0;subst h0;rw[IH];rw[Hb];omega
  ·rw[ByteArray.size_append];have:(ByteArray.mk #[32]).size=1:=rfl;omega
theorem cnt_b (ls:List Ib):∀l:Nat,-(l:Int)<=cnt ls l/\cnt ls l<=l
 | 0=>by simp[cnt]
 | l+1=>by
  have:=cnt_b ls l;rw[cnt];split <;> split <;> omega
theorem deep_b (ls:List Ib) (l:Nat):-(l:Int)-2<=Ho ls l/\Ho ls l<=l:=by
 have:=cnt_b ls l;unfold Ho;split <;> split <;> omega
theorem lineAt_few (h:∀t∈ls,Y8 t) (l:Nat) (d:l < G ls):Y8 (xU ls l):=by rw[yq d];exact h _ (zj d)
theorem Hj {ls:List Ib} (h:∀t∈ls,Y8 t) (i:G ls<=100):∀l,l<=G ls->(G2 ls l).size<=l*50000000
 | 0,_=>zo _
 | l+1,hl1=>by
  have d:=Hj h i l (by omega);have f:=lineAt_few h l (by omega);have k:=deep_b ls l;have j:=f.1;rw[G2];have y:=IV f (if 0 < l then G2 ls l++⟨#[10]⟩else G2 ls l) (Ho ls l) (by omega) _ (zB _);have x:(if 0 < l then G2 ls l++⟨#[10]⟩else G2 ls l).size<=l*50000000+1:=by
   split
   ·rw[ByteArray.size_append];have:(ByteArray.mk #[10]).size=1:=rfl;rw[this];exact Nat.succ_le_succ d
   ·exact Nat.le_succ_of_le d
  have o:(xU ls l).length*40001<=1000*40001:=Nat.mul_le_mul_right _ j;omega
theorem oX (t:Ib):(((first t).toList==[101,110,100])=D/\((first t).toList==[101,108,115,101])=W/\kJ t=W)\/(((first t).toList==[101,110,100])=W/\((first t).toList==[101,108,115,101])=D/\kJ t=W)\/
  (((first t).toList==[101,110,100])=W/\((first t).toList==[101,108,115,101])=W/\kJ t=D)\/(((first t).toList==[101,110,100])=W/\((first t).toList==[101,108,115,101])=W/\kJ t=W):=by
 unfold kJ;generalize (first t).toList=z;by_cases h1:z=[101,110,100]
 ·subst h1;left;decide
 by_cases h2:z=[101,108,115,101]
 ·subst h2;right;left;decide
 have f:(z==[101,110,100])=W:=by simpa using h1
 have d:(z==[101,108,115,101])=W:=by simpa using h2
 rw[f,d];right;right;generalize (_ || _:Bool)=b;cases b
 ·right;exact⟨rfl,rfl,rfl⟩
 ·left;exact⟨rfl,rfl,rfl⟩
end Rf
theorem IF {a b:Ia} (h:a.size+b.size<=9223372036854775807) (w:World):(Op.stringOp .add a b).run Tryz.prog w=.ok (O (a++b)) w:=run_string_add_sum w a b h
def TidyRP (s:Ia) (w:World) (e:Ending) (w':World):Prop:=Below w.heap.size w w'/\
  ((¬(vP s).1=0/\e=T (E #[O ⟨#[]⟩,J U (vP s).1,J U (vP s).2.1]))\/
   ((vP s).1=0/\e=T (E #[O (Rf.tidy (vP s).2.2),J U 0,J U 0])))
theorem Tidy_ref (s:Ia) (w:World) (hs:s.size<=maxLen):Calls Tryz.prog 19 #[O s] w (TidyRP s w):=by
  go_enter func19,ntmps19;go_wp2_with fail;refine(Dm s hs).mono ?_;rintro e w1 ⟨h,(⟨H,rfl⟩| ⟨h0,a7,a3,hp,hl,S,g,cap,rfl,V⟩)⟩
  · have HB:=zD h;have d2:((vP s).1==0)=W:=by rw[zV];exact H
    have HN:=zD H;clear h H;go_wp2;go_ret3;exact⟨HB.u,Or.inl ⟨HN.u,rfl⟩⟩
  · have H0:=zD h0;have HB:=zD h;have d1:=zD V;have b0:=zD a3;have a0:=h.size;clear a7 a3 h h0 V;generalize a2:(vP s).2.2=ls at *;have d0:=zD a2;clear a2;go_wp2_with fail;go_loopw [8,9,10] (fun o c i wr=>∃k:Nat,k<=G ls/\i=J U ((k:Int)+1)/\c=J U (Rf.cnt ls k)/\o=O (Rf.G2 ls k)/\Below w1.heap.size w1 wr)
      (fun _ _ i _=>G ls+1-(intOf i).toNat)
    case atStart=>exact⟨0,by omega,rfl,rfl,rfl,zI _ _⟩
    case round=>
      obtain⟨k,hk,rfl,rfl,rfl,I⟩:=hrel;have V:=d1.u.zP I;have cT:=V.top;have HG:=zD V;have HX:=zD I;clear V I;by_cases hkl:k < G ls
      · have b4:(k:Int)+1<=(G ls:Int):=by omega
        have HC:Hd (Rf.cnt ls (k+1)=Rf.cnt ls k+(if kJ ls[k]=D then 1 else 0)-(if ((Rf.first ls[k]).toList==[101,110,100])=D then 1 else 0)):=zD (by rw[Rf.cnt,yq hkl]);have Z:Hd (Ho ls k=Rf.cnt ls k-(if ((Rf.first ls[k]).toList==[101,110,100])=D then 1 else 0)-(if ((Rf.first ls[k]).toList==[101,108,115,101])=D then 1 else 0)):=zD (by rw[Ho,yq hkl]);have HO:Hd (Rf.G2 ls (k+1)=Hb (if 0 < k then Rf.G2 ls k++⟨#[10]⟩else Rf.G2 ls k) (Ho ls k) ls[k] ls[k].length):=zD (by rw[Rf.G2,yq hkl]);obtain⟨b8,b7⟩:=cnt_b ls k;have HW:=zD (oX ls[k]);go_wp2_with fail;refine(xz k HG.u hkl hl).mono ?_;rintro e w2 ⟨rfl,M⟩;have R:=zD (HG.u.zP M);have N:=zD (HX.u.trans (M.mono HX.u.size));clear HG HX M cT;have d9:Rf.cnt ls k<=100:=by omega
        have f0:-100<=Rf.cnt ls k:=by omega
        clear b8 b7;generalize Rf.first ls[k]=z at *;generalize Rf.cnt ls k=c at *;generalize Ho ls k=d at *;have b3:k<=100:=by omega
        have F:IntKind.i64.wrap (c-1)=c-1:=zl _ ⟨by omega,by omega⟩;have b2:IntKind.i64.wrap (c+1)=c+1:=zl _ ⟨by omega,by omega⟩;rcases HW.u with⟨e1,e2,e3⟩| ⟨e1,e2,e3⟩| ⟨e1,e2,e3⟩| ⟨e1,e2,e3⟩
        all_goals
          rw[e1,e3]at HC;rw[e1,e2]at Z;clear HW;simp only[if_true,ID,YL]at HC Z
          first
          | (have d4:IntKind.i64.wrap (c-1)=d:=by rw[F];have:=Z.u;omega
             clear F b2)
          | (have b5:d=c:=by have:=Z.u;omega
             subst b5;clear F)
          go_wp2_with fail;refine(lR k R.u hkl hl).mono ?_;rintro e w3 ⟨rfl,L⟩;rw[e3];have b1:=zD (R.u.zP L);have c0:=zD (N.u.trans (L.mono N.u.size));clear R N L;have cT:=b1.u.top;obtain⟨ad,cp,cR,hv⟩:=b1.u.row k hkl;have d3:(k:Int) < (G ls:Int):=by omega
          have d5:IntKind.i64.wrap ((k:Int)+1-1)=k:=by rw[show (k:Int)+1-1=(k:Int) by omega];exact zl _ ⟨by omega,by omega⟩
          have d6:IntKind.i64.wrap (k:Int)=k:=zl _ ⟨by omega,by omega⟩;have HV:=zD hv;clear hv e3;have T:=zD (b0.u.VJ _ (zj hkl));have y:Hd ((Rf.G2 ls k).size<=5000000000):=zD (by have:=Rf.Hj b0.u.VJ hl k hk;omega);have b6:d<=100:=by have:=Z.u;omega
          have d8:=T.u.1;generalize ls[k]=t at *;by_cases hkp:0 < k
          all_goals
            first
            | (have a4:(1:Int) < (k:Int)+1:=by omega
               rw[zE hkp]at HO;have f:=IF (a:=Rf.G2 ls k) (b:=⟨#[10]⟩) (by have:=y.u;show _+1<=_;omega);have a9:Hd ((Rf.G2 ls k++⟨#[10]⟩).size<=5000000001):=zD (by have:=y.u;rw[ByteArray.size_append];show _+1<=_;omega);go_wp2_with fail;clear f y;generalize (Rf.G2 ls k++⟨#[10]⟩)=o1 at *)
            | (have a4:¬(1:Int) < (k:Int)+1:=by omega
               rw[zA hkp]at HO;have a9:Hd ((Rf.G2 ls k).size<=5000000001):=zD (by have:=y.u;omega);clear y;go_wp2_with fail;generalize Rf.G2 ls k=o1 at *)
            go_loopw [8,15,16] (fun o i _ wr=>∃j:Nat,j<=G t/\i=J U j/\o=O (Hb o1 d t j)/\wr=w3) (fun _ i _ _=>G t+1-(intOf i).toNat)
            case atStart=>exact⟨0,by omega,rfl,rfl,rfl⟩
            case round=>
              obtain⟨j,hj,rfl,rfl,rfl⟩:=hrel;by_cases hjt:j < G t
              · have a5:(j:Int) < (G t:Int):=by omega
                have d7:(0:Int)<=(j:Int):=by omega
                obtain⟨b,o,f1,he,cJ⟩:=HV.u.cell hjt;simp only[xJ,jH]at he;obtain⟨rfl,he⟩:=he;clear he;have HT:Hd (Hb o1 d t (j+1)=(if j=0 then Rf.spTo (Hb o1 d t j) d.toNat else Hb o1 d t j++⟨#[32]⟩)++t[j]):=zD (by rw[Hb,qq hjt]);have a8:=zD (T.u.2 _ (zj hjt));have A:Hd ((Hb o1 d t j).size<=5100000001):=zD (by have:=IV T.u o1 d (by omega) j hj;have:=a9.u;omega);generalize t[j]=x at *;by_cases hj1:j=0
                · have a6:((j:Int)==0)=D:=by simpa using hj1
                  rw[zE hj1]at HT;clear hj1;generalize Hb o1 d t j=o2 at *;go_wp2_with fail;go_loopw [8,16] (fun o i wr'=>∃m:Nat,m<=d.toNat/\i=J U m/\o=O (Rf.spTo o2 m)/\wr'=wr) (fun _ i _=>d.toNat+1-(intOf i).toNat)
                  case atStart=>exact⟨0,by omega,rfl,rfl,rfl⟩
                  case round=>
                    obtain⟨m,hm,rfl,rfl,rfl⟩:=hrel;by_cases hmd:m < d.toNat
                    · have a1:(m:Int) < d:=by omega
                      have f:=IF (a:=Rf.spTo o2 m) (b:=⟨#[32,32]⟩) (by rw[IH];have:=A.u;show _+2<=_;omega);go_wp2;go_roundw
                      ·exact⟨m+1,by omega,by go_num,rfl,trivial⟩
                      ·simp[intOf];omega
                    · have a1:¬(m:Int) < d:=by omega
                      have HM:Hd (Rf.spTo o2 d.toNat=Rf.spTo o2 m):=zD (by rw[show d.toNat=m by omega]);have f:=IF (a:=Rf.spTo o2 m) (b:=x) (by rw[IH];have:=A.u;have:=a8.u;omega);clear hmd hm;go_wp2;go_roundw
                      ·exact⟨j+1,by omega,by go_num,by rw[HT.u,HM.u],trivial⟩
                      ·simp[intOf];omega
                · have a6:((j:Int)==0)=W:=by simpa using hj1
                  rw[zA hj1]at HT;clear hj1;generalize Hb o1 d t j=o2 at *;have f:=IF (a:=o2) (b:=⟨#[32]⟩) (by have:=A.u;show _+1<=_;omega);have b9:=IF (a:=o2++⟨#[32]⟩) (b:=x) (by rw[ByteArray.size_append];have:=A.u;have:=a8.u;show _+1+_<=_;omega);go_wp2;go_roundw
                  ·exact⟨j+1,by omega,by go_num,by rw[HT.u],trivial⟩
                  ·simp[intOf];omega
              · have a5:¬(j:Int) < (G t:Int):=by omega
                have HJ:Hd (Hb o1 d t (G t)=Hb o1 d t j):=zD (by rw[show (G t)=j by omega]);go_wp2;go_roundw
                ·exact⟨k+1,by omega,by go_num,qB (Value.int U) (by have:=HC.u;have:=Z.u;omega),by rw[HO.u,HJ.u],c0.u⟩
                ·simp[intOf];omega
      · have b4:¬(k:Int)+1<=(G ls:Int):=by omega
        go_wp2;go_ret3;refine⟨HB.u.trans (HX.u.mono a0),Or.inr ⟨H0.u,?_⟩⟩;rw[d0.u,Rf.tidy,show (G ls)=k by omega];rfl
namespace Rf
def closerFrom (ls:List Ib):Nat->Nat->Int->Nat
 | 0,_,_=>0
 | f+1,m,n=>
  if ((first (xU ls m)).toList==[101,110,100])=true then
   (if (if kJ (xU ls m)=true then n+1 else n)-1=0 then m+1 else closerFrom ls f (m+1) ((if kJ (xU ls m)=true then n+1 else n)-1))
  else closerFrom ls f (m+1) (if kJ (xU ls m)=true then n+1 else n)
def closer (ls:List Ib) (l:Nat):Nat:=closerFrom ls (G ls-l) l 0
theorem Jv (ls:List Ib):∀f m n,closerFrom ls f m n<=m+f
 | 0,_,_=>zo _
 | f+1,m,n=>by
  rw[closerFrom];generalize (if kJ (xU ls m)=D then n+1 else n)=q;have h:=Jv ls f (m+1) (q-1);have d:=Jv ls f (m+1) q;split
  ·split <;> omega
  ·omega
theorem closer_b (ls:List Ib) (d:l<=G ls):closer ls l<=G ls:=by
 have:=Jv ls (G ls-l) l 0;unfold closer;omega
def otherFrom (ls:List Ib) (l c:Nat):Nat->Nat->Nat
 | 0,_=>c
 | f+1,m=>if ((first (xU ls m)).toList==[101,108,115,101])=true/\openerFrom ls m 1=l+1 then m+1 else otherFrom ls l c f (m+1)
def other (ls:List Ib) (l:Nat):Nat:=otherFrom ls l (closer ls l) (closer ls l-(l+2)) (l+1)
end Rf
theorem gp {w:World} {S g cap:Nat} (l:Nat) (h:jA w S g cap ls) (hl:l<=G ls) (j:G ls<=100):Calls Tryz.prog 152 #[H (Q ⟨S,0,Z⟩),J U ((l:Int)+1)] w fun e w'=>e=T (J U (Rf.closer ls l))/\Below w.heap.size w w':=by
 have HN:=zD h;go_enter func152,ntmps152;go_wp2;go_loopw [5,6] (fun nv i wr=>∃(f k:Nat) (n:Int),k+f=G ls/\-(k:Int)<=n/\n<=k/\nv=J U n/\i=J U ((k:Int)+1)/\Rf.closerFrom ls f k n=Rf.closer ls l/\jA wr S g cap ls/\Below w.heap.size w wr) (fun _ i _=>G ls+1-(intOf i).toNat)
 case atStart=>exact⟨G ls-l,l,0,by omega,by omega,by omega,rfl,by go_num,rfl,HN.u,zI _ _⟩
 case round=>
  obtain⟨f,k,n,R,O,N,rfl,rfl,hT,M,L⟩:=hrel;have cT:=M.top;have A:=qG M L;have HT:=zD hT;cases f with
  | zero=>
   have V:¬(k:Int)+1<=(G ls:Int):=by omega
   go_wp2;go_ret;exact⟨by rw[<-HT.u];rfl,A.u.2⟩
  | succ f=>
   have o:k < G ls:=by omega
   rw[Rf.closerFrom,yq o]at HT;go_wp2_with fail;refine(lR k A.u.1 o j).mono ?_;rintro e w1 ⟨rfl,y⟩;have d:=qG (A.u.1.zP y) (A.u.2.trans (y.mono A.u.2.size));go_wp2_with fail;refine(xz k d.u.1 o j).mono ?_;rintro e w2 ⟨rfl,x⟩;have HS2:=qG (d.u.1.zP x) (d.u.2.trans (x.mono d.u.2.size));have HW:=zD (oX ls[k]);generalize Rf.first ls[k]=z at *;generalize kJ ls[k]=ob at *;cases hz:(z.toList==[101,110,100])with
   | true=>
    have F:ob=false:=by rcases HW.u with⟨_,_,h⟩| ⟨h,_⟩| ⟨h,_⟩| ⟨h,_⟩ <;> first | exact h | (rw[hz]at h;cases h)
    subst F;rw[hz]at HT;simp only[if_true,YL,ID]at HT;by_cases hn:n-1=0
    ·rw[zE hn]at HT;have I:(n-1==0)=D:=by simpa using hn
     go_wp2;go_ret;exact⟨by rw[<-HT.u];rfl,HS2.u.2⟩
    ·rw[zA hn]at HT;have I:(n-1==0)=W:=by simpa using hn
     go_wp2;go_roundw
     ·exact⟨f,k+1,n-1,by omega,by omega,by omega,rfl,by go_num,HT.u,HS2.u.1,HS2.u.2⟩
     ·simp[intOf];omega
   | false=>
    rw[hz]at HT;simp only[YL,ID]at HT;cases ob with
    | true=>
     rw[zE rfl]at HT;go_wp2;go_roundw
     ·exact⟨f,k+1,n+1,by omega,by omega,by omega,rfl,by go_num,HT.u,HS2.u.1,HS2.u.2⟩
     ·simp[intOf];omega
    | false=>
     rw[zA (by decide)]at HT;go_wp2;go_roundw
     ·exact⟨f,k+1,n,by omega,by omega,by omega,rfl,by go_num,HT.u,HS2.u.1,HS2.u.2⟩
     ·simp[intOf];omega
end
end Go.Proofs.YthleadfkfnnadaaGreat
