/- Where an expression is split, by the grammar. -/
import Derived.Test.YthleadfkfnnadaaGreatEqvC
set_option maxHeartbeats 4000000
set_option maxRecDepth 100000
set_option linter.unusedSimpArgs false
namespace Go.Proofs.YthleadfkfnnadaaGreat
open Rf Rt Go.Proofs.Tryz
variable {o:ByteArray} {ls:List (List ByteArray)} {p q:List ByteArray} {l S g cap:Nat} {v:Value} {w:World}
namespace Rf
open Rt
theorem fx {zL:List PL} {ls:List (List ByteArray)} (h:ZM zL ls):∀f k,k+f=ls.length->nameErr zL (k+1) (zL.drop (k+1))=rightFrom ls f k
 | 0,k,hk=>by
  rw[zp (by rw[h.len];omega)];rfl
 | f+1,k,hk=>by
  have d:k < ls.length:=by omega
  obtain⟨p,x,o⟩:=h.get d;obtain⟨i,j⟩:=qy.mp x;rw[zZ i,j,nameErr,rightFrom,yq d,CB h d o,fx h f (k+1) (by omega)]
theorem main_eq {zL:List PL} (h:ZM zL ls):((yJ zL xP).kind=3)↔(¬decl ls Yk=0/\((first (xU ls (decl ls Yk-1))).toList==[112,114,111,99])=true):=by
 rcases h.bD Yk with⟨h0,hz⟩| ⟨h0,hd,hli⟩
 ·rw[show yJ zL xP=zF from hz,h0];simp[zF]
 ·have d:=(vA (yJ zL Yk).kind).2.2.2.1;rw[yq hd,(Ya hli).2.2.2.1];show ((yJ zL Yk).kind=3)↔_;rw[<-d];simp[h0]
theorem DI (ls:List (List ByteArray)):SR ls 0 [] [] []:=by
 refine⟨rfl,rfl,?_,by simp,by simp,.nil,by simp,rfl⟩;intro f o d h;simp at h
theorem eR (s:ByteArray):(qx s).1=(vP s).1/\(qx s).2.1=(vP s).2.1/\((qx s).1=0->ZM (qx s).2.2 (vP s).2.2):=by
 have A:=ch s;unfold qx vP;by_cases h1:40000 < s.size
 ·rw[zE (show ZE s=true by simp[ZE,h1]),zE h1];exact⟨rfl,rfl,fun h=>by simp at h⟩
 rw[zA h1];by_cases h2:100 < (lines s).length
 ·rw[zE (show ZE s=true by simp[ZE];omega),zE h2];exact⟨rfl,rfl,fun h=>by simp at h⟩
 rw[zA (show ¬ZE s=true by simp[ZE];omega),zA h2];obtain⟨z,G⟩:=pg (lines s) 0 [] [] (YM (by omega)) .nil;unfold Yq;rw[z];by_cases h3:(formsFrom 0 (lines s) []).1=0
 ·rw[zA (by omega),zA (by omega)];obtain⟨ps,F,e4⟩:=G (z.trans h3);rw[F];have d:(lines s).length=(formsFrom 0 (lines s) []).2.length:=by
   have f:∀(texts:List ByteArray) (i:Nat) (acc:List (List ByteArray)),(formsFrom i texts acc).1=0->(formsFrom i texts acc).2.length=acc.length+texts.length:=by
    intro texts
    induction texts with
    | nil=>intro i acc _;simp[formsFrom]
    | cons t r ih=>
     intro i acc h;rw[formsFrom]at h ⊢;cases ht:yY t with
     | none=>rw[ht]at h;simp at h
     | some ts=>
      rw[ht]at h;simp only at h ⊢;by_cases hi:xM (tx ts)=true
      ·rw[zE hi]at h ⊢;rw[ih _ _ h];simp;omega
      ·rw[zA hi]at h;simp at h
   have:=f (lines s) 0 [] h3;simpa using this.symm
  generalize (formsFrom 0 (lines s) []).2=ls at *;show (vH (Rt.nestFrom ps 1 [] [kb]).1 (Rt.nestFrom ps 1 [] [kb]).2.1 (Rt.nestFrom ps 1 [] [kb]).2.2 (lines s).length).1=_/\_;have hn:=uV (ls:=ls) ps 0 [] [kb] [] [] (by simpa using e4) (DI ls) (by omega);rw[d];change eh ls 0 [kb] (Rt.nestFrom ps 1 [] [kb]) (nested ls)at hn;show (vH (Rt.nestFrom ps 1 [] [kb]).1 (Rt.nestFrom ps 1 [] [kb]).2.1 (Rt.nestFrom ps 1 [] [kb]).2.2 ls.length).1=(Xu ls).1/\(vH (Rt.nestFrom ps 1 [] [kb]).1 (Rt.nestFrom ps 1 [] [kb]).2.1 (Rt.nestFrom ps 1 [] [kb]).2.2 ls.length).2.1=(Xu ls).2.1/\((vH (Rt.nestFrom ps 1 [] [kb]).1 (Rt.nestFrom ps 1 [] [kb]).2.1 (Rt.nestFrom ps 1 [] [kb]).2.2 ls.length).1=0->ZM (vH (Rt.nestFrom ps 1 [] [kb]).1 (Rt.nestFrom ps 1 [] [kb]).2.1 (Rt.nestFrom ps 1 [] [kb]).2.2 ls.length).2.2 (Xu ls).2.2);unfold vH Xu;rcases hn with⟨a1,a2,a3,qs,a4,a5⟩| ⟨a1,a2,a3⟩| ⟨a1,a2⟩
  ·rw[zA (by omega),zA (by simp[a2]),zA (by omega)];have o:ZM (Rt.nestFrom ps 1 [] [kb]).2.1 ls:=⟨⟨qs,a4,by simpa using a5⟩,a3⟩;generalize (Rt.nestFrom ps 1 [] [kb]).2.1=zL at *;unfold Rt.jV jV;have j:=fx o ls.length 0 (by omega);rw[j];by_cases h4:rightFrom ls ls.length 0=0
   ·rw[zA (show ¬¬rightFrom ls ls.length 0=0 by omega),zA (show ¬¬rightFrom ls ls.length 0=0 by omega)];have x:=main_eq o;by_cases h5:(yJ zL xP).kind=3
    ·have y:=x.mp h5;rw[zA (show ¬¬(yJ zL xP).kind=3 from fun h=>h h5),zA y.1,zA (by rw[y.2];simp)];exact⟨rfl,rfl,fun _=>o⟩
    ·rw[zE h5];by_cases h7:decl ls Yk=0
     ·rw[zE h7];exact⟨rfl,rfl,fun h=>by simp at h⟩
     ·rw[zA h7,zE]
      ·exact⟨rfl,rfl,fun h=>by simp at h⟩
      ·cases hq:((first (xU ls (decl ls Yk-1))).toList==[112,114,111,99])with
       | false=>rfl
       | true=>exact absurd (x.mpr ⟨h7,hq⟩) h5
   ·rw[zE h4,zE h4];exact⟨rfl,rfl,fun h=>by simp at h⟩
  ·have k:¬ls.length=0:=by
    intro D;have:ls=[]:=yu D;subst this;cases e4;simp[Rt.nestFrom]at a2
   rw[zA (by omega),zE a2,a3,zE k];exact⟨rfl,rfl,fun h=>by simp at h⟩
  ·rw[zE a1,a2,zE a1];exact⟨rfl,rfl,fun h=>by simp at h⟩
 ·rw[zE h3,zE h3];exact⟨rfl,rfl,fun h=>by simp at h⟩
theorem uN {zL:List PL} (h:ZM zL ls) (I:l < ls.length) {p:PL} (z:uB ls l p ls[l]):xV zL p=xx ls l ls[l]:=by
 have A:((first ls[l]).toList==[101,110,100])=true->0 < openerFrom ls l 1:=fun e=>KZ h.nested I e;have H:=Zg ls l 1;have o:=z.opener;have hli:=z.line;clear z;have j:=fun {d} (hd:d < ls.length)=>h.form hd;generalize ls[l]=t at *;obtain⟨L,O,R,G,M⟩:=p;simp only at hli o;have f:∀(x:ByteArray) (r:List ByteArray) (lt:List UInt8),x=⟨lt.toArray⟩->(first (x::r)).toList=lt:=fun x r lt h=>by show x.toList=lt;rw[h,jl]
 cases hli with
 | empty=>simp[xV,xy,xx,first,ve]
 | var x hx=>rw[xV,xx,f Dy _ [118,97,114] rfl];simp[xy]
 | array x n hx hn h1 h2=>rw[xV,xx,f nc _ [97,114,114,97,121] rfl];simp[xy]
 | proc x ps hx hps hpl=>rw[xV,xx,f lK _ [112,114,111,99] rfl];simp[xy]
 | end_=>
  have k:=f DH [] [101,110,100] rfl;have N:=A (by rw[k];decide);have F:=o (by decide);obtain⟨d,hd⟩:∃d,openerFrom ls l 1=d+1:=⟨openerFrom ls l 1-1,by omega⟩;have y:d < ls.length:=by omega
  have D:=j y;have J:=(vA (yA zL ((d+1:Nat):Int)).kind).2.2.2.1;rw[xV,xx,k,hd,zu,yq y,(Ya D).2.2.2.1,F,hd];show decide ((yA zL ((d+1:Nat):Int)).kind=3)=decide (idx (yA zL ((d+1:Nat):Int)).kind=3);rw[xO,jG,jG];exact J.symm
 | F8 q e k=>rw[xV,xx,f Gi _ [105,102] rfl];simp[xy]
 | gb=>rw[xV,xx,f uw _ [101,108,115,101] rfl];simp[xy]
 | Vg q e k=>rw[xV,xx,f ez _ [119,104,105,108,101] rfl];simp[xy]
 | rl x q e hx k=>rw[xV,xx,f Zz _ [115,101,116] rfl];simp[xy]
 | rj x q i u e hx F k=>rw[xV,xx,f Zz _ [115,101,116] rfl];simp[xy]
 | print q e k=>rw[xV,xx,f fV _ [112,114,105,110,116] rfl];simp[xy]
 | read x hx=>rw[xV,xx,f oF _ [114,101,97,100] rfl];simp[xy]
 | call x args vs hx hv=>rw[xV,xx,f VY _ [99,97,108,108] rfl];simp[xy]
 | Jb=>rw[xV,xx,f aK _ [114,101,116,117,114,110] rfl];simp[xy]
end Rf
section
open Go.RowKit
namespace Rf
theorem oX (t:List ByteArray):(((first t).toList==[101,110,100])=true/\((first t).toList==[101,108,115,101])=false/\kJ t=false)\/(((first t).toList==[101,110,100])=false/\((first t).toList==[101,108,115,101])=true/\kJ t=false)\/
  (((first t).toList==[101,110,100])=false/\((first t).toList==[101,108,115,101])=false/\kJ t=true)\/(((first t).toList==[101,110,100])=false/\((first t).toList==[101,108,115,101])=false/\kJ t=false):=by
 unfold kJ;generalize (first t).toList=z;by_cases h1:z=[101,110,100]
 ·subst h1;left;decide
 by_cases h2:z=[101,108,115,101]
 ·subst h2;right;left;decide
 have f:(z==[101,110,100])=false:=by simpa using h1
 have d:(z==[101,108,115,101])=false:=by simpa using h2
 rw[f,d];right;right;generalize (_ || _:Bool)=b;cases b
 ·right;exact⟨rfl,rfl,rfl⟩
 ·left;exact⟨rfl,rfl,rfl⟩
def closerFrom (ls:List (List ByteArray)):Nat->Nat->Int->Nat
 | 0,_,_=>0
 | f+1,m,n=>
  if ((first (xU ls m)).toList==[101,110,100])=true then
   (if (if kJ (xU ls m)=true then n+1 else n)-1=0 then m+1 else closerFrom ls f (m+1) ((if kJ (xU ls m)=true then n+1 else n)-1))
  else closerFrom ls f (m+1) (if kJ (xU ls m)=true then n+1 else n)
def closer (ls:List (List ByteArray)) (l:Nat):Nat:=closerFrom ls (ls.length-l) l 0
theorem Jv (ls:List (List ByteArray)):∀f m n,closerFrom ls f m n<=m+f
 | 0,_,_=>zo _
 | f+1,m,n=>by
  rw[closerFrom];generalize (if kJ (xU ls m)=true then n+1 else n)=q;have h:=Jv ls f (m+1) (q-1);have d:=Jv ls f (m+1) q;split
  ·split <;> omega
  ·omega
theorem gq (ls:List (List ByteArray)) (d:l<=ls.length):closer ls l<=ls.length:=by
 have:=Jv ls (ls.length-l) l 0;unfold closer;omega
def otherFrom (ls:List (List ByteArray)) (l c:Nat):Nat->Nat->Nat
 | 0,_=>c
 | f+1,m=>if ((first (xU ls m)).toList==[101,108,115,101])=true/\openerFrom ls m 1=l+1 then m+1 else otherFrom ls l c f (m+1)
def other (ls:List (List ByteArray)) (l:Nat):Nat:=otherFrom ls l (closer ls l) (closer ls l-(l+2)) (l+1)
end Rf
theorem gp (l:Nat) (h:jA w S g cap ls) (W:l<=ls.length) (j:ls.length<=100):Calls Tryz.prog 152 #[.pointer (some ⟨S,0,none⟩),.int .i64 ((l:Int)+1)] w fun e w'=>e=.returned (.int .i64 (Rf.closer ls l))/\Below w.heap.size w w':=by
 have HN:=zD h;clear h;go_enter func152,ntmps152;go_wp2;go_loopw [5,6] (fun nv i wr=>∃(f k:Nat) (n:Int),k+f=ls.length/\-(k:Int)<=n/\n<=k/\nv=.int .i64 n/\i=.int .i64 ((k:Int)+1)/\Rf.closerFrom ls f k n=Rf.closer ls l/\jA wr S g cap ls/\Below w.heap.size w wr) (fun _ i _=>ls.length+1-(intOf i).toNat)
 case atStart=>exact⟨ls.length-l,l,0,by omega,by omega,by omega,rfl,by go_num,rfl,HN.u,zI _ _⟩
 case round=>
  obtain⟨f,k,n,U,T,R,rfl,rfl,L,F,A⟩:=hrel;have V:=F.top;have D:=qG F A;have HT:=zD L;clear F A L;cases f with
  | zero=>
   have J:¬(k:Int)+1<=(ls.length:Int):=by omega
   go_wp2;go_ret;exact⟨by rw[<-HT.u];rfl,D.u.2⟩
  | succ f=>
   have o:k < ls.length:=by omega
   have J:(k:Int)+1<=(ls.length:Int):=by omega
   rw[Rf.closerFrom,yq o]at HT;have I:k<=100:=by omega
   have M:IntKind.i64.wrap (n+1)=n+1:=zl _ ⟨by omega,by omega⟩;have N:IntKind.i64.wrap (n-1)=n-1:=zl _ ⟨by omega,by omega⟩;have O:IntKind.i64.wrap (n+1-1)=n+1-1:=zl _ ⟨by omega,by omega⟩;go_wp2_with fail;refine(lR k D.u.1 o j).mono ?_;rintro e w1 ⟨rfl,y⟩;have d:=qG (D.u.1.zP y) (D.u.2.trans (y.mono D.u.2.size));clear y V;go_wp2_with fail;refine(xz k d.u.1 o j).mono ?_;rintro e w2 ⟨rfl,x⟩;have HS2:=qG (d.u.1.zP x) (d.u.2.trans (x.mono d.u.2.size));clear x;have HW:=zD (oX ls[k]);generalize Rf.first ls[k]=z at *;generalize kJ ls[k]=ob at *;cases hz:(z.toList==[101,110,100])with
   | true=>
    have G:ob=false:=by rcases HW.u with⟨_,_,h⟩| ⟨h,_⟩| ⟨h,_⟩| ⟨h,_⟩ <;> first | exact h | (rw[hz]at h;cases h)
    subst G;rw[hz]at HT;clear HW;simp only[if_true,YL,if_false]at HT;by_cases hn:n-1=0
    ·rw[zE hn]at HT;have H:(n-1==0)=true:=by simpa using hn
     clear hn;go_wp2;go_ret;exact⟨by rw[<-HT.u];rfl,HS2.u.2⟩
    ·rw[zA hn]at HT;have H:(n-1==0)=false:=by simpa using hn
     clear hn;go_wp2_with fail;go_roundw
     case rel=>exact⟨f,k+1,n-1,by omega,by omega,by omega,rfl,by go_num,HT.u,HS2.u.1,HS2.u.2⟩
     case measure=>simp[intOf];omega
   | false=>
    rw[hz]at HT;clear HW;simp only[YL,if_false]at HT;cases ob with
    | true=>
     rw[zE rfl]at HT;go_wp2_with fail;go_roundw
     case rel=>exact⟨f,k+1,n+1,by omega,by omega,by omega,rfl,by go_num,HT.u,HS2.u.1,HS2.u.2⟩
     case measure=>simp[intOf];omega
    | false=>
     rw[zA (by decide)]at HT;go_wp2_with fail;go_roundw
     case rel=>exact⟨f,k+1,n,by omega,by omega,by omega,rfl,by go_num,HT.u,HS2.u.1,HS2.u.2⟩
     case measure=>simp[intOf];omega
namespace Rf
theorem bN {k i:Nat} (h:k < ls.length) (j:HF (first ls[k]) i) (f:Nat) (n:Int):closerFrom ls (f+1) k n=if i=7 then (if n-1=0 then k+1 else closerFrom ls f (k+1) (n-1))else if i=3\/i=4\/i=5 then closerFrom ls f (k+1) (n+1)else closerFrom ls f (k+1) n:=by
 obtain⟨G,F,D,z,y,x,A,o⟩:=j;have d:(kJ ls[k]=true)↔(i=3\/i=4\/i=5):=by
  unfold kJ;rw[z,y,x];simp[KV]
 rw[closerFrom,yq h,o];simp only[d,yS];by_cases h7:i=7
 ·simp[h7]
 ·simp[h7];split <;> rfl
theorem JP {ls:List (List ByteArray)}:∀(k n o:Nat),k<=ls.length->0 < n->openerFrom ls k n=o+1->closer ls o=closerFrom ls (ls.length-k) k n
 | 0,_,_,_,_,h=>by simp[openerFrom]at h
 | k+1,n,o,hk,hn,h=>by
  have d:k < ls.length:=by omega
  obtain⟨i,_,j⟩:=YG (first ls[k]);have x:ls.length-k=(ls.length-(k+1))+1:=by omega
  have f:=fun n:Int=>(qB (fun q=>closerFrom ls q k n) x).trans (bN d j (ls.length-(k+1)) n);rw[aV d j]at h;by_cases h3:i=3\/i=4\/i=5
  ·rw[zE h3]at h;by_cases h1:n=1
   ·rw[zE h1]at h;have:o=k:=by omega
    subst this;rw[closer,f,zA (by omega),zE h3,h1];rfl
   ·rw[zA h1]at h;rw[JP k (n-1) o (by omega) (by omega) h,f,zA (by omega),zE h3];congr 1;omega
  ·rw[zA h3]at h;by_cases h7:i=7
   ·rw[zE h7]at h;rw[JP k (n+1) o (by omega) (by omega) h,f,zE h7,zA (by omega)];congr 1;omega
   ·rw[zA h7]at h;rw[JP k n o (by omega) hn h,f,zA h7,zA h3]
theorem Q7 (ls:List (List ByteArray)):∀f m n,closerFrom ls f m n=0\/m < closerFrom ls f m n
 | 0,_,_=>Or.inl rfl
 | f+1,m,n=>by
  rw[closerFrom];generalize (if kJ (xU ls m)=true then n+1 else n)=q;have h:=Q7 ls f (m+1) (q-1);have d:=Q7 ls f (m+1) q;split
  ·split <;> omega
  ·omega
theorem Xz {ls:List (List ByteArray)} (d:0 < ls.length):∀(f k:Nat) (op sp:List Nat) (n:Nat),ls.length-k=f->nestFrom ls (ls.drop k) k op sp=0->0 < n->n<=op.length->k<=ls.length->0 < closerFrom ls f k n
 | 0,k,op,sp,n,hf,h,hn,hno,hk=>by
  rw[zp (by omega),nestFrom]at h;exfalso;split at h <;> omega
 | f+1,k,op,sp,n,hf,h,hn,hno,hk=>by
  have j:k < ls.length:=by omega
  obtain⟨i,_,o⟩:=YG (first ls[k]);rw[Vt j o]at h;rw[bN j o];by_cases i0:i=0
  ·rw[zE i0]at h;rw[zA (by omega),zA (by omega)];exact Xz d f (k+1) op sp n (by omega) h hn hno (by omega)
  rw[zA i0]at h;by_cases hc:decide (i=1\/i=2\/i=3)=!decide (op.length=0)
  ·rw[zE hc]at h;omega
  rw[zA hc]at h;by_cases i3:i=3\/i=4\/i=5
  ·rw[zE i3]at h;rw[zA (by omega),zE i3];have:=Xz d f (k+1) _ sp (n+1) (by omega) h (by omega) (by simp;omega) (by omega);simpa using this
  rw[zA i3]at h;by_cases i6:i=6
  ·rw[zE i6]at h;rw[zA (by omega),zA i3];split at h
   ·omega
   ·exact Xz d f (k+1) op _ n (by omega) h hn hno (by omega)
  rw[zA i6]at h;by_cases i7:i=7
  ·rw[zE i7]at h;rw[zE i7];split
   ·omega
   ·rename_i hq;have:=Xz d f (k+1) _ _ (n-1) (by omega) h (by omega) (by simp;omega) (by omega);rw[show ((n:Int)-1)=((n-1:Nat):Int) by omega];exact this
  rw[zA i7]at h;rw[zA i7,zA i3];exact Xz d f (k+1) op sp n (by omega) h hn hno (by omega)
theorem uu (h:nested ls=0) (f:l < ls.length) (j:((first ls[l]).toList==[101,108,115,101])=true):0 < openerFrom ls l 1/\l+1 < closer ls (openerFrom ls l 1-1):=by
 obtain⟨op,F,z,N,M⟩:=Jg ls.length 0 [] [] (by omega) h (by intro pre o D j;simp at j) (by simp) l f (by omega);obtain⟨i,_,k⟩:=YG (first ls[l]);have L:i=6:=by
  have:=k.2.2.2.2.2.2.1;rw[j]at this;simpa using this.symm
 subst L;have y:=z;rw[Vt f k]at z;rcases XI op with rfl | ⟨pre,x,rfl⟩
 ·simp at z
 ·have H:=N pre x [] rfl;have O:=M x (by simp);simp at H;have d:0 < openerFrom ls l 1:=by omega
  refine⟨d,?_⟩;have J:=JP (ls:=ls) l 1 (openerFrom ls l 1-1) (by omega) (by omega) (by omega);have I:=Xz (ls:=ls) (by omega) (ls.length-l) l (pre++[x]) F 1 rfl y (by omega) (by simp) (by omega);rw[J];have G:ls.length-l=(ls.length-(l+1))+1:=by omega
  have A:=bN f k (ls.length-(l+1)) ((1:Nat):Int);rw[zA (show ¬(6:Nat)=7 by omega),zA (show ¬((6:Nat)=3\/(6:Nat)=4\/(6:Nat)=5) by omega)]at A;rw[G,A]at I ⊢;rcases Q7 ls (ls.length-(l+1)) (l+1) ((1:Nat):Int)with h | h <;> omega
def goesFrom (ls:List (List ByteArray)):Nat->Nat->Nat
 | 0,_=>0
 | f+1,k=>
  if ls.length<=k then 0
  else if xx ls k (xU ls k)=true then k+1
  else if ((first (xU ls k)).toList==[101,108,115,101])=true then goesFrom ls f (closer ls (openerFrom ls k 1-1))
  else if ((first (xU ls k)).toList==[101,110,100])=true then (if ((first (xU ls (openerFrom ls k 1-1))).toList==[119,104,105,108,101])=true then openerFrom ls k 1 else goesFrom ls f (k+1))
  else goesFrom ls f (k+1)
def jc (ls:List (List ByteArray)) (k:Nat):Nat:=goesFrom ls (ls.length+1-k) k
theorem A3 (f k:Nat) (d:k < ls.length):goesFrom ls (f+1) k=if xx ls k ls[k]=true then k+1
  else if ((first ls[k]).toList==[101,108,115,101])=true then goesFrom ls f (closer ls (openerFrom ls k 1-1))
  else if ((first ls[k]).toList==[101,110,100])=true then (if ((first (xU ls (openerFrom ls k 1-1))).toList==[119,104,105,108,101])=true then openerFrom ls k 1 else goesFrom ls f (k+1))
  else goesFrom ls f (k+1):=by rw[goesFrom,zA (by omega),yq d]
end Rf
theorem ai (l:Nat) (h:jA w S g cap ls) (hl:l<=ls.length) (d:ls.length<=100) (Z:Rf.nested ls=0):Calls Tryz.prog 94 #[.pointer (some ⟨S,0,none⟩),.int .i64 ((l:Int)+1)] w fun e w'=>e=.returned (.int .i64 (Rf.jc ls l))/\Below w.heap.size w w':=by
 have HN:=zD h;have J:=zD Z;clear h Z;go_enter func94,ntmps94;go_wp2;go_loopw [1] (fun i wr=>∃f k:Nat,k<=ls.length/\ls.length < f+k/\i=.int .i64 ((k:Int)+1)/\Rf.goesFrom ls f k=Rf.jc ls l/\jA wr S g cap ls/\Below w.heap.size w wr) (fun i _=>ls.length+1-(intOf i).toNat)
 case atStart=>exact⟨ls.length+1-l,l,hl,by omega,by go_num,rfl,HN.u,zI _ _⟩
 case round=>
  obtain⟨f,k,hk,a0,rfl,O,T,F⟩:=hrel;have cT:=T.top;have R:=qG T F;obtain⟨f,rfl⟩:∃q,f=q+1:=⟨f-1,by omega⟩;by_cases hlt:k < ls.length
  ·rw[A3 f k hlt]at O;have HT:=zD O;clear T F O;have V:(k:Int)+1<=(ls.length:Int):=by omega
   go_wp2_with fail;refine(fG k R.u.1 hlt d J.u).mono ?_;rintro e w1 ⟨rfl,I⟩;have x:=qG (R.u.1.zP I) (R.u.2.trans (I.mono R.u.2.size));clear I cT;cases hst:xx ls k ls[k]with
   | true=>
    rw[hst,zE rfl]at HT;go_wp2;go_ret;exact⟨by rw[<-HT.u];rfl,x.u.2⟩
   | false=>
    rw[hst,zA (by decide)]at HT;have M:=Zg ls k 1;go_wp2_with fail;refine(Vr k x.u.1 hlt d).mono ?_;rintro e w2 ⟨rfl,H⟩;have z:=qG (x.u.1.zP H) (x.u.2.trans (H.mono x.u.2.size));clear H;go_wp2_with fail;refine(xz k z.u.1 hlt d).mono ?_;rintro e w3 ⟨rfl,G⟩;have HS3:=qG (z.u.1.zP G) (z.u.2.trans (G.mono z.u.2.size));clear G;cases hel:((Rf.first ls[k]).toList==[101,108,115,101])with
    | true=>
     obtain⟨D,A⟩:=uu J.u hlt hel;obtain⟨o,y⟩:∃o,Rf.openerFrom ls k 1=o+1:=⟨Rf.openerFrom ls k 1-1,by omega⟩;rw[hel,zE rfl,y,zu]at HT;rw[y,zu]at A;rw[y]at M;have N:=gq ls (l:=o) (by omega);rw[y,show ((o+1:Nat):Int)=(o:Int)+1 by omega];have HO:=zD A;have W:=zD N;clear y D A N;go_wp2_with fail;refine(gp o HS3.u.1 (by omega) d).mono ?_;rintro e w4 ⟨rfl,j⟩;have HS4:=qG (HS3.u.1.zP j) (HS3.u.2.trans (j.mono HS3.u.2.size));clear j;generalize Rf.closer ls o=c at *;have a2:=HO.u;have a1:=W.u;go_wp2_with fail;go_roundw
     case rel=>exact⟨f,c,by omega,by omega,by go_num,HT.u,HS4.u.1,HS4.u.2⟩
     case measure=>simp[intOf];omega
    | false=>
     rw[hel,zA (by decide)]at HT;cases hen:((Rf.first ls[k]).toList==[101,110,100])with
     | true=>
      have D:=KZ J.u hlt hen;obtain⟨o,y⟩:∃o,Rf.openerFrom ls k 1=o+1:=⟨Rf.openerFrom ls k 1-1,by omega⟩;rw[y]at M;have L:o < ls.length:=by omega
      rw[hen,zE rfl,y,zu,yq L]at HT;rw[y,show ((o+1:Nat):Int)=(o:Int)+1 by omega];clear y D;go_wp2_with fail;refine(xz o HS3.u.1 L d).mono ?_;rintro e w4 ⟨rfl,j⟩;have HS4:=qG (HS3.u.1.zP j) (HS3.u.2.trans (j.mono HS3.u.2.size));clear j;cases hwh:((Rf.first ls[o]).toList==[119,104,105,108,101])with
      | true=>
       rw[hwh,zE rfl]at HT;go_wp2;go_ret;exact⟨by rw[<-HT.u];rfl,HS4.u.2⟩
      | false=>
       rw[hwh,zA (by decide)]at HT;go_wp2_with fail;go_roundw
       case rel=>exact⟨f,k+1,by omega,by omega,by go_num,HT.u,HS4.u.1,HS4.u.2⟩
       case measure=>simp[intOf];omega
     | false=>
      rw[hen,zA (by decide)]at HT;go_wp2_with fail;go_roundw
      case rel=>exact⟨f,k+1,by omega,by omega,by go_num,HT.u,HS3.u.1,HS3.u.2⟩
      case measure=>simp[intOf];omega
  ·have U:k=ls.length:=by omega
   have HT:Hd (0=Rf.jc ls l):=zD (by rw[<-O,Rf.goesFrom,zE (by omega)]);clear T F O;have V:¬(k:Int)+1<=(ls.length:Int):=by omega
   clear U;go_wp2;go_ret;exact⟨by rw[<-HT.u];rfl,R.u.2⟩
namespace Rf
theorem sW {c f m:Nat} (h:m < ls.length):otherFrom ls l c (f+1) m=if ((first ls[m]).toList==[101,108,115,101])=true/\openerFrom ls m 1=l+1 then m+1 else otherFrom ls l c f (m+1):=by
 rw[otherFrom,yq h]
def indexFrom (xs:List ByteArray) (x:ByteArray):Nat->Nat->Int
 | 0,_=>-1
 | f+1,k=>if ve xs k=x then (k:Int)else indexFrom xs x f (k+1)
def index (xs:List ByteArray) (x:ByteArray):Int:=indexFrom xs x xs.length 0
def two (a:Int) (x:List UInt8) (b:Int):Int×Int:=
 if (x==[43])=true then (wrap64 (a+b),0)else if (x==[45])=true then (wrap64 (a-b),0)else if (x==[42])=true then (wrap64 (a*b),0)
 else if (x==[60])=true then (if a < b then 1 else 0,0)else if (x==[61])=true then (if a=b then 1 else 0,0)
 else if b=0 then (0,2)else if (x==[47])=true then (wrap64 (a.tdiv b),0)else (a.tmod b,0)
def split (t:List ByteArray):Int:=if last kF t < 0 then (if last kL t < 0 then last vJ t else last kL t)else last kF t
end Rf
theorem AW (l:Nat) (h:jA w S g cap ls) (Z:l < ls.length) (j:ls.length<=100):Calls Tryz.prog 157 #[.pointer (some ⟨S,0,none⟩),.int .i64 ((l:Int)+1)] w fun e w'=>e=.returned (.int .i64 (Rf.other ls l))/\Below w.heap.size w w':=by
 have R:=zD h;clear h;go_enter func157,ntmps157;go_wp2_with fail;refine(gp l R.u (by omega) j).mono ?_;rintro e w1 ⟨rfl,F⟩;have V:=gq ls (l:=l) (by omega);have HG:=qG (R.u.zP F) F;have HR:Hd (Rf.other ls l=Rf.otherFrom ls l (Rf.closer ls l) (Rf.closer ls l-(l+2)) (l+1)):=zD rfl;clear F;generalize Rf.closer ls l=c at *;go_wp2_with fail;go_loopw [6] (fun i wr=>∃f k:Nat,l+1<=k/\k<=ls.length/\f=c-(k+1)/\i=.int .i64 ((k:Int)+1)/\Rf.otherFrom ls l c f k=Rf.other ls l/\jA wr S g cap ls/\Below w.heap.size w wr) (fun i _=>ls.length+1-(intOf i).toNat)
 case atStart=>exact⟨_,l+1,by omega,by omega,rfl,by go_num,HR.u.symm,HG.u.1,HG.u.2⟩
 case round=>
  obtain⟨f,k,U,T,N,rfl,O,M,H⟩:=hrel;have I:=qG M H;have x:=zD O;have HF:=zD N;clear M H O N;cases f with
  | zero=>
   have L:¬(k:Int)+1 < (c:Int):=by have:=HF.u;omega
   go_wp2;go_ret;exact⟨by rw[<-x.u];rfl,I.u.2⟩
  | succ f=>
   have L:(k:Int)+1 < (c:Int):=by have:=HF.u;omega
   have y:k < ls.length:=by omega
   rw[sW y]at x;go_wp2_with fail;refine(xz k I.u.1 y j).mono ?_;rintro e w2 ⟨rfl,D⟩;have d:=qG (I.u.1.zP D) (I.u.2.trans (D.mono I.u.2.size));clear D;generalize Rf.first ls[k]=z at *;cases hz:(z.toList==[101,108,115,101])with
   | true=>
    rw[hz]at x;simp only[jH]at x;go_wp2_with fail;refine(Vr k d.u.1 y j).mono ?_;rintro e W ⟨rfl,A⟩;have G:=qG (d.u.1.zP A) (d.u.2.trans (A.mono d.u.2.size));clear A;generalize Rf.openerFrom ls k 1=o at *;by_cases ho:o=l+1
    ·rw[zE ho]at x;have J:((o:Int)==(l:Int)+1)=true:=by rw[xw];omega
     clear ho;go_wp2;go_ret;exact⟨by rw[<-x.u];rfl,G.u.2⟩
    ·rw[zA ho]at x;have J:((o:Int)==(l:Int)+1)=false:=by rw[zV];omega
     clear ho;go_wp2_with fail;go_roundw
     case rel=>exact⟨f,k+1,by omega,by omega,by have:=HF.u;omega,by go_num,x.u,G.u.1,G.u.2⟩
     case measure=>simp[intOf];omega
   | false=>
    rw[hz]at x;simp only[YL,false_and,if_false]at x;go_wp2_with fail;go_roundw
    case rel=>exact⟨f,k+1,by omega,by omega,by have:=HF.u;omega,by go_num,x.u,d.u.1,d.u.2⟩
    case measure=>simp[intOf];omega
theorem lr {xs:List ByteArray} (x:ByteArray) (h:xA w v xs) (A:xs.length<=100000):Calls Tryz.prog 116 #[v,.string x] w fun e w'=>e=.returned (.int .i64 (Rf.index xs x))/\w'=w:=by
 obtain⟨G,cap,rfl,_,h⟩:=h;have HH:=zD h;clear h;go_enter func116,ntmps116;go_wp2;go_loop [5] (fun i=>∃f k:Nat,k+f=xs.length/\i=.int .i64 k/\Rf.indexFrom xs x f k=Rf.index xs x) (fun i=>xs.length-(intOf i).toNat)
 case atStart=>exact⟨xs.length,0,by omega,rfl,rfl⟩
 case round=>
  obtain⟨f,k,D,rfl,z⟩:=hrel;have HT:=zD z;clear z;cases f with
  | zero=>
   have j:¬(k:Int) < (xs.length:Int):=by omega
   go_wp2;go_ret;exact⟨by rw[<-HT.u];rfl,rfl⟩
  | succ f=>
   have d:k < xs.length:=by omega
   rcases HH.u with h | ⟨b,o,rfl,h⟩
   ·rw[h]at d;simp at d
   have F:=h k d;have j:(k:Int) < (xs.length:Int):=by omega
   clear h;rw[Rf.indexFrom,qq d]at HT;by_cases hx:xs[k]=x
   ·rw[zE hx]at HT;have y:=QB hx;clear hx;go_wp2;go_ret;exact⟨by rw[<-HT.u];rfl,rfl⟩
   ·rw[zA hx]at HT;have y:=KI hx;clear hx;go_wp2;go_round
    case rel=>exact⟨f,k+1,by omega,by go_num,HT.u⟩
    case measure=>simp[intOf];omega
theorem D2 (a b:Int) (x:ByteArray):Calls Tryz.prog 186 #[.int .i64 a,.string x,.int .i64 b] w fun e w'=>e=.returned (.tuple #[.int .i64 (Rf.two a x.toList b).1,.int .i64 (Rf.two a x.toList b).2])/\w'=w:=by
 have d:Hd (Rf.two a x.toList b=_):=zD (by unfold Rf.two;rfl);go_enter func186,ntmps186;cases h1:(x.toList==[43])with
 | true=>
  rw[h1,zE rfl]at d;go_wp2_with fail;go_ret2;exact⟨by rw[d.u];rfl,rfl⟩
 | false=>
 rw[h1,zA (by decide)]at d;cases h2:(x.toList==[45])with
 | true=>
  rw[h2,zE rfl]at d;go_wp2_with fail;go_ret2;exact⟨by rw[d.u];rfl,rfl⟩
 | false=>
 rw[h2,zA (by decide)]at d;cases h3:(x.toList==[42])with
 | true=>
  rw[h3,zE rfl]at d;go_wp2_with fail;go_ret2;exact⟨by rw[d.u];rfl,rfl⟩
 | false=>
 rw[h3,zA (by decide)]at d;cases h4:(x.toList==[60])with
 | true=>
  rw[h4,zE rfl]at d;by_cases hc:a < b
  ·rw[zE hc]at d;go_wp2_with fail;go_ret2;exact⟨by rw[d.u];rfl,rfl⟩
  ·rw[zA hc]at d;go_wp2_with fail;go_ret2;exact⟨by rw[d.u];rfl,rfl⟩
 | false=>
 rw[h4,zA (by decide)]at d;cases h5:(x.toList==[61])with
 | true=>
  rw[h5,zE rfl]at d;by_cases hc:a=b
  ·rw[zE hc]at d;have f:(a==b)=true:=by simpa using hc
   clear hc;go_wp2_with fail;go_ret2;exact⟨by rw[d.u];rfl,rfl⟩
  ·rw[zA hc]at d;have f:(a==b)=false:=by simpa using hc
   clear hc;go_wp2_with fail;go_ret2;exact⟨by rw[d.u];rfl,rfl⟩
 | false=>
 rw[h5,zA (by decide)]at d;by_cases hb:b=0
 ·rw[zE hb]at d;have h:(b==0)=true:=by simpa using hb
  clear hb;go_wp2_with fail;go_ret2;exact⟨by rw[d.u];rfl,rfl⟩
 rw[zA hb]at d;have h:(b==0)=false:=by simpa using hb
 cases h6:(x.toList==[47])with
 | true=>
  rw[h6,zE rfl]at d;go_wp2_with fail;go_ret2;exact⟨by rw[d.u];rfl,rfl⟩
 | false=>
  rw[h6,zA (by decide)]at d;go_wp2_with fail;go_ret2;exact⟨by rw[d.u];rfl,rfl⟩
theorem JE {t:List ByteArray} (h:xA w v t) (D:Y8 t):Calls Tryz.prog 185 #[v] w fun e w'=>e=.returned (.int .i64 (Rf.split t))/\Below w.heap.size w w':=by
 have T:=D.1;have G:=zD D;clear D;have k:Hd (Rf.split t=_):=zD (by unfold Rf.split;rfl);obtain⟨U,cap,rfl,J⟩:=h.form;have L:=zD h;clear h;go_enter func185,ntmps185;go_wp2_with fail;refine(VW).mono ?_;rintro e w1 ⟨I,rfl,j,d⟩;have i:=zD (L.u.zP d);go_wp2_with fail;refine(JK i.u j (by omega) (by decide) G.u.2).mono ?_;rintro e w2 ⟨rfl,f⟩;have x:=zD (d.trans (f.mono (B':=w.heap.size) d.size));have y:=zD (i.u.zP f);clear d f j L i;by_cases h1:Rf.last kF t < 0
 ·rw[zE h1]at k;go_wp2_with fail;refine(iD).mono ?_;rintro e R ⟨I,rfl,j,d⟩;have i:=zD (y.u.zP d);have A:=zD (x.u.trans (d.mono (B':=w.heap.size) x.u.size));clear d;go_wp2_with fail;refine(JK i.u j (by omega) (by decide) G.u.2).mono ?_;rintro e O ⟨rfl,f⟩;have o:=zD (A.u.trans (f.mono (B':=w.heap.size) A.u.size));have F:=zD (i.u.zP f);clear f j i y;by_cases h2:Rf.last kL t < 0
  ·rw[zE h2]at k;go_wp2_with fail;refine(ax).mono ?_;rintro e N ⟨I,rfl,j,d⟩;have i:=zD (F.u.zP d);have z:=zD (o.u.trans (d.mono (B':=w.heap.size) o.u.size));clear d;go_wp2_with fail;refine(JK i.u j (by omega) (by decide) G.u.2).mono ?_;rintro e M ⟨rfl,f⟩;have H:=zD (z.u.trans (f.mono (B':=w.heap.size) z.u.size));clear f j;go_wp2;go_ret;exact⟨by rw[k.u];rfl,H.u⟩
  ·rw[zA h2]at k;go_wp2;go_ret;exact⟨by rw[k.u];rfl,o.u⟩
 ·rw[zA h1]at k;go_wp2;go_ret;exact⟨by rw[k.u];rfl,x.u⟩
end
namespace Rf
open Rt
theorem wU (i:Is 1 p) (d:kp kF o=true) (f:Is 1 q):split (p++o::q)=p.length:=by
 have h:=JL (kh i) (eb d) d (aj f rfl);rw[split,h,zA (by omega)]
theorem wV (i:Is 1 p) (d:kp kL o=true) (f:Is 2 q):split (p++o::q)=p.length:=by
 have h:=JL (kh i) (ba d) d (Yy f kL (Or.inl rfl) rfl);have j:=(aj (Is.s2 p o q i d f) rfl).last;rw[split,j,zE (by omega),h,zA (by omega)]
theorem wT (j:Is 2 p) (d:kp vJ o=true) (i:Is 3 q):split (p++o::q)=p.length:=by
 have h:=JL (kh j) (ay d) d (vh i vJ (Or.inl rfl) rfl);have f:=Is.t2 p o q j d i;have x:=(Yy f kF (Or.inr rfl) rfl).last;have k:=(Yy f kL (Or.inl rfl) rfl).last;rw[split,x,zE (by omega),k,zE (by omega),h]
theorem QD (h:Is 3 p):split p=-1:=by
 have i:=(vh h kF (Or.inr (Or.inr rfl)) rfl).last;have f:=(vh h kL (Or.inr (Or.inl rfl)) rfl).last;have d:=(vh h vJ (Or.inl rfl) rfl).last;rw[split,i,zE (by omega),f,zE (by omega),d]
end Rf
end Go.Proofs.YthleadfkfnnadaaGreat
