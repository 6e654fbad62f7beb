/- Going on from a line, and the other way of an if: the program's links and the document's answer agree. -/
import Derived.Test.YthleadfkfnnadaaGreatRefP
import Derived.Laws.IdiomStrings
set_option maxHeartbeats 4000000
set_option maxRecDepth 100000
set_option linter.all false
namespace Go.Proofs.YthleadfkfnnadaaGreat
open Value renaming int->J,slice->I,string->O,pointer->H,tuple->E
open IntKind renaming i64->U
open Option renaming none->Z,some->Q
open Bool renaming false->W,true->D
open List renaming length->G
open Ending renaming returned->T
open Obj renaming cells->V
open Rf Rt Go.Proofs.Tryz
variable {x:Int} {ls:List Ib} {L:List (Nat×Int)} {t p q:Ib} {xs:List Int} {k i l S g cap c P n o B e:Nat} {v fv vv cv ov:Value} {w w':World}
section
open Go.RowKit
namespace Rf
theorem bN (h:k < G ls) (j:HF (first ls[k]) i) (f:Nat) (n:Int):closerFrom ls (f+1) k n=if i=7 then (if n-1=0 then k+1 else closerFrom ls f (k+1) (n-1))else if i=3\/i=4\/i=5 then closerFrom ls f (k+1) (n+1)else closerFrom ls f (k+1) n:=by
 obtain⟨I,H,F,z,y,x,A,o⟩:=j;have d:(kJ ls[k]=D)↔(i=3\/i=4\/i=5):=by
  unfold kJ;rw[z,y,x];simp[KV]
 rw[closerFrom,yq h,o];simp only[d,yS];by_cases h7:i=7
 ·simp[h7]
 ·simp[h7];split <;> rfl
theorem JP {ls:List Ib}:∀(k n o:Nat),k<=G ls->0 < n->openerFrom ls k n=o+1->closer ls o=closerFrom ls (G ls-k) k n
 | 0,_,_,_,_,h=>by simp[openerFrom]at h
 | k+1,n,o,hk,hn,h=>by
  have d:k < G ls:=by omega
  obtain⟨i,_,j⟩:=YG (first ls[k]);have x:G ls-k=(G ls-(k+1))+1:=by omega
  have f:=fun n:Int=>(qB (fun q=>closerFrom ls q k n) x).trans (bN d j (G ls-(k+1)) n);rw[aV d j]at h;by_cases h3:i=3\/i=4\/i=5
  ·rw[zE h3]at h;by_cases h1:n=1
   ·rw[zE h1]at h;have:o=k:=by omega
    subst this;rw[closer,f,zA (by omega),zE h3,h1];rfl
   ·rw[zA h1]at h;rw[JP k (n-1) o (by omega) (by omega) h,f,zA (by omega),zE h3];congr 1;omega
  ·rw[zA h3]at h;by_cases h7:i=7
   ·rw[zE h7]at h;rw[JP k (n+1) o (by omega) (by omega) h,f,zE h7,zA (by omega)];congr 1;omega
   ·rw[zA h7]at h;rw[JP k n o (by omega) hn h,f,zA h7,zA h3]
theorem Q7 (ls:List Ib):∀f m n,closerFrom ls f m n=0\/m < closerFrom ls f m n
 | 0,_,_=>Or.inl rfl
 | f+1,m,n=>by
  rw[closerFrom];generalize (if kJ (xU ls m)=D then n+1 else n)=q;have h:=Q7 ls f (m+1) (q-1);have d:=Q7 ls f (m+1) q;split
  ·split <;> omega
  ·omega
theorem Xz {ls:List Ib} (d:0 < G ls):∀(f k:Nat) (op sp:List Nat) (n:Nat),G ls-k=f->nestFrom ls (ls.drop k) k op sp=0->0 < n->n<=G op->k<=G ls->0 < closerFrom ls f k n
 | 0,k,op,sp,n,hf,h,hn,hno,hk=>by
  rw[zp (by omega),nestFrom]at h;exfalso;split at h <;> omega
 | f+1,k,op,sp,n,hf,h,hn,hno,hk=>by
  have j:k < G ls:=by omega
  obtain⟨i,_,o⟩:=YG (first ls[k]);rw[Vt j o]at h;rw[bN j o];by_cases i0:i=0
  ·rw[zE i0]at h;rw[zA (by omega),zA (by omega)];exact Xz d f (k+1) op sp n (by omega) h hn hno (by omega)
  rw[zA i0]at h;by_cases hc:decide (i=1\/i=2\/i=3)=!decide (G op=0)
  ·rw[zE hc]at h;omega
  rw[zA hc]at h;by_cases i3:i=3\/i=4\/i=5
  ·rw[zE i3]at h;rw[zA (by omega),zE i3];have:=Xz d f (k+1) _ sp (n+1) (by omega) h (by omega) (by simp;omega) (by omega);simpa using this
  rw[zA i3]at h;by_cases i6:i=6
  ·rw[zE i6]at h;rw[zA (by omega),zA i3];split at h
   ·omega
   ·exact Xz d f (k+1) op _ n (by omega) h hn hno (by omega)
  rw[zA i6]at h;by_cases i7:i=7
  ·rw[zE i7]at h;rw[zE i7];split
   ·omega
   ·rename_i hq;have:=Xz d f (k+1) _ _ (n-1) (by omega) h (by omega) (by simp;omega) (by omega);rw[show ((n:Int)-1)=((n-1:Nat):Int) by omega];exact this
  rw[zA i7]at h;rw[zA i7,zA i3];exact Xz d f (k+1) op sp n (by omega) h hn hno (by omega)
theorem uu (h:nested ls=0) (f:l < G ls) (j:((first ls[l]).toList==[101,108,115,101])=D):0 < openerFrom ls l 1/\l+1 < closer ls (openerFrom ls l 1-1):=by
 obtain⟨op,H,z,R,O⟩:=Jg (G ls) 0 [] [] (by omega) h (by intro pre o F j;simp at j) (by simp) l f (by omega);obtain⟨i,_,k⟩:=YG (first ls[l]);have N:i=6:=by
  have:=k.2.2.2.2.2.2.1;rw[j]at this;simpa using this.symm
 subst N;have y:=z;rw[Vt f k]at z;rcases XI op with rfl | ⟨pre,x,rfl⟩
 ·simp at z
 ·have J:=R pre x [] rfl;have T:=O x (by simp);simp at J;have d:0 < openerFrom ls l 1:=by omega
  refine⟨d,?_⟩;have M:=JP (ls:=ls) l 1 (openerFrom ls l 1-1) (by omega) (by omega) (by omega);have L:=Xz (ls:=ls) (by omega) (G ls-l) l (pre++[x]) H 1 rfl y (by omega) (by simp) (by omega);rw[M];have I:G ls-l=(G ls-(l+1))+1:=by omega
  have A:=bN f k (G ls-(l+1)) ((1:Nat):Int);rw[zA (show ¬(6:Nat)=7 by omega),zA (show ¬((6:Nat)=3\/(6:Nat)=4\/(6:Nat)=5) by omega)]at A;rw[I,A]at L ⊢;rcases Q7 ls (G ls-(l+1)) (l+1) ((1:Nat):Int)with h | h <;> omega
def goesFrom (ls:List Ib):Nat->Nat->Nat
 | 0,_=>0
 | f+1,k=>
  if ls.length<=k then 0
  else if xx ls k (xU ls k)=true then k+1
  else if ((first (xU ls k)).toList==[101,108,115,101])=true then goesFrom ls f (closer ls (openerFrom ls k 1-1))
  else if ((first (xU ls k)).toList==[101,110,100])=true then (if ((first (xU ls (openerFrom ls k 1-1))).toList==[119,104,105,108,101])=true then openerFrom ls k 1 else goesFrom ls f (k+1))
  else goesFrom ls f (k+1)
def jc (ls:List Ib) (k:Nat):Nat:=goesFrom ls (G ls+1-k) k
theorem A3 (f k:Nat) (d:k < G ls):goesFrom ls (f+1) k=if xx ls k ls[k]=D then k+1
  else if ((first ls[k]).toList==[101,108,115,101])=D then goesFrom ls f (closer ls (openerFrom ls k 1-1))
  else if ((first ls[k]).toList==[101,110,100])=D then (if ((first (xU ls (openerFrom ls k 1-1))).toList==[119,104,105,108,101])=D then openerFrom ls k 1 else goesFrom ls f (k+1))
  else goesFrom ls f (k+1):=by rw[goesFrom,zA (by omega),yq d]
end Rf
theorem ai (l:Nat) (h:jA w S g cap ls) (hl:l<=G ls) (d:G ls<=100) (hn:Rf.nested ls=0):Calls Tryz.prog 94 #[H (Q ⟨S,0,Z⟩),J U ((l:Int)+1)] w fun e w'=>e=T (J U (Rf.jc ls l))/\Below w.heap.size w w':=by
 have HN:=zD h;have A:=zD hn;go_enter func94,ntmps94;go_wp2;go_loopw [1] (fun i wr=>∃f k:Nat,k<=G ls/\G ls < f+k/\i=J U ((k:Int)+1)/\Rf.goesFrom ls f k=Rf.jc ls l/\jA wr S g cap ls/\Below w.heap.size w wr) (fun i _=>G ls+1-(intOf i).toNat)
 case atStart=>exact⟨G ls+1-l,l,hl,by omega,by go_num,rfl,HN.u,zI _ _⟩
 case round=>
  obtain⟨f,k,hk,a1,rfl,hT,hs,W⟩:=hrel;have cT:=hs.top;have O:=qG hs W;obtain⟨f,rfl⟩:∃q,f=q+1:=⟨f-1,by omega⟩;by_cases hlt:k < G ls
  ·rw[A3 f k hlt]at hT;have HT:=zD hT;have a3:(k:Int)+1<=(G ls:Int):=by omega
   go_wp2_with fail;refine(fG k O.u.1 hlt d A.u).mono ?_;rintro e w1 ⟨rfl,N⟩;have x:=qG (O.u.1.zP N) (O.u.2.trans (N.mono O.u.2.size));cases hst:xx ls k ls[k]with
   | true=>
    rw[hst,zE rfl]at HT;go_wp2;go_ret;exact⟨by rw[<-HT.u];rfl,x.u.2⟩
   | false=>
    rw[hst,zA (by decide)]at HT;have F:=Zg ls k 1;go_wp2_with fail;refine(Vr k x.u.1 hlt d).mono ?_;rintro e w2 ⟨rfl,M⟩;have y:=qG (x.u.1.zP M) (x.u.2.trans (M.mono x.u.2.size));go_wp2_with fail;refine(xz k y.u.1 hlt d).mono ?_;rintro e w3 ⟨rfl,L⟩;have HS3:=qG (y.u.1.zP L) (y.u.2.trans (L.mono y.u.2.size));cases hel:((Rf.first ls[k]).toList==[101,108,115,101])with
    | true=>
     obtain⟨R,I⟩:=uu A.u hlt hel;obtain⟨o,z⟩:∃o,Rf.openerFrom ls k 1=o+1:=⟨Rf.openerFrom ls k 1-1,by omega⟩;rw[hel,zE rfl,z,zu]at HT;rw[z,zu]at I;rw[z]at F;have V:=closer_b ls (l:=o) (by omega);rw[z,show ((o+1:Nat):Int)=(o:Int)+1 by omega];have HO:=zD I;have a0:=zD V;go_wp2_with fail;refine(gp o HS3.u.1 (by omega) d).mono ?_;rintro e w4 ⟨rfl,j⟩;have HS4:=qG (HS3.u.1.zP j) (HS3.u.2.trans (j.mono HS3.u.2.size));generalize Rf.closer ls o=c at *;have a5:=HO.u;have a4:=a0.u;go_wp2;go_roundw
     ·exact⟨f,c,by omega,by omega,by go_num,HT.u,HS4.u.1,HS4.u.2⟩
     ·simp[intOf];omega
    | false=>
     rw[hel,zA (by decide)]at HT;cases hen:((Rf.first ls[k]).toList==[101,110,100])with
     | true=>
      have R:=KZ A.u hlt hen;obtain⟨o,z⟩:∃o,Rf.openerFrom ls k 1=o+1:=⟨Rf.openerFrom ls k 1-1,by omega⟩;rw[z]at F;have D:o < G ls:=by omega
      rw[hen,zE rfl,z,zu,yq D]at HT;rw[z,show ((o+1:Nat):Int)=(o:Int)+1 by omega];go_wp2_with fail;refine(xz o HS3.u.1 D d).mono ?_;rintro e w4 ⟨rfl,j⟩;have HS4:=qG (HS3.u.1.zP j) (HS3.u.2.trans (j.mono HS3.u.2.size));cases hwh:((Rf.first ls[o]).toList==[119,104,105,108,101])with
      | true=>
       rw[hwh,zE rfl]at HT;go_wp2;go_ret;exact⟨by rw[<-HT.u];rfl,HS4.u.2⟩
      | false=>
       rw[hwh,zA (by decide)]at HT;go_wp2;go_roundw
       ·exact⟨f,k+1,by omega,by omega,by go_num,HT.u,HS4.u.1,HS4.u.2⟩
       ·simp[intOf];omega
     | false=>
      rw[hen,zA (by decide)]at HT;go_wp2;go_roundw
      ·exact⟨f,k+1,by omega,by omega,by go_num,HT.u,HS3.u.1,HS3.u.2⟩
      ·simp[intOf];omega
  ·have a2:k=G ls:=by omega
   have HT:Hd (0=Rf.jc ls l):=zD (by rw[<-hT,Rf.goesFrom,zE (by omega)]);go_wp2;go_ret;exact⟨by rw[<-HT.u];rfl,O.u.2⟩
namespace Rf
theorem sW {f m:Nat} (h:m < G ls):otherFrom ls l c (f+1) m=if ((first ls[m]).toList==[101,108,115,101])=D/\openerFrom ls m 1=l+1 then m+1 else otherFrom ls l c f (m+1):=by
 rw[otherFrom,yq h]
def indexFrom (xs:Ib) (x:Ia):Nat->Nat->Int
 | 0,_=>-1
 | f+1,k=>if ve xs k=x then (k:Int)else indexFrom xs x f (k+1)
def index (xs:Ib) (x:Ia):Int:=indexFrom xs x (G xs) 0
def two (a:Int) (x:List UInt8) (b:Int):Int×Int:=
 if (x==[43])=D then (wrap64 (a+b),0)else if (x==[45])=D then (wrap64 (a-b),0)else if (x==[42])=D then (wrap64 (a*b),0)
 else if (x==[60])=D then (if a < b then 1 else 0,0)else if (x==[61])=D then (if a=b then 1 else 0,0)
 else if b=0 then (0,2)else if (x==[47])=D then (wrap64 (a.tdiv b),0)else (a.tmod b,0)
def split (t:Ib):Int:=if last kF t < 0 then (if last kL t < 0 then last vJ t else last kL t)else last kF t
end Rf
theorem AW (l:Nat) (h:jA w S g cap ls) (hl:l < G ls) (j:G ls<=100):Calls Tryz.prog 157 #[H (Q ⟨S,0,Z⟩),J U ((l:Int)+1)] w fun e w'=>e=T (J U (Rf.other ls l))/\Below w.heap.size w w':=by
 have V:=zD h;go_enter func157,ntmps157;go_wp2_with fail;refine(gp l V.u (by omega) j).mono ?_;rintro e w1 ⟨rfl,L⟩;have a2:=closer_b ls (l:=l) (by omega);have HG:=qG (V.u.zP L) L;have HR:Hd (Rf.other ls l=Rf.otherFrom ls l (Rf.closer ls l) (Rf.closer ls l-(l+2)) (l+1)):=zD rfl;generalize Rf.closer ls l=c at *;go_wp2_with fail;go_loopw [6] (fun i wr=>∃f k:Nat,l+1<=k/\k<=G ls/\f=c-(k+1)/\i=J U ((k:Int)+1)/\Rf.otherFrom ls l c f k=Rf.other ls l/\jA wr S g cap ls/\Below w.heap.size w wr) (fun i _=>G ls+1-(intOf i).toNat)
 case atStart=>exact⟨_,l+1,by omega,by omega,rfl,by go_num,HR.u.symm,HG.u.1,HG.u.2⟩
 case round=>
  obtain⟨f,k,a1,a0,hf,rfl,hT,hs,R⟩:=hrel;have M:=qG hs R;have x:=zD hT;have HF:=zD hf;cases f with
  | zero=>
   have O:¬(k:Int)+1 < (c:Int):=by have:=HF.u;omega
   go_wp2;go_ret;exact⟨by rw[<-x.u];rfl,M.u.2⟩
  | succ f=>
   have O:(k:Int)+1 < (c:Int):=by have:=HF.u;omega
   have y:k < G ls:=by omega
   rw[sW y]at x;go_wp2_with fail;refine(xz k M.u.1 y j).mono ?_;rintro e w2 ⟨rfl,I⟩;have d:=qG (M.u.1.zP I) (M.u.2.trans (I.mono M.u.2.size));generalize Rf.first ls[k]=z at *;cases hz:(z.toList==[101,108,115,101])with
   | true=>
    rw[hz]at x;simp only[jH]at x;go_wp2_with fail;refine(Vr k d.u.1 y j).mono ?_;rintro e w3 ⟨rfl,F⟩;have A:=qG (d.u.1.zP F) (d.u.2.trans (F.mono d.u.2.size));generalize Rf.openerFrom ls k 1=o at *;by_cases ho:o=l+1
    ·rw[zE ho]at x;have N:((o:Int)==(l:Int)+1)=D:=by rw[xw];omega
     go_wp2;go_ret;exact⟨by rw[<-x.u];rfl,A.u.2⟩
    ·rw[zA ho]at x;have N:((o:Int)==(l:Int)+1)=W:=by rw[zV];omega
     go_wp2;go_roundw
     ·exact⟨f,k+1,by omega,by omega,by have:=HF.u;omega,by go_num,x.u,A.u.1,A.u.2⟩
     ·simp[intOf];omega
   | false=>
    rw[hz]at x;simp only[YL,false_and,ID]at x;go_wp2;go_roundw
    ·exact⟨f,k+1,by omega,by omega,by have:=HF.u;omega,by go_num,x.u,d.u.1,d.u.2⟩
    ·simp[intOf];omega
theorem lr {xs:Ib} (x:Ia) (h:xA w v xs) (A:G xs<=100000):Calls Tryz.prog 116 #[v,O x] w fun e w'=>e=T (J U (Rf.index xs x))/\w'=w:=by
 obtain⟨H,cap,rfl,_,h⟩:=h;have HH:=zD h;clear h;go_enter func116,ntmps116;go_wp2;go_loop [5] (fun i=>∃f k:Nat,k+f=G xs/\i=J U k/\Rf.indexFrom xs x f k=Rf.index xs x) (fun i=>G xs-(intOf i).toNat)
 case atStart=>exact⟨G xs,0,by omega,rfl,rfl⟩
 case round=>
  obtain⟨f,k,D,rfl,z⟩:=hrel;have HT:=zD z;cases f with
  | zero=>
   have y:¬(k:Int) < (G xs:Int):=by omega
   go_wp2;go_ret;exact⟨by rw[<-HT.u];rfl,rfl⟩
  | succ f=>
   have d:k < G xs:=by omega
   rcases HH.u with h | ⟨b,o,rfl,h⟩
   ·rw[h]at d;simp at d
   have F:=h k d;rw[Rf.indexFrom,qq d]at HT;by_cases hx:xs[k]=x
   ·rw[zE hx]at HT;have j:=QB hx;go_wp2;go_ret;exact⟨by rw[<-HT.u];rfl,rfl⟩
   ·rw[zA hx]at HT;have j:=KI hx;go_wp2;go_round
    ·exact⟨f,k+1,by omega,by go_num,HT.u⟩
    ·simp[intOf];omega
theorem D2 (a b:Int) (x:Ia):Calls Tryz.prog 186 #[J U a,O x,J U b] w fun e w'=>e=T (E #[J U (Rf.two a x.toList b).1,J U (Rf.two a x.toList b).2])/\w'=w:=by
 have d:Hd (Rf.two a x.toList b=_):=zD (by unfold Rf.two;rfl);go_enter func186,ntmps186;cases h1:(x.toList==[43])with
 | true=>
  rw[h1,zE rfl]at d;go_wp2;go_ret2;exact⟨by rw[d.u];rfl,rfl⟩
 | false=>
 rw[h1,zA (by decide)]at d;cases h2:(x.toList==[45])with
 | true=>
  rw[h2,zE rfl]at d;go_wp2;go_ret2;exact⟨by rw[d.u];rfl,rfl⟩
 | false=>
 rw[h2,zA (by decide)]at d;cases h3:(x.toList==[42])with
 | true=>
  rw[h3,zE rfl]at d;go_wp2;go_ret2;exact⟨by rw[d.u];rfl,rfl⟩
 | false=>
 rw[h3,zA (by decide)]at d;cases h4:(x.toList==[60])with
 | true=>
  rw[h4,zE rfl]at d;by_cases hc:a < b
  ·rw[zE hc]at d;go_wp2;go_ret2;exact⟨by rw[d.u];rfl,rfl⟩
  ·rw[zA hc]at d;go_wp2;go_ret2;exact⟨by rw[d.u];rfl,rfl⟩
 | false=>
 rw[h4,zA (by decide)]at d;cases h5:(x.toList==[61])with
 | true=>
  rw[h5,zE rfl]at d;by_cases hc:a=b
  ·rw[zE hc]at d;have f:(a==b)=D:=by simpa using hc
   go_wp2;go_ret2;exact⟨by rw[d.u];rfl,rfl⟩
  ·rw[zA hc]at d;have f:(a==b)=W:=by simpa using hc
   go_wp2;go_ret2;exact⟨by rw[d.u];rfl,rfl⟩
 | false=>
 rw[h5,zA (by decide)]at d;by_cases hb:b=0
 ·rw[zE hb]at d;have h:(b==0)=D:=by simpa using hb
  go_wp2;go_ret2;exact⟨by rw[d.u];rfl,rfl⟩
 rw[zA hb]at d;cases h6:(x.toList==[47])with
 | true=>
  rw[h6,zE rfl]at d;go_wp2;go_ret2;exact⟨by rw[d.u];rfl,rfl⟩
 | false=>
  rw[h6,zA (by decide)]at d;go_wp2;go_ret2;exact⟨by rw[d.u];rfl,rfl⟩
theorem JE (h:xA w v t) (I:Y8 t):Calls Tryz.prog 185 #[v] w fun e w'=>e=T (J U (Rf.split t))/\Below w.heap.size w w':=by
 have W:=I.1;have F:=zD I;have k:Hd (Rf.split t=_):=zD (by unfold Rf.split;rfl);obtain⟨Z,cap,rfl,L⟩:=h.form;have M:=zD h;go_enter func185,ntmps185;go_wp2_with fail;refine(VW).mono ?_;rintro e w1 ⟨H,rfl,j,d⟩;have i:=zD (M.u.zP d);go_wp2_with fail;refine(JK i.u j (by omega) (by decide) F.u.2).mono ?_;rintro e w2 ⟨rfl,f⟩;have x:=zD (d.trans (f.mono (B':=w.heap.size) d.size));have D:=zD (i.u.zP f);by_cases h1:Rf.last kF t < 0
 ·rw[zE h1]at k;go_wp2_with fail;refine(iD).mono ?_;rintro e V ⟨H,rfl,j,d⟩;have i:=zD (D.u.zP d);have z:=zD (x.u.trans (d.mono (B':=w.heap.size) x.u.size));go_wp2_with fail;refine(JK i.u j (by omega) (by decide) F.u.2).mono ?_;rintro e R ⟨rfl,f⟩;have o:=zD (z.u.trans (f.mono (B':=w.heap.size) z.u.size));have A:=zD (i.u.zP f);by_cases h2:Rf.last kL t < 0
  ·rw[zE h2]at k;go_wp2_with fail;refine(ax).mono ?_;rintro e O ⟨H,rfl,j,d⟩;have i:=zD (A.u.zP d);have y:=zD (o.u.trans (d.mono (B':=w.heap.size) o.u.size));go_wp2_with fail;refine(JK i.u j (by omega) (by decide) F.u.2).mono ?_;rintro e N ⟨rfl,f⟩;have G:=zD (y.u.trans (f.mono (B':=w.heap.size) y.u.size));go_wp2;go_ret;exact⟨by rw[k.u];rfl,G.u⟩
  ·rw[zA h2]at k;go_wp2;go_ret;exact⟨by rw[k.u];rfl,o.u⟩
 ·rw[zA h1]at k;go_wp2;go_ret;exact⟨by rw[k.u];rfl,x.u⟩
namespace Rf
structure Fr where
 proc:Nat
 args:List Int
 call:Int
structure Pl where
 zH:List Fr
 vars:List Int
 cells:List (List Int)
 read:Nat
 out:List Int
 line:Int
 fin:Int
def zFr:Fr:=⟨0,[],0⟩
def top (p:Pl):Fr:=p.zH.getD (G p.zH-1) zFr
def XZ (ls:List Ib) (l:Nat):Ib:=(xU ls (l-1)).drop 2
def value (ls:List Ib) (p:Pl) (x:Ia):Int:=
 if 0<=index (XZ ls (top p).proc) x then (top p).args.getD (index (XZ ls (top p).proc) x).toNat 0 else p.vars.getD (decl ls x) 0
structure BZ (ls:List Ib) (f:Fr):Prop where
 lo:1<=f.proc
 hi:f.proc<=ls.length
 two:2<=(xU ls (f.proc-1)).length
 args:f.args.length=(xU ls (f.proc-1)).length-2
structure V9 (ls:List Ib) (p:Pl):Prop where
 some:0 < p.zH.length
 VJ:p.zH.length<=100
 each:∀f∈p.zH,BZ ls f
 vars:p.vars.length=ls.length+1
 cells:p.cells.length=ls.length+1
theorem V9.top {ls:List Ib} {p:Pl} (h:V9 ls p):BZ ls (top p):=by
 have d:=h.some;unfold Rf.top;rw[xL,zJ (by omega)];exact h.each _ (zj _)
theorem dn (xs:Ib) (x:Ia):∀f k,k+f=G xs->-1<=indexFrom xs x f k/\indexFrom xs x f k < G xs
 | 0,k,h=>by rw[indexFrom];omega
 | f+1,k,h=>by
  have:=dn xs x f (k+1) (by omega);rw[indexFrom];split <;> omega
theorem uf (xs:Ib) (x:Ia):-1<=index xs x/\index xs x < G xs:=dn xs x _ _ (by omega)
end Rf
abbrev Hi (xa:Option Addr) (xc:Nat) (ya:Option Addr) (yc:Nat) (za:Option Addr) (zc:Nat) (oa:Option Addr) (oc:Nat) (p:Rf.Pl):Array Value:=#[I xa (G p.zH) xc,I ya (G p.vars) yc,I za (G p.cells) zc,J U p.read,I oa (G p.out) oc,J U p.line,J U p.fin]
structure Dv (w:World) (P:Nat) (p:Rf.Pl):Prop where
 zH:∃b o cap,w.cell? ⟨P,0,none⟩=some (.slice (some ⟨b,o,none⟩) p.zH.length cap)/\∀i (h:i < p.zH.length),∃av,w.cell? ⟨b,o+i*3,none⟩=some (.int .i64 p.zH[i].proc)/\w.cell? ⟨b,o+i*3+1,none⟩=some av/\w.cell? ⟨b,o+i*3+2,none⟩=some (.int .i64 p.zH[i].call)/\kA w av p.zH[i].args
 vars:∃vv,w.cell? ⟨P,1,none⟩=some vv/\kA w vv p.vars
 cells:∃b o cap,w.cell? ⟨P,2,none⟩=some (.slice (some ⟨b,o,none⟩) p.cells.length cap)/\∀i (h:i < p.cells.length),∃cv,w.cell? ⟨b,o+i,none⟩=some cv/\kA w cv p.cells[i]
 read:w.cell? ⟨P,3,none⟩=some (.int .i64 p.read)
 out:∃ov,w.cell? ⟨P,4,none⟩=some ov/\kA w ov p.out
 line:w.cell? ⟨P,5,none⟩=some (.int .i64 p.line)
 fin:w.cell? ⟨P,6,none⟩=some (.int .i64 p.fin)
theorem Dv.zP {w w':World} {P:Nat} {p:Rf.Pl} (h:Dv w P p) (d:Below w.heap.size w w'):Dv w' P p:=by
 obtain⟨⟨b,o,cap,G,F⟩,⟨vv,y,x⟩,⟨J,A,f,I,H⟩,r,⟨ov,D,z⟩,l,e⟩:=h;refine⟨⟨b,o,cap,cell_later d G,fun i hi=>?_⟩,⟨vv,cell_later d y,x.zP d⟩,⟨J,A,f,cell_later d I,fun i hi=>?_⟩,cell_later d r,⟨ov,cell_later d D,z.zP d⟩,cell_later d l,cell_later d e⟩
 ·obtain⟨L,k,j,N,M⟩:=F i hi;exact⟨L,cell_later d k,cell_later d j,cell_later d N,M.zP d⟩
 ·obtain⟨cv,k,j⟩:=H i hi;exact⟨cv,cell_later d k,j.zP d⟩
theorem Dv.top {w:World} {P:Nat} {p:Rf.Pl} (h:Dv w P p) {n:Nat} (i:G p.zH=n+1):∃b o cap av,w.cell? ⟨P,0,Z⟩=Q (I (Q ⟨b,o,Z⟩) (n+1) cap)/\w.cell? ⟨b,o+n*3,Z⟩=Q (J U (Rf.top p).proc)/\w.cell? ⟨b,o+n*3+1,Z⟩=Q av/\w.cell? ⟨b,o+n*3+2,Z⟩=Q (J U (Rf.top p).call)/\kA w av (Rf.top p).args:=by
 obtain⟨b,o,cap,d,j⟩:=h.zH;obtain⟨av,z,y,x,k⟩:=j n (by omega);have f:Rf.top p=p.zH[n]:=by
  unfold Rf.top;rw[xL,show (G p.zH)-1=n by omega,zJ (by omega)];rfl
 rw[i]at d;rw[f];exact⟨b,o,cap,av,d,z,y,x,k⟩
theorem wK {p:Rf.Pl} (x:Ia) (h:jA w S g cap ls) (hL:Lawful ls) (hp:Dv w P p) (A:V9 ls p):Calls Tryz.prog 118 #[H (Q ⟨S,0,Z⟩),H (Q ⟨P,0,Z⟩),O x] w fun e w'=>e=T (J U (Rf.value ls p x))/\Below w.heap.size w w':=by
 obtain⟨n,hn⟩:∃n,G p.zH=n+1:=⟨G p.zH-1,by have:=A.some;omega⟩;have b1:=A.top;have a9:=A.VJ;rw[hn]at a9;have N:=A.vars;obtain⟨b,o,cp,av,c0,c1,c2,c3,a5⟩:=hp.top hn;obtain⟨fl,fh,f2,fa⟩:=b1;have M:Hd (Rf.value ls p x=_):=zD (by unfold Rf.value;rfl);have HP:=zD hp;have HG:=zD h;have L:=zD hL;have a6:=zD a5;have a0:=hL.len;generalize Rf.top p=fr at *;obtain⟨k,W⟩:∃q,fr.proc=q+1:=⟨fr.proc-1,by omega⟩;rw[W]at fl fh f2 fa M c1;rw[zu]at f2 fa;have f:k < G ls:=by omega
 rw[yq f]at f2 fa;rw[show ((k+1:Nat):Int)=(k:Int)+1 by omega]at c1;have d4:IntKind.i64.wrap (n:Int)=n:=zl _ ⟨by omega,by omega⟩;have d6:(n:Int) < (n:Int)+1:=by omega
 have b8:=zD fa;have b9:=zD f2;have b5:=zD N;clear fa f2 N W fl fh;obtain⟨z,j,rfl,a5⟩:=a6.u;go_enter func118,ntmps118;go_wp2_with fail;go_region_held3 (fun w'=>w'.cell? ⟨P,0,Z⟩=Q (I (Q ⟨b,o,Z⟩) (n+1) cp)/\w'.cell? ⟨b,o+n*3,Z⟩=Q (J U ((k:Int)+1))/\w'.cell? ⟨b,o+n*3+1,Z⟩=Q (I z (G fr.args) j)/\w'.cell? ⟨b,o+n*3+2,Z⟩=Q (J U fr.call)) (go_keep) (fail);have b3:=((zI w.heap.size w).alloc (zB _) (V #[J U ((k:Int)+1),I z (G fr.args) j,J U fr.call] 130)).drew;have a1:(w.alloc (V #[J U ((k:Int)+1),I z (G fr.args) j,J U fr.call] 130)).drew.heap[w.heap.size]?=Q (V #[J U ((k:Int)+1),I z (G fr.args) j,J U fr.call] 130 (0,0)):=zN w _;generalize (w.alloc (V #[J U ((k:Int)+1),I z (G fr.args) j,J U fr.call] 130)).drew=w1 at *;have k0:=zC a1 0 (by simp);simp only[yQ,zv]at k0;have D:=qG b3 a1;go_wp2_with fail;refine(Jd k (HG.u.zP D.u.1) f a0 b9.u (L.u.XO f).1).mono ?_;rintro e w2 ⟨pv,rfl,R,a4⟩;have d5:(ls[k].drop 2).length<=1000:=by have:=(L.u.XO f).1;simp;omega
 have y:=qG (D.u.1.trans (a4.mono (B':=w.heap.size) D.u.1.size)) (zU D.u.2 a4);have b6:=zD R;obtain⟨d3,d2,rfl,_⟩:=R.form;have b0:=uf (ls[k].drop 2) x;have a8:XZ ls (k+1)=ls[k].drop 2:=by rw[XZ,zu,yq f]
 rw[a8]at M;have b4:(G fr.args:Int)=((ls[k].drop 2).length:Int):=by rw[b8.u];simp
 generalize ls[k].drop 2=ps at *;go_wp2_with fail;refine(lr x b6.u (by omega)).mono ?_;rintro e w' ⟨rfl,rfl⟩;have d1:=zD b4;generalize Rf.index ps x=ix at *;have b7:=zD b0;have k1:=zC y.u.2 1 (by simp);simp only[yQ,yH,zv]at k1;by_cases hi:0<=ix
 ·rw[zE hi]at M;obtain⟨i,rfl⟩:=yr hi;have a2:i < G fr.args:=by have:=d1.u;have:=b7.u;omega
  obtain⟨ab,ao,ac,he,ci⟩:=(a6.u.zP y.u.1).get a2;simp only[xJ,jH]at he;obtain⟨rfl,he⟩:=he;have HR:Hd (Rf.value ls p x=fr.args[i]):=zD (by rw[M.u];simp[a2]);generalize fr.args[i]=r at *;go_wp2;go_ret;exact⟨by rw[HR.u];rfl,y.u.1⟩
 ·rw[zA hi]at M;go_wp2_with fail;refine(qg x (HG.u.zP y.u.1) L.u).mono ?_;rintro e w3 ⟨rfl,b2⟩;have F:=y.u.1.trans (b2.mono (B':=w.heap.size) y.u.1.size);obtain⟨vv,cv,a7⟩:=(HP.u.zP F).vars;have d0:=zD F;have d7:=Qb ls x;have a3:Rf.decl ls x < G p.vars:=by have:=b5.u;omega
  obtain⟨vb,vo,vc,rfl,ci⟩:=a7.get a3;have HR:Hd (Rf.value ls p x=p.vars[Rf.decl ls x]):=zD (by rw[M.u];simp[a3]);generalize p.vars[Rf.decl ls x]=r at *;generalize Rf.decl ls x=d at *;go_wp2;go_ret;exact⟨by rw[HR.u];rfl,d0.u⟩
section
variable {P:Program} (w:World)
theorem run_append_text (base:Nat) (t F N e:TypeId) (i:TypeInfo) (z:Value) (J:P.underlying t=some (.slice e)) (T:P.underlying F=some .string) (M:P.info? e=some i) (Z:i.zero=some z) (d:i.size=1) (I:i.bytes=1) (O:z.cells.size=1) (v:Value) (n:Nat) (xs:List Value) (hown:w.ownsRow base e 1 v n xs) (s:Ia) (a0:n+s.size<=140737488355328) (A:base<=w.heap.size):∃v' w',(Builtin.append_ #[t,F] N #[v,.string s]).run P w=.ok v' w'/\w'.ownsRow base e 1 v' (n+s.size) (xs++byteCells s)/\w.grownBy w' v.ownBlock:=by
 have D:Src P i.size F (.string s) s.size (byteCells s) w:=by rw[d];exact Src.ofString w T s
 have V:(byteCells s).length=s.size:=byteCells_length s;have y:xs.length=n:=by simpa using hown.1
 have f:(xs++byteCells s).length=n+s.size:=by rw[ze,y,V]
 have U:n+s.size<=maxLen:=by unfold maxLen;omega
 have o:∀(J8:Nat),J8 < n+s.size->∀(row:Option Nat),
   (w.drew.alloc (.cells ((xs++byteCells s).toArray++Builtin.zeroCells z.cells (grownCap w (n+s.size) J8 e-(n+s.size))) e)).ownsRow base e 1
    (.slice (some ⟨w.heap.size,0,none⟩) (n+s.size) (grownCap w (n+s.size) J8 e)) (n+s.size) (xs++byteCells s)/\
   w.grownBy (w.drew.alloc (.cells ((xs++byteCells s).toArray++Builtin.zeroCells z.cells (grownCap w (n+s.size) J8 e-(n+s.size))) e)) row:=by
  intro J8 ho row;have W:=grownCap_ge w (n+s.size) J8 e;have hcm:grownCap w (n+s.size) J8 e<=maxLen:=grownCap_le_maxLen w (n+s.size) J8 e U;refine⟨⟨by rw[f];simp,.inr ⟨w.heap.size,_,_,rfl,A,zN w.drew _,W,hcm,?_,?_⟩⟩,⟨rfl,rfl,rfl,by simp,fun k hk _=>G4 w.drew _ hk⟩⟩
  ·simp only[Array.size_append,List.size_toArray,size_zeroCells,O,f];omega
  ·simp only[Array.toList_append,Kn];rw[<-f];exact List.take_left
 rcases hown.2 with⟨rfl,rfl⟩| ⟨g,cap,cur,rfl,hbg,hg,hnc,hcm,hcs,htake⟩
 ·have R:xs=[]:=yu y;subst R;by_cases hm:s.size=0
  ·have hn:byteCells s=[]:=yu (by rw[V];exact hm);refine⟨.slice none 0 0,w,?_,?_,⟨rfl,rfl,rfl,zB _,fun _ _ _=>rfl⟩⟩
   ·have h0:=D.len;have h1:=D.cells;rw[hm,hn]at h1;simp[Builtin.append_,QE J,QE T,sizeOf,typeInfo,M,Builtin.lenOf,hm,h1]
   ·rw[hm,hn];exact zW w base e 1
  ·have L:=run_append_grow_src (P:=P) w t F N e i z J M Z none 0 0 [] (run_firstCells_none w.drew i.size 0 0 0) (.string s) s.size (byteCells s) D (by omega) (by omega) (by rw[I];exact growslice_fits (by omega) (by omega));have h:=o 0 (by omega) (Value.ownBlock (.slice none 0 0));simp only[xW,xN]at h L ⊢;exact⟨_,_,L,h.1,h.2⟩
 ·by_cases hroom:n+s.size<=cap
  ·have G:=run_storeCells_at P g n e (byteCells s) 0 cur w hg (by rw[V,hcs];omega) D.one;simp only[qO]at G;have H:=D.cells;rw[d]at H;refine⟨.slice (some ⟨g,0,none⟩) (n+s.size) cap,w.setRow g (cur.toList.take n++byteCells s++cur.toList.drop (n+(byteCells s).length)).toArray,?_,⟨by rw[f];simp,.inr ⟨g,cap,_,rfl,hbg,setRow_heap w g cur _ e _ hg,hroom,hcm,?_,?_⟩⟩,⟨rfl,rfl,rfl,by simp,fun k _ hk=>setRow_other w g k _ (fun e=>hk (by simp[Value.ownBlock,e]))⟩⟩
   ·simp[Builtin.append_,QE J,QE T,sizeOf,typeInfo,M,Builtin.lenOf,hroom,H,bq,d,G]
   ·simp only[List.size_toArray,ze,jw,xp,Array.length_toList];omega
   ·rw[Kn]at htake ⊢;rw[htake,<-f];exact List.take_left
  ·have x:∀j u,xs[j]?=some u->w.cell? ((⟨g,0,none⟩:Addr).add j)=some u:=hown.cells (g:=g) rfl;have L:=run_append_grow_src (P:=P) w t F N e i z J M Z (some ⟨g,0,none⟩) n cap xs (run_firstCells_some (P:=P) w.drew i.size n ⟨g,0,none⟩ n cap xs (by rw[y,d];simp) (by simpa using x)) (.string s) s.size (byteCells s) D (by omega) (by omega) (by rw[I];exact growslice_fits (by omega) (by omega));have h:=o cap (by omega) (Value.ownBlock (.slice (some ⟨g,0,none⟩) n cap));exact⟨_,_,L,h.1,h.2⟩
theorem G6 {ops:Array Oper} {rest:List Oper} {o:Oper} {a:Act} {Q:Exit->Act->World->Prop} (D:o.guard=none) (r x:Operand) (t k:TypeId) (N:o.op=.call { callee:=.builtin .append,args:=#[r,x],argTypes:=#[t,k] }) (base:Nat) (e:TypeId) (i:TypeInfo) (z:Value) (J:P.underlying t=some (.slice e)) (I:P.underlying k=some .string) (O:P.info? e=some i) (H:i.zero=some z) (d:i.size=1) (F:i.bytes=1) (y:z.cells.size=1) (v:Value) (n:Nat) (xs:List Value) (L:a.eval r=v) (j:w.ownsRow base e 1 v n xs) (s:Ia) (A:a.eval x=.string s) (G:n+s.size<=140737488355328) (f:base<=w.heap.size) (h:∀v' w',w'.ownsRow base e 1 v' (n+s.size) (xs++byteCells s)->w.grownBy w' v.ownBlock->wpList P ops Q rest (a.put o.dst v') w'):wpList P ops Q (o::rest) a w:=by
 refine wpList_plain D fun _ hK=>?_;obtain⟨v',w',M,T,R⟩:=run_append_text (P:=P) w base t k o.type e i z J I O H d F y v n xs j s G f;unfold Oper.wp execOp;simp only[N,resolve,invoke,builtin,Sem.run_bind,Sem.run_pure,Result.andThen_ok,List.map_toArray,qp,Ye,L,A,M];exact hK _ _ (h v' w' T R)
theorem Hz (d f e:TypeId) (base:Nat) (v:Value) (n:Nat) (l:List UInt8) (h:P.underlying d=some (.slice e)) (k:P.underlying e=some (.int .u8)) (o:P.underlying f=some .string) (hown:w.ownsRow base e 1 v n (l.map fun b=>Value.int .u8 b.toNat)):(convert d f v).run P w=.ok (.string ⟨l.toArray⟩) w:=by
 have i:l.length=n:=by simpa using hown.1
 rcases hown.2 with⟨rfl,rfl⟩| ⟨g,cap,cur,rfl,_⟩
 ·have:l=[]:=yu i;subst this;rw[run_convert_bytes_string w d f e none 0 0 h k o];rfl
 ·subst i;exact run_convert_bytes_back w d f e ⟨g,0,none⟩ cap l h k o (fun j hj=>hown.cells (g:=g) rfl j _ (by simp[hj]))
end
theorem Kd (h:kA w v xs) (J:G xs<=1000000):Calls Tryz.prog 58 #[v] w fun e w'=>Below w.heap.size w w'/\∃v',e=T v'/\w'.ownsRow w.heap.size 3 1 v' (G xs) (xs.map (Value.int U)):=by
 obtain⟨D,z,y,x,F⟩:=yi eU;have H:=zD h;obtain⟨L,cap,rfl,_⟩:=h;have k:=(zI w.heap.size w).alloc (zB _) (V #[] 3);have i:(w.alloc (V #[] 3)).ownsRow w.heap.size 3 1 (I (Q ⟨w.heap.size,0,Z⟩) 0 0) 0 []:=World.ownsRow_made w #[] 0 (zB _) (by unfold maxLen;omega) rfl;go_enter func58,ntmps58;go_wp2_with (at_builtin;refine Qh _ rfl _ _ 24 24 rfl w.heap.size 3 D _ underlying24 z y x (by omega) rfl _ _ _ rfl i _ (G xs) (xs.map (Value.int U)) rfl (H.u.zP k).src ?c1 ?c2 ?_)
 case c1=>omega
 case c2=>simp
 intro v' w' d f;have o:=k.grown f (by simp) (fun j hj=>by simp[Value.ownBlock]at hj;omega);have A:=qG d o;clear d o f i k;go_wp2;go_ret;exact⟨A.u.2,_,rfl,A.u.1⟩
end
namespace Rf
open Rt
theorem wU {o:Ia} (i:Is 1 p) (d:kp kF o=D) (f:Is 1 q):split (p++o::q)=G p:=by
 have h:=JL (kh i) (eb d) d (aj f rfl);rw[split,h,zA (by omega)]
theorem wV {o:Ia} (i:Is 1 p) (d:kp kL o=D) (f:Is 2 q):split (p++o::q)=G p:=by
 have h:=JL (kh i) (ba d) d (Yy f kL (Or.inl rfl) rfl);have j:=(aj (Is.s2 p o q i d f) rfl).last;rw[split,j,zE (by omega),h,zA (by omega)]
theorem wT {o:Ia} (j:Is 2 p) (d:kp vJ o=D) (i:Is 3 q):split (p++o::q)=G p:=by
 have h:=JL (kh j) (ay d) d (vh i vJ (Or.inl rfl) rfl);have f:=Is.t2 p o q j d i;have x:=(Yy f kF (Or.inr rfl) rfl).last;have k:=(Yy f kL (Or.inl rfl) rfl).last;rw[split,x,zE (by omega),k,zE (by omega),h]
theorem QD (h:Is 3 p):split p=-1:=by
 have i:=(vh h kF (Or.inr (Or.inr rfl)) rfl).last;have f:=(vh h kL (Or.inr (Or.inl rfl)) rfl).last;have d:=(vh h vJ (Or.inl rfl) rfl).last;rw[split,i,zE (by omega),f,zE (by omega),d]
end Rf
section
open Go.RowKit
def FB (r:Int×Int) (w:World) (e:Ending) (w':World):Prop:=e=T (E #[J U r.1,J U r.2])/\Below w.heap.size w w'
def Z5 (ls:List Ib) (p:Rf.Pl) (r:Int×Int) (t:Ib):Prop:=
 ∀(w:World) (S g cap P:Nat) (v:Value),jA w S g cap ls->Dv w P p->xA w v t->Calls Tryz.prog 154 #[H (Q ⟨S,0,Z⟩),H (Q ⟨P,0,Z⟩),v] w (FB r w)
theorem rb {p:Rf.Pl} {a b:Int×Int} (M:Y8 t) (R:Rf.split t=k) (L:k < G t) (h1:Z5 ls p a (t.take k)) (h2:Z5 ls p b (t.drop (k+1))):Z5 ls p (if ¬a.2=0 then (0,a.2)else if ¬b.2=0 then (0,b.2)else Rf.two a.1 t[k].toList b.1) t:=by
 intro w S g cap P v Z W H;have HG:=zD Z;have HP:=zD W;have I:=zD H;have HF:=zD M;have HI:=qG h1 h2;have hl:=M.1;obtain⟨ad,cp,rfl,V⟩:=H.form;obtain⟨tb,d,rfl⟩:=H.qZ (by intro h;rw[h]at L;simp at L);clear Z W H M h1 h2;have T:(k:Int) < (G t:Int):=by omega
 have a0:(0:Int)<=(k:Int):=by omega
 go_enter func154,ntmps154;go_wp2_with fail;refine(JE I.u HF.u).mono ?_;rintro e w1 ⟨rfl,z⟩;rw[R];have i:=zD z;clear z R;go_wp2_with fail;refine(HI.u.1 _ S g cap P _ (HG.u.zP i.u) (HP.u.zP i.u) ((I.u.zP i.u).take k _ (by omega) (by omega))).mono ?_;rintro e w2 ⟨rfl,y⟩;have f:=zD (i.u.trans (y.mono (B':=w.heap.size) i.u.size));clear y;obtain⟨O,a2⟩:=a;obtain⟨N,b2⟩:=b;by_cases ha:a2=0
 ·subst ha;go_wp2_with fail
  all_goals
   refine(HI.u.2 _ S g cap P _ (HG.u.zP f.u) (HP.u.zP f.u) (by first | exact xA.gone (by omega) rfl | exact(I.u.zP f.u).drop (k+1) _ _ rfl (by omega))).mono ?_;rintro e w3 ⟨rfl,o⟩;have j:=zD (f.u.trans (o.mono (B':=w.heap.size) f.u.size));clear o;by_cases hb:b2=0
   ·subst hb;obtain⟨ub,uo,uc,F,ct⟩:=(I.u.zP j.u).cell L;simp only[xJ,zx,Z9,jH,jJ]at F;obtain⟨⟨rfl,rfl⟩,F⟩:=F;clear F;generalize A:t[k]=x at *;have HX:=zD A;clear A;go_wp2_with fail;refine(D2 O N x).mono ?_;rintro e w4 ⟨rfl,rfl⟩;go_wp2;go_ret2;have A:=HX.u;subst A;exact⟨(qB (fun r:Int×Int=>Ending.returned (E #[J U r.1,J U r.2])) (show (if ¬(0:Int)=0 then ((0:Int),(0:Int))else if ¬(0:Int)=0 then ((0:Int),(0:Int))else Rf.two O t[k].toList N)=Rf.two O t[k].toList N by simp)).symm,j.u⟩
   ·have a3:(b2 != 0)=D:=by simpa using hb
    go_wp2;go_ret2;exact⟨by simp,j.u⟩
 ·have a4:(a2 != 0)=D:=by simpa using ha
  go_wp2;go_ret2;exact⟨by simp,f.u⟩
theorem YX (h:w.ownsRow B 3 1 v (G xs) (xR xs)):kA w v xs:=by
 obtain⟨o,cap,rfl⟩:=zK h;by_cases e:xs=[]
 ·exact⟨o,cap,rfl,Or.inl e⟩
 ·have i:0 < G xs:=kO.mpr e;obtain⟨g,c,f,_,_,_⟩:=yD h (j:=0) (u:=J U xs[0]) (by simp[xR,i]);injection f with h1 h2 h3;subst h1 h3;refine⟨Q ⟨g,0,Z⟩,cap,rfl,Or.inr ⟨g,0,rfl,fun j hj=>?_⟩⟩;obtain⟨g',x,d,_,_,k⟩:=yD h (j:=j) (u:=J U xs[j]) (by simp[xR,hj]);injection d with h1 _ _;injection h1 with h1;injection h1 with h1;subst h1;rw[xW];exact k
structure Bf (w:World) (fv vv cv ov:Value) (p:Rf.Pl):Prop where
 zH:∃b o cap,fv=.slice (some ⟨b,o,none⟩) p.zH.length cap/\∀i (h:i < p.zH.length),∃av,w.cell? ⟨b,o+i*3,none⟩=some (.int .i64 p.zH[i].proc)/\w.cell? ⟨b,o+i*3+1,none⟩=some av/\w.cell? ⟨b,o+i*3+2,none⟩=some (.int .i64 p.zH[i].call)/\kA w av p.zH[i].args
 vars:kA w vv p.vars
 cells:∃b o cap,cv=.slice (some ⟨b,o,none⟩) p.cells.length cap/\∀i (h:i < p.cells.length),∃x,w.cell? ⟨b,o+i,none⟩=some x/\kA w x p.cells[i]
 out:kA w ov p.out
theorem Bf.zP {w w':World} {fv vv cv ov:Value} {p:Rf.Pl} (h:Bf w fv vv cv ov p) (d:Below w.heap.size w w'):Bf w' fv vv cv ov p:=by
 obtain⟨⟨b,o,cap,D,A⟩,v,⟨H,z,f,G,F⟩,x⟩:=h;refine⟨⟨b,o,cap,D,fun i hi=>?_⟩,v.zP d,⟨H,z,f,G,fun i hi=>?_⟩,x.zP d⟩
 ·obtain⟨I,k,j,L,J⟩:=A i hi;exact⟨I,cell_later d k,cell_later d j,cell_later d L,J.zP d⟩
 ·obtain⟨y,k,j⟩:=F i hi;exact⟨y,cell_later d k,j.zP d⟩
def jh (fv vv cv ov:Value) (p:Rf.Pl):Array Value:=#[fv,vv,cv,J U p.read,ov,J U p.line,J U p.fin]
theorem Bf.at {p:Rf.Pl} (h:Bf w fv vv cv ov p) {t:TypeId} (j:w.heap[P]?=Q (V (jh fv vv cv ov p) t (0,0))):Dv w P p:=by
 have c:∀i (hi:i < 7),w.cell? ⟨P,i,Z⟩=Q ((jh fv vv cv ov p)[i]'(by simpa[jh] using hi)):=fun i hi=>zC j i (by simpa[jh] using hi);obtain⟨⟨b,o,cap,y,k⟩,v,⟨D,f,d,A,z⟩,x⟩:=h;exact⟨⟨b,o,cap,by rw[<-y];exact c 0 (by omega),k⟩,⟨vv,c 1 (by omega),v⟩,⟨D,f,d,by rw[<-A];exact c 2 (by omega),z⟩,c 3 (by omega),⟨ov,c 4 (by omega),x⟩,c 5 (by omega),c 6 (by omega)⟩
structure Qg where
 fv:Value
 vv:Value
 cv:Value
 ov:Value
 xg:List Value
 kB:List Value
def frCells:List Value->List Rf.Fr->List Value
 | v::vs,f::fs=>.int .i64 f.proc::v::.int .i64 f.call::frCells vs fs
 | _,_=>[]
theorem Ke:∀(vs:List Value) (fs:List Rf.Fr),G vs=G fs->(frCells vs fs).length=G fs*3
 | [],[],_=>rfl
 | [],_::_,h=>by simp at h
 | _::_,[],h=>by simp at h
 | v::vs,f::fs,h=>by
  have:=Ke vs fs (by simpa using h);simp only[frCells,yE,this];omega
theorem Jr:∀(vs:List Value) (fs:List Rf.Fr) (v:Value) (f:Rf.Fr),G vs=G fs->frCells (vs++[v]) (fs++[f])=frCells vs fs++[J U f.proc,v,J U f.call]
 | [],[],_,_,_=>rfl
 | [],_::_,_,_,h=>by simp at h
 | _::_,[],_,_,h=>by simp at h
 | v::vs,f::fs,v',f',h=>by
  have:=Jr vs fs v' f' (by simpa using h);simp only[yF,frCells,this]
theorem YN:∀(vs:List Value) (fs:List Rf.Fr) (h:G vs=G fs) (i:Nat) (hi:i < G fs),(frCells vs fs)[i*3]?=Q (J U fs[i].proc)/\(frCells vs fs)[i*3+1]?=Q (vs[i]'(by rw[h];exact hi))/\(frCells vs fs)[i*3+2]?=Q (J U fs[i].call)
 | [],[],_,i,hi=>by simp at hi
 | [],_::_,h,_,_=>by simp at h
 | _::_,[],h,_,_=>by simp at h
 | v::vs,f::fs,h,0,hi=>by simp[frCells]
 | v::vs,f::fs,h,i+1,hi=>by
  have:=YN vs fs (by simpa using h) i (by simpa using hi);simp only[frCells,show (i+1)*3=i*3+3 by omega];simpa using this
theorem dq:∀(vs:List Value) (fs:List Rf.Fr) (i:Nat) (g:List Int->List Int),frCells vs (fs.modify i (fun f=>⟨f.proc,g f.args,f.call⟩))=frCells vs fs
 | [],_,_,_=>by cases ‹List Rf.Fr› <;> rfl
 | _::_,[],i,_=>by cases i <;> rfl
 | v::vs,f::fs,0,g=>by simp[frCells]
 | v::vs,f::fs,i+1,g=>by simp only[Yl,frCells,dq vs fs i g]
theorem Cd (fs:List Rf.Fr) (i:Nat) (g:List Int->List Int):(fs.modify i (fun f=>⟨f.proc,g f.args,f.call⟩)).map Rf.Fr.args=(fs.map Rf.Fr.args).modify i g:=by
 induction fs generalizing i with
 | nil=>cases i <;> rfl
 | cons f fs ih=>cases i with
  | zero=>rfl
  | succ i=>simp[ih]
def jy (v:Value) (vs:List Value) (fs:List Rf.Fr):Rw:=⟨130,3,v,G fs,frCells vs fs⟩
def YF (v:Value) (vs:List Value) (n:Nat):Rw:=⟨24,1,v,n,vs⟩
def yO (X:Qg) (p:Rf.Pl):List Rw:=
 [jy X.fv X.xg p.zH,zz X.vv p.vars,YF X.cv X.kB (G p.cells),zz X.ov p.out]++(List.zipWith zz X.xg (p.zH.map Rf.Fr.args)++List.zipWith zz X.kB p.cells)
structure vC (w:World) (B P:Nat) (p:Rf.Pl) (X:Qg):Prop where
 block:w.heap[P]?=some (.cells (jh X.fv X.vv X.cv X.ov p) 72 (0,0))
 own:Own w (yO X p)
 fl:X.xg.length=p.zH.length
 cl:X.kB.length=p.cells.length
 new:∀k∈xh (yO X p),B<=k
 here:B<=P
theorem vC.zP {w w':World} {B P:Nat} {p:Rf.Pl} {X:Qg} (h:vC w B P p X) (d:Below w.heap.size w w'):vC w' B P p X:=
 ⟨zU h.block d,h.own.zP d,h.fl,h.cl,h.new,h.here⟩
section
variable {w:World} {B P:Nat} {p:Rf.Pl} {X:Qg} (h:vC w B P p X)
include h
theorem vC.Jq:w.ownsRow 0 130 3 X.fv (G p.zH) (frCells X.xg p.zH):=h.own.rows (jy X.fv X.xg p.zH) (by simp[yO])
theorem vC.wJ:w.ownsRow 0 3 1 X.vv (G p.vars) (xR p.vars):=h.own.rows (zz X.vv p.vars) (by simp[yO])
theorem vC.eB:w.ownsRow 0 24 1 X.cv (G p.cells) X.kB:=h.own.rows (YF X.cv X.kB (G p.cells)) (by simp[yO])
theorem vC.CQ:w.ownsRow 0 3 1 X.ov (G p.out) (xR p.out):=h.own.rows (zz X.ov p.out) (by simp[yO])
theorem vC.Gr (i:Nat) (f:i < G p.zH):w.ownsRow 0 3 1 (X.xg[i]'(by rw[h.fl];exact f)) p.zH[i].args.length (xR p.zH[i].args):=by
 have d:i < G X.xg:=by rw[h.fl];exact f
 refine h.own.rows (zz X.xg[i] p.zH[i].args) ?_;unfold yO;refine zb _ (zY _ ?_);have:(List.zipWith zz X.xg (p.zH.map Rf.Fr.args))[i]?=Q (zz X.xg[i] p.zH[i].args):=by
  rw[je,zJ d,yt,zJ f];rfl
 exact qF this
theorem vC.Gl (i:Nat) (f:i < G p.cells):w.ownsRow 0 3 1 (X.kB[i]'(by rw[h.cl];exact f)) p.cells[i].length (xR p.cells[i]):=by
 have d:i < G X.kB:=by rw[h.cl];exact f
 refine h.own.rows (zz X.kB[i] p.cells[i]) ?_;unfold yO;refine zb _ (zb _ ?_);have:(List.zipWith zz X.kB p.cells)[i]?=Q (zz X.kB[i] p.cells[i]):=by
  rw[je,zJ d,zJ f]
 exact qF this
theorem vC.val (J:0 < G p.zH) (L:0 < G p.cells):Bf w X.fv X.vv X.cv X.ov p:=by
 obtain⟨g,cap,z,_,_,_⟩:=yD h.Jq (YN X.xg p.zH h.fl 0 J).1;obtain⟨M,x,o,_,_,_⟩:=yD h.eB (j:=0) (zJ (by rw[h.cl];exact L));refine⟨⟨g,0,cap,z,fun i hi=>?_⟩,YX h.wJ,⟨M,0,x,o,fun i hi=>?_⟩,YX h.CQ⟩
 ·obtain⟨I,H,F⟩:=YN X.xg p.zH h.fl i hi;obtain⟨g1,N,d,_,_,y⟩:=yD h.Jq I;obtain⟨R,U,k,_,_,D⟩:=yD h.Jq H;obtain⟨O,T,f,_,_,A⟩:=yD h.Jq F;rw[z]at d k f;injection d with d _ _;injection d with d;injection d with d;injection k with k _ _;injection k with k;injection k with k;injection f with f _ _;injection f with f;injection f with f;subst d k f;rw[xW];exact⟨_,y,D,A,YX (h.Gr i hi)⟩
 ·obtain⟨g1,N,d,_,_,y⟩:=yD h.eB (j:=i) (zJ (by rw[h.cl];exact hi));rw[o]at d;injection d with d _ _;injection d with d;injection d with d;subst d;rw[xW];exact⟨_,y,YX (h.Gl i hi)⟩
theorem vC.read (d:0 < G p.zH) (f:0 < G p.cells):Dv w P p:=(h.val d f).at h.block
end
end
namespace Rt
theorem pH {lk:Qw} {q:Int}:(jR (lk.modify o (fun y=>(x,y.2))) q).2=(jR lk q).2:=by
 unfold jR;split
 ·rfl
 ·rw[qW];cases lk[q.toNat]? with
  | none=>rfl
  | some y=>
   simp only[Qv,Xf,Zn];split <;> rfl
theorem QP {lk:Qw} (f:Int×Int->Int×Int) {q:Int} (h:q≠o) (d:0<=q):jR (lk.modify o f) q=jR lk q:=by
 unfold jR;rw[zA (by omega),zA (by omega),qW];cases lk[q.toNat]? with
 | none=>rfl
 | some y=>
  simp only[Qv,Xf,Zn];rw[zA (by omega)]
theorem gD {lk:Qw} (h:o < G lk):(jR (lk.modify o (fun y=>(y.1,x))) (o:Int)).2=x:=by
 unfold jR;rw[zA (by omega),qW,xS,zJ h];simp
structure Zo (n:Nat) (bs:List Zx) (acc:List PL) (lk:Qw):Prop where
 inc:(bs.map (·.line)).Pairwise (· < ·)
 lt:∀x∈bs.map (·.line),1<=x/\x < n
 fwd:∀(j:Nat) (p:PL),acc[j]?=some p->p.form.kind=6->∃o:Nat,p.opener=(o:Int)/\(o∈bs.map (·.line)\/(o∉bs.map (·.line)/\o < n/\(j:Int)<=(jR lk o).2/\(jR lk o).2<=n))
theorem Vw {bs:List Zx} (h:bs≠[]):bs.map (·.line)=bs.dropLast.map (·.line)++[(jE bs).line]:=by
 have:jE bs=bs.getLast h:=by
  unfold jE;rw[xk,xd h];rfl
 rw[this]
 conv=>lhs;rw[<-xj h]
 rw[yB];rfl
theorem KP (d:List Zx) (p:PL):(ym d p).form.kind=p.form.kind:=by rw[(XH d p).2]
theorem Zo.grow {bs bs':List Zx} {acc:List PL} {lk lk':Qw} {q:PL} (h:Zo n bs acc lk) (A:G acc=n) (f:bs'.map (·.line)=bs.map (·.line)) (y:∀o:Nat,(jR lk' o).2=(jR lk o).2) (z:q.form.kind=6->∃o:Nat,q.opener=(o:Int)/\o∈bs.map (·.line)):Zo (n+1) bs' (acc++[q]) lk':=by
 refine⟨by rw[f];exact h.inc,fun x hx=>by rw[f]at hx;have:=h.lt x hx;omega,?_⟩;intro j p d i;rw[f];by_cases hlt:j < G acc
 ·rw[yp hlt]at d;obtain⟨o,e,h1⟩:=h.fwd j p d i;refine⟨o,e,?_⟩;rcases h1 with h1 | ⟨h1,h2,h3,h4⟩
  ·exact Or.inl h1
  ·exact Or.inr ⟨h1,by omega,by rw[y];exact h3,by rw[y];omega⟩
 ·rw[yU (by omega)]at d;cases hjj:j-G acc with
  | zero=>
   rw[hjj]at d;simp at d;subst d;obtain⟨o,e,h1⟩:=z i;exact⟨o,e,Or.inl h1⟩
  | succ k=>rw[hjj]at d;simp at d
theorem Zo.opens {bs:List Zx} {acc:List PL} {lk:Qw} {q:PL} {b:Zx} (h:Zo n bs acc lk) (A:G acc=n) (D:0 < n) (z:b.line=n) (i:q.form.kind≠6):Zo (n+1) (bs++[b]) (acc++[q]) lk:=by
 have hm:(bs++[b]).map (·.line)=bs.map (·.line)++[n]:=by rw[yB,qp,Ye,z]
 refine⟨?_,?_,?_⟩
 ·rw[hm,qE];exact⟨h.inc,List.pairwise_singleton _ _,fun x hx y hy=>by have:=h.lt x hx;rw[yN.mp hy];exact this.2⟩
 ·intro x hx;rw[hm]at hx;rcases zd.mp hx with hx | hx
  ·have:=h.lt x hx;omega
  ·rw[yN.mp hx];omega
 ·intro j p d f;rw[hm];by_cases hlt:j < G acc
  ·rw[yp hlt]at d;obtain⟨o,e,h1⟩:=h.fwd j p d f;refine⟨o,e,?_⟩;rcases h1 with h1 | ⟨h1,h2,h3,h4⟩
   ·exact Or.inl (zY _ h1)
   ·refine Or.inr ⟨fun hm=>?_,by omega,h3,by omega⟩;rcases zd.mp hm with hm | hm
    ·exact h1 hm
    ·rw[yN.mp hm]at h2;omega
  ·rw[yU (by omega)]at d;cases hjj:j-G acc with
   | zero=>rw[hjj]at d;simp at d;subst d;exact absurd f i
   | succ k=>rw[hjj]at d;simp at d
theorem Zo.ends {bs:List Zx} {acc:List PL} {lk:Qw} {q:PL} (h:Zo n bs acc lk) (M:G acc=n) (L:bs≠[]) (J:n<=G lk) (I:q.form.kind≠6):Zo (n+1) bs.dropLast (acc++[q]) (lk.modify (jE bs).line (fun y=>(y.1,(n:Int)))):=by
 have z:=Vw L;have f:=h.inc;rw[z,qE]at f;obtain⟨H,_,F⟩:=f;have A:1<=(jE bs).line/\(jE bs).line < n:=h.lt _ (by rw[z];simp);have i:(jE bs).line∉bs.dropLast.map (·.line):=fun hm=>by have:=F _ hm _ (yN.mpr rfl);omega
 refine⟨H,fun x hx=>by have:=h.lt x (by rw[z];exact zY _ hx);omega,?_⟩;intro j p d D;by_cases hlt:j < G acc
 ·rw[yp hlt]at d;obtain⟨o,e,h1⟩:=h.fwd j p d D;refine⟨o,e,?_⟩;rw[z]at h1;by_cases ho:o=(jE bs).line
  ·refine Or.inr ⟨by rw[ho];exact i,by omega,?_,?_⟩
   ·rw[ho,gD (by omega)];omega
   ·rw[ho,gD (by omega)];omega
  ·rw[QP _ (by omega) (by omega)];rcases h1 with h1 | ⟨h1,h2,h3,h4⟩
   ·rcases zd.mp h1 with h1 | h1
    ·exact Or.inl h1
    ·exact absurd (yN.mp h1) ho
   ·exact Or.inr ⟨fun hm=>h1 (zY _ hm),by omega,h3,by omega⟩
 ·rw[yU (by omega)]at d;cases hjj:j-G acc with
  | zero=>rw[hjj]at d;simp at d;subst d;exact absurd D I
  | succ k=>rw[hjj]at d;simp at d
theorem rO {bs:List Zx} {k:Int} (h:Yj bs k=D) (d:k=4\/k=6):bs≠[]:=by
 intro e;unfold Yj at h;rw[zA (by omega),zA (by omega),zE e]at h;cases h
theorem Zo.step {len:Nat} {bs:List Zx} {acc:List PL} {lk:Qw} {p:PL} (h:Zo n bs acc lk) (A:G acc=n) (L:0 < n) (H:n < len) (J:G lk=len) (I:Yj bs p.form.kind=D):Zo (n+1) (qK bs n p.form.kind) (acc++[ym bs p]) (Zu len lk (ym bs p) n):=by
 have d:=KP bs p;by_cases h6:p.form.kind=6
 ·have x:=rO I (Or.inr h6);have z:=Vw x;have i:(ym bs p).opener=((jE bs).line:Int):=by unfold ym;rw[zA x,zE (Or.inl h6)]
  have k:qK bs n p.form.kind=bs.dropLast++[⟨(jE bs).line,(jE bs).kind,D⟩]:=by
   unfold qK;rw[zA (by omega),zE h6,zA x]
  have j:(jE bs).line∈bs.map (·.line):=by rw[z];simp
  have F:=h.lt _ j;have f:Zu len lk (ym bs p) n=lk.modify (jE bs).line (fun y=>((n:Int),y.2)):=by
   unfold Zu;rw[i,zE (by omega),d,zE h6];rfl
  rw[k,f];refine h.grow A ?_ (fun o=>pH) (fun _=>⟨_,i,j⟩);rw[z,yB];rfl
 ·by_cases h4:p.form.kind=4
  ·have x:=rO I (Or.inl h4);have z:=Vw x;have i:(ym bs p).opener=((jE bs).line:Int):=by unfold ym;rw[zA x,zE (Or.inr h4)]
   have j:(jE bs).line∈bs.map (·.line):=by rw[z];simp
   have F:=h.lt _ j;have k:qK bs n p.form.kind=bs.dropLast:=by
    unfold qK;rw[zA (by omega),zA h6,zE h4]
   have f:Zu len lk (ym bs p) n=lk.modify (jE bs).line (fun y=>(y.1,(n:Int))):=by
    unfold Zu;rw[i,zE (by omega),d,zA h6,zE h4];rfl
   rw[k,f];exact h.ends A x (by omega) (by rw[d];exact h6)
  ·have f:Zu len lk (ym bs p) n=lk:=by
    unfold Zu;rw[d,zA h6,zA h4];split <;> rfl
   rw[f];unfold qK;by_cases h3:p.form.kind=3\/p.form.kind=5\/p.form.kind=7
   ·rw[zE h3];exact h.opens A L rfl (by rw[d];exact h6)
   ·rw[zA h3,zA h6,zA h4];exact h.grow A rfl (fun _=>rfl) (fun e=>absurd (d▸e) h6)
theorem od (len:Nat):∀(ps:List PL) (n:Nat) (bs:List Zx) (acc:List PL) (lk:Qw) (ls:List PL) (b2:List Zx),nestFrom ps n bs acc=(0,ls,b2)->0 < n->G acc=n->n+G ps=len->G lk=len->Zo n bs acc lk->Zo len b2 ls (nestLk len ps n bs lk)
 | [],n,bs,acc,lk,ls,b2,h,_,_,hl,_,hi=>by
  simp[nestFrom]at h;obtain⟨rfl,rfl⟩:=h;have:n=len:=by simpa using hl
  subst this;exact hi
 | p::r,n,bs,acc,lk,ls,b2,h,h0,hn,hl,hlk,hi=>by
  rw[nestFrom]at h;split at h
  ·next ha=>
   rw[nestLk,zE ha];exact od len r (n+1) _ _ _ ls b2 h (by omega) (by simp[hn]) (by simp at hl;omega) (by rw[Jl,hlk]) (hi.step hn h0 (by simp at hl;omega) hlk ha)
  ·simp at h;omega
theorem Aj {ps ls:List PL} (h:nestFrom ps 1 [] [kb]=(0,ls,[])) (i:G ps<=100):∀(n:Nat) (p:PL),ls[n]?=Q p->p.form.kind=6->(n:Int)<=(jR (vS ps) p.opener).2/\(jR (vS ps) p.opener).2<=200:=by
 have f:=od (G ps+1) ps 1 [] [kb] (List.replicate (G ps+1) (0,0)) ls [] h (by omega) rfl (by omega) (by simp) ⟨by simp,by simp,fun j p hj hp=>by
  cases j with
  | zero=>simp at hj;subst hj;exact absurd hp (by decide)
  | succ j=>simp at hj⟩
 intro n p d hp;obtain⟨o,e,h1⟩:=f.fwd n p d hp;rcases h1 with h1 | ⟨_,_,h3,h4⟩
 ·simp at h1
 ·rw[e];exact⟨h3,by unfold vS;omega⟩
def kd (ps:List PL) (n:Nat):Int:=((ps[n]?).getD kb).form.kind
theorem eS {ps:List PL} {p:PL} (h:ps[n]?=Q p):kd ps n=p.form.kind:=by rw[kd,h];rfl
def stk (ps:List PL):Nat->List Zx
 | 0=>[]
 | n+1=>qK (stk ps n) (n+1) (kd ps n)
structure Vb (ps ls:List PL):Prop where
 len:ls.length=ps.length+1
 zero:ls[0]?=some kb
 Yj:∀n,n < ps.length->Yj (stk ps n) (kd ps n)=true
 ym:∀n p,ps[n]?=some p->ls[n+1]?=some (ym (stk ps n) p)
 shut:stk ps ps.length=[]
theorem oY (ps:List PL):∀(f k:Nat) (acc ls:List PL),k+f=G ps->G acc=k+1->nestFrom (ps.drop k) (k+1) (stk ps k) acc=(0,ls,[])->
  (∀j,j < G acc->ls[j]?=acc[j]?)/\G ls=G ps+1/\stk ps (G ps)=[]/\∀n p,k<=n->ps[n]?=Q p->Yj (stk ps n) p.form.kind=D/\ls[n+1]?=Q (ym (stk ps n) p)
 | 0,k,acc,ls,hk,ha,h=>by
  rw[zp (by omega),nestFrom]at h;injection h with _ h;injection h with h1 h2;subst h1;have:k=G ps:=by omega
  subst this;refine⟨fun _ _=>rfl,by omega,h2,fun n p hn hp=>?_⟩;rw[xt (by omega)]at hp;cases hp
 | f+1,k,acc,ls,hk,ha,h=>by
  have d:k < G ps:=by omega
  rw[zZ d,nestFrom]at h;split at h
  ·next had=>
   have i:kd ps k=ps[k].form.kind:=eS (zJ d);obtain⟨o,z,y,x⟩:=oY ps f (k+1) (acc++[ym (stk ps k) ps[k]]) ls (by omega) (by simp[ha]) (by rw[stk,i];exact h);refine⟨fun j hj=>?_,z,y,fun n p hn hp=>?_⟩
   ·rw[o j (by simp;omega),yp hj]
   ·by_cases e:n=k
    ·subst e;rw[zJ d]at hp;injection hp with hp;subst hp;refine⟨had,?_⟩;rw[o (n+1) (by simp;omega),yU (by omega),ha];simp
    ·exact x n p (by omega) hp
  ·injection h with h _;omega
theorem Fw {ps ls:List PL} (h:nestFrom ps 1 [] [kb]=(0,ls,[])):Vb ps ls:=by
 obtain⟨j,i,f,d⟩:=oY ps (G ps) 0 [kb] ls (by omega) rfl h;refine⟨i,j 0 (by simp),fun n hn=>?_,fun n p hp=>(d n p (zo _) hp).2,f⟩;have:=(d n ps[n] (zo _) (zJ hn)).1;rw[eS (zJ hn)];exact this
def xu (ps:List PL):Nat->List (Nat×Int)
 | 0=>[]
 | n+1=>if kd ps n=3\/kd ps n=5\/kd ps n=7 then xu ps n++[(n+1,kd ps n)]else if kd ps n=4 then (xu ps n).dropLast else xu ps n
theorem nJ {bs:List Zx} (h:bs≠[]):jE bs=bs.getLast h:=by
 unfold jE;rw[xk,xd h];rfl
theorem aH (ps:List PL):∀n,(stk ps n).map (fun b=>(b.line,b.kind))=xu ps n
 | 0=>rfl
 | n+1=>by
  have d:=aH ps n;rw[stk,xu,<-d];unfold qK;by_cases h3:kd ps n=3\/kd ps n=5\/kd ps n=7
  ·rw[zE h3,zE h3,yB];rfl
  ·rw[zA h3,zA h3];by_cases h6:kd ps n=6
   ·rw[zE h6,zA (show ¬kd ps n=4 by omega)];by_cases hb:stk ps n=[]
    ·rw[zE hb,hb]
    ·rw[zA hb,yB,nJ hb]
     conv=>rhs;rw[<-xj hb]
     rw[yB];rfl
   ·rw[zA h6];by_cases h4:kd ps n=4
    ·rw[zE h4,zE h4,Qx]
    ·rw[zA h4,zA h4]
def Z3 (L:List (Nat×Int)):Nat×Int:=L.getLastD (0,0)
def Yt (L:List (Nat×Int)):Nat×Int:=L.headD (0,0)
theorem fH (ps:List PL) (n:Nat):((jE (stk ps n)).line,(jE (stk ps n)).kind)=Z3 (xu ps n):=by
 rw[<-aH];by_cases hb:stk ps n=[]
 ·rw[hb];rfl
 ·rw[nJ hb,Z3,xk,List.getLast?_map,xd hb];rfl
theorem wP {ps:List PL}:(kr (stk ps n)).line=(Yt (xu ps n)).1:=by
 rw[<-aH];cases stk ps n with
 | nil=>rfl
 | cons b r=>rfl
theorem XA (ps:List PL) (n:Nat):stk ps n=[]↔xu ps n=[]:=by
 rw[<-aH];simp
structure Gt (ps:List PL) (n:Nat):Prop where
 inc:((xu ps n).map (·.1)).Pairwise (· < ·)
 each:∀b∈xu ps n,1<=b.1/\b.1<=n/\kd ps (b.1-1)=b.2
 head:∀b r,xu ps n=b::r->b.2=3/\∀c∈r,c.2=5\/c.2=7
theorem Qo (h:L≠[]):Z3 L∈L:=by
 unfold Z3;rw[xk,xd h];exact JV h
theorem gd:∀b∈L.dropLast,b∈L:=fun _ hb=>vL _ hb
theorem ZA {ps ls:List PL} (h:Vb ps ls) (d:n < G ps) (f:¬(kd ps n=0\/kd ps n=1\/kd ps n=2\/kd ps n=3)):xu ps n≠[]:=by
 have:=h.Yj n d;unfold Rt.Yj at this;intro e;rw[zA (by omega),zA (by omega),zE ((XA ps n).mpr e)]at this;cases this
theorem eg {ps ls:List PL} (h:Vb ps ls) (d:n < G ps) (f:kd ps n=1\/kd ps n=2\/kd ps n=3):xu ps n=[]:=by
 have:=h.Yj n d;unfold Rt.Yj at this;rw[zA (by omega),zE f]at this;exact(XA ps n).mp (qf this)
theorem nf {ps ls:List PL} (h:Vb ps ls) (f:n < G ps) (i:kd ps n=6):(Z3 (xu ps n)).2=5/\(jE (stk ps n)).aB=W:=by
 have:=h.Yj n f;unfold Rt.Yj at this;have d:=ZA h f (by omega);rw[zA (by omega),zA (by omega),zA (fun e=>d ((XA ps n).mp e)),zE i]at this;simp only[zy,yS,Bool.not_eq_true']at this;rw[<-fH];exact this
theorem AQ (h:(L.map (·.1)).Pairwise (· < ·)):(L.dropLast.map (·.1)).Pairwise (· < ·):=by
 rw[Qx];exact h.sublist (List.dropLast_sublist _)
theorem KJ {ps ls:List PL} (h:Vb ps ls):∀n,n<=G ps->Gt ps n
 | 0,_=>⟨by simp[xu],by simp[xu],fun b r e=>by simp[xu]at e⟩
 | n+1,hn=>by
  have f:=KJ h n (by omega);by_cases h3:kd ps n=3\/kd ps n=5\/kd ps n=7
  ·have e:xu ps (n+1)=xu ps n++[(n+1,kd ps n)]:=by rw[xu,zE h3]
   refine⟨?_,fun b hb=>?_,fun b r hb=>?_⟩
   ·rw[e,yB,qE];refine⟨f.inc,List.pairwise_singleton _ _,fun x hx y hy=>?_⟩;obtain⟨b,hb,rfl⟩:=xr.mp hx;have:=(f.each b hb).2.1;simp at hy;omega
   ·rw[e]at hb;rcases zd.mp hb with hb | hb
    ·have:=f.each b hb;exact⟨this.1,by omega,this.2.2⟩
    ·rw[yN.mp hb];exact⟨by simp,by simp,by simp⟩
   ·rw[e]at hb;cases hs:xu ps n with
    | nil=>
     rw[hs]at hb;have i:kd ps n=3:=by
      rcases h3 with h3 | h3
      ·exact h3
      ·exact absurd hs (ZA h (by omega) (by omega))
     simp at hb;rw[<-hb.1,hb.2];exact⟨i,by simp⟩
    | cons c q=>
     rw[hs]at hb;simp at hb;obtain⟨rfl,rfl⟩:=hb;have:=f.head c q hs;refine⟨this.1,fun x hx=>?_⟩;rcases zd.mp hx with hx | hx
     ·exact this.2 x hx
     ·rw[yN.mp hx];rcases h3 with h3 | h3
      ·have:=eg h (show n < G ps by omega) (by omega);rw[hs]at this;cases this
      ·exact h3
  ·by_cases h4:kd ps n=4
   ·have e:xu ps (n+1)=(xu ps n).dropLast:=by rw[xu,zA h3,zE h4]
    refine⟨by rw[e];exact AQ f.inc,fun b hb=>?_,fun b r hb=>?_⟩
    ·rw[e]at hb;have:=f.each b (gd b hb);exact⟨this.1,by omega,this.2.2⟩
    ·rw[e]at hb;cases hs:xu ps n with
     | nil=>rw[hs]at hb;simp at hb
     | cons c q=>
      rw[hs]at hb;have:=f.head c q hs;cases q with
      | nil=>simp at hb
      | cons d q=>
       rw[List.dropLast_cons_of_ne_nil (by simp)]at hb;injection hb with e1 e2;subst e1;rw[<-e2];exact⟨this.1,fun x hx=>this.2 x (gd x hx)⟩
   ·have e:xu ps (n+1)=xu ps n:=by rw[xu,zA h3,zA h4]
    exact⟨by rw[e];exact f.inc,fun b hb=>by rw[e]at hb;have:=f.each b hb;exact⟨this.1,by omega,this.2.2⟩,fun b r hb=>by rw[e]at hb;exact f.head b r hb⟩
theorem fF {ps:List PL} {o i:Nat} (h:o<=i) (f:∀b∈xu ps i,b.1≠o):∀j,∀b∈xu ps (i+j),b.1≠o
 | 0=>f
 | j+1=>by
  have d:=fF h f j;intro b hb;rw[<-vN,xu]at hb;split at hb
  ·rcases zd.mp hb with hb | hb
   ·exact d b hb
   ·rw[yN.mp hb];simp only;omega
  ·split at hb
   ·exact d b (gd b hb)
   ·exact d b hb
theorem fZ {ps:List PL} (h:xu ps n≠[]) (f:xu ps (n+1)≠[]):Yt (xu ps (n+1))=Yt (xu ps n):=by
 rw[xu]at f ⊢;cases hs:xu ps n with
 | nil=>exact absurd hs h
 | cons c q=>
  rw[hs]at f;split
  ·rfl
  ·rename_i h3;rw[zA h3]at f;split
   ·rename_i h4;rw[zE h4]at f;cases q with
    | nil=>simp at f
    | cons d q=>rfl
   ·rfl
theorem nt {ps:List PL} {o:Nat}:∀(j i:Nat),o<=i->(∃b∈xu ps i,b.1=o)->(∃b∈xu ps (i+j),b.1=o)->Yt (xu ps (i+j))=Yt (xu ps i)
 | 0,i,_,_,_=>rfl
 | j+1,i,ho,hi,hj=>by
  have hm:∃b∈xu ps (i+1),b.1=o:=by
   by_cases hm:∃b∈xu ps (i+1),b.1=o
   ·exact hm
   ·obtain⟨b,d,e⟩:=hj;exact absurd e (fF (ps:=ps) (i:=i+1) (by omega) (fun c hc hce=>hm ⟨c,hc,hce⟩) j b (by rw[show i+1+j=i+(j+1) by omega];exact d))
  rw[show i+(j+1)=(i+1)+j by omega]at hj ⊢;rw[nt j (i+1) (by omega) hm hj];obtain⟨b,d,_⟩:=hi;obtain⟨c,hc,_⟩:=hm;exact fZ (List.ne_nil_of_mem d) (List.ne_nil_of_mem hc)
def lkn (ps:List PL):Nat->Qw
 | 0=>List.replicate (ps.length+1) (0,0)
 | n+1=>Zu (ps.length+1) (lkn ps n) (ym (stk ps n) ((ps[n]?).getD kb)) (n+1)
theorem uY (ps:List PL):∀n,(lkn ps n).length=G ps+1
 | 0=>by simp[lkn]
 | n+1=>by rw[lkn,Jl,uY ps n]
theorem fp {ps ls:List PL} (h:Vb ps ls):∀f k,k+f=G ps->nestLk (G ps+1) (ps.drop k) (k+1) (stk ps k) (lkn ps k)=lkn ps (G ps)
 | 0,k,hk=>by
  have:k=G ps:=by omega
  subst this;rw[zp (zB _),nestLk]
 | f+1,k,hk=>by
  have d:k < G ps:=by omega
  have i:kd ps k=ps[k].form.kind:=eS (zJ d);have j:=h.Yj k d;rw[i]at j;have o:=fp h f (k+1) (by omega);rw[zZ d,nestLk,zE j];rw[stk,lkn,i,zJ d]at o;exact o
theorem Xx {ps ls:List PL} (h:Vb ps ls):vS ps=lkn ps (G ps):=fp h (G ps) 0 (by omega)
theorem gC {lk:Qw} {q:Int}:(jR (lk.modify o (fun y=>(y.1,x))) q).1=(jR lk q).1:=by
 unfold jR;split
 ·rfl
 ·rw[qW];cases lk[q.toNat]? with
  | none=>rfl
  | some y=>
   simp only[Qv,Xf,Zn];split <;> rfl
theorem pG {lk:Qw} (h:o < G lk):(jR (lk.modify o (fun y=>(x,y.2))) (o:Int)).1=x:=by
 unfold jR;rw[zA (by omega),qW,xS,zJ h];simp
structure LkOK (ps:List PL) (n:Nat):Prop where
 aB:∀m,m < n->kd ps m=6->(jR (lkn ps n) ((Z3 (xu ps m)).1:Nat)).1=(m:Int)+1
 Fx:∀o:Nat,(jR (lkn ps n) o).1=0\/∃m:Nat,m < n/\kd ps m=6/\(Z3 (xu ps m)).1=o/\(jR (lkn ps n) o).1=(m:Int)+1
 cls:∀o:Nat,1<=o->o<=n->(kd ps (o-1)=3\/kd ps (o-1)=5\/kd ps (o-1)=7)->(∃b∈xu ps n,b.1=o)\/∃e:Nat,e < n/\kd ps e=4/\(Z3 (xu ps e)).1=o/\(jR (lkn ps n) o).2=(e:Int)+1
 FR:∀b∈stk ps n,b.aB=false->(jR (lkn ps n) (b.line:Nat)).1=0
theorem K8 (h:L≠[]):L=L.dropLast++[Z3 L]:=by
 unfold Z3;rw[xk,xd h];exact(xj h).symm
theorem cW {ps ls:List PL} (h:Vb ps ls) (i:n < G ps) (j:kd ps n=6\/kd ps n=4):(ym (stk ps n) ((ps[n]?).getD kb)).opener=((Z3 (xu ps n)).1:Nat)/\(ym (stk ps n) ((ps[n]?).getD kb)).form.kind=kd ps n:=by
 have d:stk ps n≠[]:=fun e=>ZA h i (by omega) ((XA ps n).mp e);have f:((ps[n]?).getD kb).form.kind=6\/((ps[n]?).getD kb).form.kind=4:=j;refine⟨?_,KP _ _⟩;unfold ym;rw[zA d,zE f,<-fH]
theorem Fi {ps ls:List PL} (h:Vb ps ls) (k:n<=G ps) (f:stk ps n≠[]):∀b∈(stk ps n).dropLast,b∈stk ps n/\b.line < (Z3 (xu ps n)).1:=by
 intro b j;have i:=(KJ h n k).inc;have d:xu ps n≠[]:=fun e=>f ((XA ps n).mpr e);rw[K8 d,yB,qE]at i;refine⟨vL _ j,?_⟩;have o:(b.line,b.kind)∈(xu ps n).dropLast:=by
  rw[<-aH,<-Qx];exact xr.mpr ⟨b,j,rfl⟩
 exact i.2.2 b.line (xr.mpr ⟨_,o,rfl⟩) _ (by simp)
theorem uZ {ps ls:List PL} (h:Vb ps ls):∀n,n<=G ps->LkOK ps n
 | 0,_=>⟨fun m hm=>by omega,fun o=>Or.inl (by
   unfold lkn jR;rw[zA (by omega),YP];split <;> rfl),fun o h1 h2=>by omega,fun b hb=>by simp[stk]at hb⟩
 | n+1,hn=>by
  have ih:=uZ h n (by omega);have H:=uY ps n;have z:=KJ h n (by omega);have x:n < G ps:=by omega
  by_cases h6:kd ps n=6
  ·have i:=ZA h x (show ¬(kd ps n=0\/kd ps n=1\/kd ps n=2\/kd ps n=3) by omega);have f:stk ps n≠[]:=fun e=>i ((XA ps n).mp e);obtain⟨O,N,M⟩:=z.each _ (Qo i);obtain⟨D,A⟩:=cW h x (Or.inl h6);have j:xu ps (n+1)=xu ps n:=by rw[xu,zA (by omega),zA (by omega)]
   have d:lkn ps (n+1)=(lkn ps n).modify (Z3 (xu ps n)).1 (fun y=>((n:Int)+1,y.2)):=by
    rw[lkn,Zu,D,zE (by omega),A,zE h6];rfl
   have J:(jR (lkn ps n) ((Z3 (xu ps n)).1:Nat)).1=0:=by
    have I:=fH ps n;have:=ih.FR (jE (stk ps n)) (by rw[nJ f];exact JV f) (nf h x h6).2;rw[<-I];exact this
   refine⟨fun m hm hk=>?_,fun o=>?_,fun o h1 h2 h3=>?_,fun b hb he=>?_⟩
   ·rw[d];by_cases e:m=n
    ·subst e;exact pG (by omega)
    ·have:=ih.aB m (by omega) hk;by_cases e2:(Z3 (xu ps m)).1=(Z3 (xu ps n)).1
     ·rw[e2,J]at this;omega
     ·rw[QP _ (by omega) (by omega)];exact this
   ·rw[d];by_cases e:o=(Z3 (xu ps n)).1
    ·subst e;exact Or.inr ⟨n,by omega,h6,rfl,pG (by omega)⟩
    ·rw[QP _ (by omega) (by omega)];rcases ih.Fx o with k | ⟨m,m1,m2,m3,m4⟩
     ·exact Or.inl k
     ·exact Or.inr ⟨m,by omega,m2,m3,m4⟩
   ·rw[d,pH,j];by_cases e:o=n+1
    ·subst e;rw[zu]at h3;omega
    ·rcases ih.cls o h1 (by omega) h3 with k | ⟨m,m1,m2,m3,m4⟩
     ·exact Or.inl k
     ·exact Or.inr ⟨m,by omega,m2,m3,m4⟩
   ·rw[stk]at hb;unfold qK at hb;rw[zA (by omega),zE h6,zA f]at hb;rcases zd.mp hb with hb | hb
    ·obtain⟨L,R⟩:=Fi h (by omega) f b hb;rw[d,QP _ (by omega) (by omega)];exact ih.FR b L he
    ·rw[yN.mp hb]at he;cases he
  ·by_cases h4:kd ps n=4
   ·have i:=ZA h x (show ¬(kd ps n=0\/kd ps n=1\/kd ps n=2\/kd ps n=3) by omega);have f:stk ps n≠[]:=fun e=>i ((XA ps n).mp e);obtain⟨O,N,M⟩:=z.each _ (Qo i);obtain⟨D,A⟩:=cW h x (Or.inr h4);have j:xu ps (n+1)=(xu ps n).dropLast:=by rw[xu,zA (by omega),zE h4]
    have d:lkn ps (n+1)=(lkn ps n).modify (Z3 (xu ps n)).1 (fun y=>(y.1,(n:Int)+1)):=by
     rw[lkn,Zu,D,zE (by omega),A,zA h6,zE h4];rfl
    refine⟨fun m hm hk=>?_,fun o=>?_,fun o h1 h2 h3=>?_,fun b hb he=>?_⟩
    ·rw[d,gC];have:m≠n:=fun e=>by subst e;omega
     exact ih.aB m (by omega) hk
    ·rw[d,gC];rcases ih.Fx o with k | ⟨m,m1,m2,m3,m4⟩
     ·exact Or.inl k
     ·exact Or.inr ⟨m,by omega,m2,m3,m4⟩
    ·rw[d,j];by_cases e:o=(Z3 (xu ps n)).1
     ·subst e;exact Or.inr ⟨n,by omega,h4,rfl,gD (by omega)⟩
     ·rw[QP _ (by omega) (by omega)];have:o≠n+1:=fun e=>by subst e;rw[zu]at h3;omega
      rcases ih.cls o h1 (by omega) h3 with⟨b,hb,hbo⟩| ⟨m,m1,m2,m3,m4⟩
      ·refine Or.inl ⟨b,?_,hbo⟩;rw[K8 i]at hb;rcases zd.mp hb with hb | hb
       ·exact hb
       ·rw[yN.mp hb]at hbo;exact absurd hbo.symm e
      ·exact Or.inr ⟨m,by omega,m2,m3,m4⟩
    ·rw[stk]at hb;unfold qK at hb;rw[zA (by omega),zA h6,zE h4]at hb;rw[d,gC];exact ih.FR b (vL _ hb) he
   ·have d:lkn ps (n+1)=lkn ps n:=by
     rw[lkn,Zu,KP];have e:((ps[n]?).getD kb).form.kind=kd ps n:=rfl;rw[e,zA h6,zA h4];split <;> rfl
    by_cases h3:kd ps n=3\/kd ps n=5\/kd ps n=7
    ·have j:xu ps (n+1)=xu ps n++[(n+1,kd ps n)]:=by rw[xu,zE h3]
     refine⟨fun m hm hk=>?_,fun o=>?_,fun o h1 h2 h3'=>?_,fun b hb he=>?_⟩
     ·rw[d];have:m≠n:=fun e=>by subst e;omega
      exact ih.aB m (by omega) hk
     ·rw[d];rcases ih.Fx o with k | ⟨m,m1,m2,m3,m4⟩
      ·exact Or.inl k
      ·exact Or.inr ⟨m,by omega,m2,m3,m4⟩
     ·rw[d,j];by_cases e:o=n+1
      ·subst e;exact Or.inl ⟨(n+1,kd ps n),by simp,rfl⟩
      ·rcases ih.cls o h1 (by omega) h3' with⟨b,hb,hbo⟩| ⟨m,m1,m2,m3,m4⟩
       ·exact Or.inl ⟨b,zY _ hb,hbo⟩
       ·exact Or.inr ⟨m,by omega,m2,m3,m4⟩
     ·rw[stk]at hb;unfold qK at hb;rw[zE h3]at hb;rw[d];rcases zd.mp hb with hb | hb
      ·exact ih.FR b hb he
      ·rw[yN.mp hb];rcases ih.Fx (n+1)with k | ⟨m,m1,m2,m3,m4⟩
       ·exact k
       ·exfalso;have i:=ZA h (show m < G ps by omega) (show ¬(kd ps m=0\/kd ps m=1\/kd ps m=2\/kd ps m=3) by omega);have:=(KJ h m (by omega)).each _ (Qo i);omega
    ·have j:xu ps (n+1)=xu ps n:=by rw[xu,zA h3,zA h4]
     have F:stk ps (n+1)=stk ps n:=by rw[stk];unfold qK;rw[zA h3,zA h6,zA h4]
     refine⟨fun m hm hk=>?_,fun o=>?_,fun o h1 h2 h3'=>?_,fun b hb he=>?_⟩
     ·rw[d];have:m≠n:=fun e=>by subst e;omega
      exact ih.aB m (by omega) hk
     ·rw[d];rcases ih.Fx o with k | ⟨m,m1,m2,m3,m4⟩
      ·exact Or.inl k
      ·exact Or.inr ⟨m,by omega,m2,m3,m4⟩
     ·rw[d,j];by_cases e:o=n+1
      ·subst e;rw[zu]at h3';exact absurd h3' h3
      ·rcases ih.cls o h1 (by omega) h3' with k | ⟨m,m1,m2,m3,m4⟩
       ·exact Or.inl k
       ·exact Or.inr ⟨m,by omega,m2,m3,m4⟩
     ·rw[F]at hb;rw[d];exact ih.FR b hb he
end Rt
section
open Go.RowKit
namespace Rt
theorem ZO (n:Nat) (h:n<=1000):wrap64 (n:Int)=n:=yC _ (by omega)
theorem Cg {ps zL:List PL} (h:Vb ps zL) (d:n < G ps):vU zL ((n:Int)+1)=ym (stk ps n) ps[n]:=by
 have:=h.ym n ps[n] (zJ d);rw[vU,zA (by omega),show ((n:Int)+1).toNat=n+1 by omega,this];rfl
theorem Qm {ps:List PL} (d:n < G ps):kd ps n=ps[n].form.kind:=eS (zJ d)
theorem aa {ps zL:List PL} (h:Vb ps zL) (d:n < G ps):(vU zL ((n:Int)+1)).form=ps[n].form:=by rw[Cg h d,(XH _ _).2]
theorem Jk {ps zL:List PL} (h:Vb ps zL) (d:n < G ps):(vU zL ((n:Int)+1)).form.kind=kd ps n:=by rw[aa h d,Qm d]
theorem Xp {ps zL:List PL} (h:Vb ps zL) (d:n < G ps):yA zL ((n:Int)+1)=ps[n].form:=by
 have:=h.ym n ps[n] (zJ d);rw[yA,zA (by omega),show ((n:Int)+1).toNat=n+1 by omega,this];exact(XH _ _).2
theorem nG {ps zL:List PL} (h:Vb ps zL) (i:n < G ps) (f:xu ps n≠[]):(vU zL ((n:Int)+1)).proc=((Yt (xu ps n)).1:Nat):=by
 have d:stk ps n≠[]:=fun e=>f ((XA ps n).mp e);rw[Cg h i,<-wP];unfold ym;rw[zA d];split <;> rfl
theorem Xw {ps zL:List PL} (h:Vb ps zL) (d:n < G ps) (f:kd ps n=6\/kd ps n=4):(vU zL ((n:Int)+1)).opener=((Z3 (xu ps n)).1:Nat):=by
 have:=(cW h d f).1;rw[zJ d]at this;rw[Cg h d];exact this
theorem Q5 {ps zL:List PL} (h:Vb ps zL) (o:n < G ps) (f:xu ps n≠[]):1<=(Z3 (xu ps n)).1/\(Z3 (xu ps n)).1<=n/\kd ps ((Z3 (xu ps n)).1-1)=(Z3 (xu ps n)).2/\((Z3 (xu ps n)).2=3\/(Z3 (xu ps n)).2=5\/(Z3 (xu ps n)).2=7):=by
 have i:=KJ h n (by omega);obtain⟨a,b,c⟩:=i.each _ (Qo f);refine⟨a,b,c,?_⟩;cases hs:xu ps n with
 | nil=>exact absurd hs f
 | cons d q=>
  obtain⟨k,j⟩:=i.head d q hs;have hm:=Qo f;rw[hs]at hm;rcases zw.mp hm with e | hm
  ·exact Or.inl (by rw[e];exact k)
  ·exact Or.inr (j _ hm)
theorem mh {ps zL:List PL} (h:Vb ps zL) (o:e < G ps) (k:kd ps e=4) (x:(Z3 (xu ps e)).2≠3):xu ps (e+1)≠[]/\Yt (xu ps (e+1))=Yt (xu ps e):=by
 have f:=ZA h o (show ¬(kd ps e=0\/kd ps e=1\/kd ps e=2\/kd ps e=3) by omega);have i:xu ps (e+1)=(xu ps e).dropLast:=by rw[xu,zA (by omega),zE k]
 have d:xu ps (e+1)≠[]:=by
  rw[i];intro y;have j:=K8 f;rw[y,xN]at j;exact x ((KJ h e (by omega)).head _ [] j).1
 exact⟨d,fZ f d⟩
theorem mI {ps zL:List PL} (h:Vb ps zL) (D:∃b∈xu ps n,b.1=o) (A:e < G ps) (F:kd ps e=4) (H:(Z3 (xu ps e)).1=o):n<=e:=by
 by_cases hlt:n<=e
 ·exact hlt
 ·exfalso;have f:=ZA h A (show ¬(kd ps e=0\/kd ps e=1\/kd ps e=2\/kd ps e=3) by omega);have j:xu ps (e+1)=(xu ps e).dropLast:=by rw[xu,zA (by omega),zE F]
  have z:=(KJ h e (by omega)).inc;rw[K8 f,yB,qE]at z;have y:=(Q5 h A f).2.1;have d:=fF (ps:=ps) (o:=o) (i:=e+1) (by omega) (fun b y=>by
   rw[j]at y;have:=z.2.2 b.1 (xr.mpr ⟨b,y,rfl⟩) (Z3 (xu ps e)).1 (by simp);omega) (n-(e+1))
  rw[show e+1+(n-(e+1))=n by omega]at d;obtain⟨b,x,k⟩:=D;exact d b x k
theorem nZ {ps zL:List PL} (h:Vb ps zL) (x:o < G ps) (i:kd ps o=3\/kd ps o=5\/kd ps o=7):∃e:Nat,o < e/\e < G ps/\kd ps e=4/\(Z3 (xu ps e)).1=o+1/\(Z3 (xu ps e)).2=kd ps o/\(jR (vS ps) ((o:Int)+1)).2=(e:Int)+1:=by
 have hl:=uZ h (G ps) (zB _);rw[Xx h];rcases hl.cls (o+1) (by omega) (by omega) (by rw[zu];exact i)with⟨b,hb,_⟩| ⟨e,e1,e2,e3,e4⟩
 ·rw[show xu ps (G ps)=[]from (XA ps _).mp h.shut]at hb;simp at hb
 ·have d:=ZA h e1 (show ¬(kd ps e=0\/kd ps e=1\/kd ps e=2\/kd ps e=3) by omega);obtain⟨k,j,f,_⟩:=Q5 h e1 d;rw[e3,zu]at f;exact⟨e,by omega,e1,e2,e3,f.symm,by rw[<-e4];rfl⟩
theorem opened {ps:List PL} (d:kd ps o=3\/kd ps o=5\/kd ps o=7):xu ps (o+1)=xu ps o++[(o+1,kd ps o)]:=by rw[xu,zE d]
theorem EV {x:Nat×Int} (h:L≠[]):Yt (L++[x])=Yt L:=by
 cases L with
 | nil=>exact absurd rfl h
 | cons a r=>rfl
theorem JR {ps zL:List PL} (h:Vb ps zL) (k:o < G ps) (x:kd ps o=5\/kd ps o=7) (z:e < G ps) (y:(Z3 (xu ps e)).1=o+1) (i:xu ps e≠[]):Yt (xu ps e)=Yt (xu ps o)/\xu ps o≠[]:=by
 have f:=opened (ps:=ps) (o:=o) (Or.inr x);have d:=ZA h k (show ¬(kd ps o=0\/kd ps o=1\/kd ps o=2\/kd ps o=3) by omega);obtain⟨F,D,A,_⟩:=Q5 h z i;have j:=nt (ps:=ps) (o:=o+1) (e-(o+1)) (o+1) (zB _) ⟨(o+1,kd ps o),by rw[f];simp,rfl⟩ ⟨Z3 (xu ps e),by rw[show o+1+(e-(o+1))=e by omega];exact Qo i,y⟩;rw[show o+1+(e-(o+1))=e by omega,f,EV d]at j;exact⟨j,d⟩
theorem Bt {ps zL:List PL} (h:Vb ps zL) (d:n < G ps) (hs:xV zL (vU zL ((n:Int)+1))=W):xy (kd ps n)=W/\(kd ps n=4->(Z3 (xu ps n)).2≠3):=by
 unfold xV at hs;rw[Jk h d]at hs;cases hsk:xy (kd ps n)with
 | true=>rw[hsk,zE rfl]at hs;cases hs
 | false=>
  refine⟨rfl,fun h4 e=>?_⟩;have f:=ZA h d (show ¬(kd ps n=0\/kd ps n=1\/kd ps n=2\/kd ps n=3) by omega);obtain⟨o,k,j,_⟩:=Q5 h d f;rw[hsk,zA (by simp),zE h4,Xw h d (Or.inr h4)]at hs;have i:=Xp h (n:=(Z3 (xu ps n)).1-1) (by omega);rw[show (((Z3 (xu ps n)).1-1:Nat):Int)+1=((Z3 (xu ps n)).1:Nat) by omega]at i;rw[i,<-Qm,j,e]at hs;simp at hs
theorem uj {ps zL:List PL} (h:Vb ps zL) (L:G ps<=100):∀(f n:Nat),n<=G ps->G ps < f+n->xu ps n≠[]->∃l:Nat,goOn zL (vS ps) f ((n:Int)+1)=(l:Int)+1/\l < G ps/\xV zL (vU zL ((l:Int)+1))=D/\xu ps l≠[]/\Yt (xu ps l)=Yt (xu ps n)
 | 0,n,hn,hf,_=>by omega
 | f+1,n,hn,hf,hne=>by
  have d:n < G ps:=by
   by_cases e:n=G ps
   ·rw[e]at hne;exact absurd ((XA ps _).mp h.shut) hne
   ·omega
  rw[goOn,zE (by rw[h.len];omega)];by_cases hs:xV zL (vU zL ((n:Int)+1))=D
  ·rw[zE hs];exact⟨n,rfl,d,hs,hne,rfl⟩
  ·rw[zA hs,Jk h d];obtain⟨s1,W⟩:=Bt h d (by simpa using hs);by_cases h4:kd ps n=4
   ·obtain⟨i1,i2,i,Z⟩:=Q5 h d hne;rw[Xw h d (Or.inr h4)];have H:=Xp h (n:=(Z3 (xu ps n)).1-1) (by omega);rw[show (((Z3 (xu ps n)).1-1:Nat):Int)+1=((Z3 (xu ps n)).1:Nat) by omega]at H;rw[H,<-Qm,i];by_cases h7:(Z3 (xu ps n)).2=7
    ·rw[zE ⟨h4,h7⟩];obtain⟨R,b2⟩:=JR h (o:=(Z3 (xu ps n)).1-1) (e:=n) (by omega) (Or.inr (by rw[i,h7])) d (by omega) hne;refine⟨(Z3 (xu ps n)).1-1,by omega,by omega,?_,b2,R.symm⟩;unfold xV;rw[Jk h (by omega),i,h7];rfl
    ·rw[zA (fun e=>h7 e.2),zA (by omega)];obtain⟨O,N⟩:=mh h d h4 (W h4);rw[show wrap64 ((n:Int)+1+1)=((n+1:Nat):Int)+1 by have:=ZO (n+2) (by omega);rw[show ((n:Int)+1+1)=((n+2:Nat):Int) by omega,this];omega];obtain⟨l,z,y,x,k,j⟩:=uj h L f (n+1) (by omega) (by omega) O;exact⟨l,z,y,x,k,j.trans N⟩
   ·rw[zA (fun e=>h4 e.1)];by_cases h6:kd ps n=6
    ·rw[zE h6,Xw h d (Or.inl h6)];obtain⟨i1,i2,i,Z⟩:=Q5 h d hne;have I:=(nf h d h6).1;obtain⟨e,e1,J,V,e4,e5,U⟩:=nZ h (o:=(Z3 (xu ps n)).1-1) (by omega) (by rw[i,I];exact Or.inr (Or.inl rfl));rw[show (((Z3 (xu ps n)).1-1:Nat):Int)+1=((Z3 (xu ps n)).1:Nat) by omega]at U;rw[U,show wrap64 ((e:Int)+1+1)=((e+1:Nat):Int)+1 by have:=ZO (e+2) (by omega);rw[show ((e:Int)+1+1)=((e+2:Nat):Int) by omega,this];omega];have M:(Z3 (xu ps e)).1=(Z3 (xu ps n)).1:=by omega
     have a0:=mI h ⟨Z3 (xu ps n),Qo hne,rfl⟩ J V M;have F:=ZA h J (show ¬(kd ps e=0\/kd ps e=1\/kd ps e=2\/kd ps e=3) by omega);obtain⟨O,N⟩:=mh h J V (by rw[e5,i,I];decide);obtain⟨R,_⟩:=JR h (o:=(Z3 (xu ps n)).1-1) (e:=n) (by omega) (Or.inl (by rw[i,I])) d (by omega) hne;obtain⟨d1,_⟩:=JR h (o:=(Z3 (xu ps n)).1-1) (e:=e) (by omega) (Or.inl (by rw[i,I])) J (by omega) F;obtain⟨l,z,y,x,k,j⟩:=uj h L f (e+1) (by omega) (by omega) O;exact⟨l,z,y,x,k,j.trans (N.trans (d1.trans R.symm))⟩
    ·rw[zA h6];have T:¬(kd ps n=1\/kd ps n=2\/kd ps n=3):=fun e=>hne (eg h d e);have a1:¬kd ps n=5/\¬kd ps n=7:=by
      constructor
      ·intro e;rw[e]at s1;cases s1
      ·intro e;rw[e]at s1;cases s1
     have A:xu ps (n+1)=xu ps n:=by rw[xu,zA (by omega),zA h4]
     rw[show wrap64 ((n:Int)+1+1)=((n+1:Nat):Int)+1 by have:=ZO (n+2) (by omega);rw[show ((n:Int)+1+1)=((n+2:Nat):Int) by omega,this];omega];obtain⟨l,z,y,x,k,j⟩:=uj h L f (n+1) (by omega) (by omega) (by rw[A];exact hne);exact⟨l,z,y,x,k,by rw[j,A]⟩
theorem CP {ps zL:List PL} (h:Vb ps zL) (J:G ps<=100) (k:n < G ps) (o:kd ps n=5\/kd ps n=7):∃j:Nat,ky (vS ps) ((n:Int)+1)=((j+1:Nat):Int)+1/\n < j/\j < G ps/\xu ps (j+1)≠[]/\Yt (xu ps (j+1))=Yt (xu ps n):=by
 have hlk:=uZ h (G ps) (zB _);unfold ky;rcases hlk.Fx (n+1)with h0 | ⟨m,m1,m2,m3,m4⟩
 ·rw[<-Xx h,show ((n+1:Nat):Int)=(n:Int)+1 by omega]at h0;rw[h0,zA (by omega)];obtain⟨e,F,i,D,A,z,y⟩:=nZ h k (Or.inr o);have d:=ZA h i (show ¬(kd ps e=0\/kd ps e=1\/kd ps e=2\/kd ps e=3) by omega);obtain⟨I,H⟩:=mh h i D (by rw[z];omega);obtain⟨x,_⟩:=JR h k o i A d;refine⟨e,?_,F,i,I,H.trans x⟩;rw[y];have:=ZO (e+2) (by omega);rw[show ((e:Int)+1+1)=((e+2:Nat):Int) by omega,this];omega
 ·rw[<-Xx h,show ((n+1:Nat):Int)=(n:Int)+1 by omega]at m4;rw[m4,zE (by omega)];have d:=ZA h m1 (show ¬(kd ps m=0\/kd ps m=1\/kd ps m=2\/kd ps m=3) by omega);have f:xu ps (m+1)=xu ps m:=by rw[xu,zA (by omega),zA (by omega)]
  obtain⟨x,_⟩:=JR h k o m1 m3 d;have:=(Q5 h m1 d).2.1;refine⟨m,?_,by omega,m1,by rw[f];exact d,by rw[f];exact x⟩;have:=ZO (m+2) (by omega);rw[show ((m:Int)+1+1)=((m+2:Nat):Int) by omega,this];omega
end Rt
namespace Rf
open Rt
theorem ee {zL:List PL} (h:ZM zL ls) (d:l < G ls):uB ls l (vU zL ((l:Int)+1)) ls[l]:=by
 obtain⟨p,i,f⟩:=h.get d;rw[vU,zA (by omega),show ((l:Int)+1).toNat=l+1 by omega,i];exact f
theorem JQ {ps zL:List PL} (h:Vb ps zL) (d:ZM zL ls):G ps=G ls:=by
 have:=h.len;have:=d.len;omega
theorem aW {ps zL:List PL} (h:Vb ps zL) (k:ZM zL ls) (f:n < G ps) (hk:kd ps n=6\/kd ps n=4):openerFrom ls n 1=(Z3 (xu ps n)).1:=by
 have o:n < G ls:=by rw[<-JQ h k];exact f
 have j:=ee k o;have x:=Xw h f hk;have i:=vA (vU zL ((n:Int)+1)).form.kind;rw[Jk h f]at i;have d:=Jk h f;rcases hk with hk | hk
 ·have:=j.aB (by rw[d];exact i.2.2.2.2.2.2.1.mpr hk);omega
 ·have:=j.opener (by rw[d];exact i.2.2.2.2.2.2.2.mpr hk);omega
theorem ly {ps zL:List PL} (h:Vb ps zL) (f:ZM zL ls) (d:n < G ls):HF (first ls[n]) (idx (kd ps n)):=by
 have:=Ya (ee f d).line;rw[Jk h (by rw[JQ h f];exact d)]at this;exact this
theorem mN {ps zL:List PL} (h:Vb ps zL) (d:ZM zL ls) (k:e < G ps) (j:kd ps e=4) (y:(Z3 (xu ps e)).1=o+1):closer ls o=e+1:=by
 have i:e < G ls:=by rw[<-JQ h d];exact k
 have f:=aW h d k (Or.inr j);rw[y]at f;have z:=JP e 1 o (by omega) (by omega) f;have x:=ly h d i;have A:idx (kd ps e)=7:=by rw[j];rfl
 rw[A]at x;have:=bN i x (G ls-e-1) ((1:Nat):Int);rw[show (G ls)-e-1+1=G ls-e by omega,zE rfl,zE (by omega)]at this;rw[z,this]
theorem eW {ps zL:List PL} {ls:List Ib} (h:Vb ps zL) (i:ZM zL ls) (d:G ls<=100):∀(f k:Nat),k<=G ls->goOn zL (vS ps) f ((k:Int)+1)=(goesFrom ls f k:Nat)
 | 0,k,_=>rfl
 | f+1,k,hk=>by
  have U:=JQ h i;rw[goOn,goesFrom];by_cases hkl:k < G ls
  ·rw[zE (by rw[h.len];omega),zA (show ¬G ls<=k by omega),yq hkl];have T:=ee i hkl;have R:=uN i hkl T;have j:k < G ps:=by omega
   obtain⟨_,_,_,_,_,f5,f6,Z⟩:=ly h i hkl;obtain⟨_,_,_,_,_,i5,I,H⟩:=vA (kd ps k);have O:wrap64 ((k:Int)+1+1)=((k+1:Nat):Int)+1:=by
    have:=ZO (k+2) (by omega);rw[show ((k:Int)+1+1)=((k+2:Nat):Int) by omega,this];omega
   rw[R,Jk h j,O];by_cases hst:xx ls k ls[k]=D
   ·rw[zE hst,zE hst];rfl
   ·rw[zA hst,zA hst,f6,Z];by_cases h6:kd ps k=6
    ·rw[zA (by omega),zE h6,zE (qA (I.mpr h6)),Xw h j (Or.inl h6),aW h i j (Or.inl h6)];have x:=ZA h j (show ¬(kd ps k=0\/kd ps k=1\/kd ps k=2\/kd ps k=3) by omega);obtain⟨N,M,F,_⟩:=Q5 h j x;have V:=(nf h j h6).1;obtain⟨e,e1,e2,e3,e4,e5,J⟩:=nZ h (o:=(Z3 (xu ps k)).1-1) (by omega) (by rw[F,V];exact Or.inr (Or.inl rfl));rw[show (((Z3 (xu ps k)).1-1:Nat):Int)+1=((Z3 (xu ps k)).1:Nat) by omega]at J;rw[mN h i e2 e3 e4,J,show wrap64 ((e:Int)+1+1)=((e+1:Nat):Int)+1 by have:=ZO (e+2) (by omega);rw[show ((e:Int)+1+1)=((e+2:Nat):Int) by omega,this];omega];exact eW h i d f (e+1) (by omega)
    ·have L:¬decide (idx (kd ps k)=6)=D:=fun e=>h6 (I.mp (qf e));rw[zA L];by_cases h4:kd ps k=4
     ·have x:=ZA h j (show ¬(kd ps k=0\/kd ps k=1\/kd ps k=2\/kd ps k=3) by omega);obtain⟨N,M,F,_⟩:=Q5 h j x;have z:(Z3 (xu ps k)).1-1 < G ls:=by omega
      obtain⟨_,_,_,_,_,W,_⟩:=ly h i z;obtain⟨_,_,_,_,_,y,_⟩:=vA (kd ps ((Z3 (xu ps k)).1-1));rw[Xw h j (Or.inr h4),aW h i j (Or.inr h4),zE (qA (H.mpr h4)),yq z,W];have A:=Xp h (n:=(Z3 (xu ps k)).1-1) (by omega);rw[show (((Z3 (xu ps k)).1-1:Nat):Int)+1=((Z3 (xu ps k)).1:Nat) by omega]at A;rw[A,<-Qm];by_cases h7:kd ps ((Z3 (xu ps k)).1-1)=7
      ·rw[zE ⟨h4,h7⟩,zE (qA (y.mpr h7))]
      ·rw[zA (fun e=>h7 e.2),zA h6,zA (fun e=>h7 (y.mp (qf e)))];exact eW h i d f (k+1) (by omega)
     ·rw[zA (fun e=>h4 e.1),zA h6,zA (fun e=>h4 (H.mp (qf e)))];exact eW h i d f (k+1) (by omega)
  ·rw[zA (by rw[h.len];omega),zE (show G ls<=k by omega)];rfl
theorem dA {ls:List Ib} (h:nested ls=0):∀(f g k:Nat),G ls < f+k->G ls < g+k->k<=G ls->goesFrom ls f k=goesFrom ls g k
 | 0,g,k,hf,_,_=>by omega
 | f+1,0,k,_,hg,_=>by omega
 | f+1,g+1,k,hf,hg,hk=>by
  rw[goesFrom,goesFrom];by_cases hkl:G ls<=k
  ·rw[zE hkl,zE hkl]
  ·rw[zA hkl,zA hkl];have d:k < G ls:=by omega
   rw[yq d];by_cases hel:((first ls[k]).toList==[101,108,115,101])=D
   ·obtain⟨x,o⟩:=uu h d hel;have j:=Zg ls k 1;have i:=closer_b ls (l:=openerFrom ls k 1-1) (by omega);rw[zE hel,zE hel,dA h f g _ (by omega) (by omega) i]
   ·rw[zA hel,zA hel,dA h f g (k+1) (by omega) (by omega) (by omega)]
theorem mC {ps zL:List PL} (h:Vb ps zL) (i:ZM zL ls) (d:G ls<=100) (f:k<=G ls):goOn zL (vS ps) 102 ((k:Int)+1)=(jc ls k:Nat):=by
 rw[eW h i d 102 k f,jc,dA i.nested 102 (G ls+1-k) k (by omega) (by omega) f]
theorem KU {ls:List Ib} {l c:Nat}:∀f m,(∀j,m<=j->j < m+f->¬(((first (xU ls j)).toList==[101,108,115,101])=D/\openerFrom ls j 1=l+1))->otherFrom ls l c f m=c
 | 0,m,_=>rfl
 | f+1,m,h=>by
  rw[otherFrom,zA (h m (zB _) (by omega))];exact KU f (m+1) (fun j h1 h2=>h j (by omega) (by omega))
theorem KT {ls:List Ib} {l c x:Nat} (d:((first (xU ls x)).toList==[101,108,115,101])=D/\openerFrom ls x 1=l+1):∀f m,m<=x->x < m+f->(∀j,m<=j->j < x->¬(((first (xU ls j)).toList==[101,108,115,101])=D/\openerFrom ls j 1=l+1))->otherFrom ls l c f m=x+1
 | 0,m,_,_,_=>by omega
 | f+1,m,h1,h2,h=>by
  rw[otherFrom];by_cases e:m=x
  ·subst e;rw[zE d]
  ·rw[zA (h m (zB _) (by omega))];exact KT d f (m+1) (by omega) (by omega) (fun j h1 h2=>h j (by omega) h2)
theorem oV {ps zL:List PL} (h:Vb ps zL) (i:ZM zL ls) (I:G ls<=100) (T:n < G ps) (W:kd ps n=5\/kd ps n=7):ky (vS ps) ((n:Int)+1)=((other ls n:Nat):Int)+1/\other ls n<=G ls:=by
 have R:=JQ h i;have hlk:=uZ h (G ps) (zB _);obtain⟨e,e1,N,M,L,e5,e6⟩:=nZ h T (Or.inr W);have Z:=mN h i N M L;have x:∀j,j < G ls->((first (xU ls j)).toList==[101,108,115,101])=D/\openerFrom ls j 1=n+1->kd ps j=6/\(Z3 (xu ps j)).1=n+1:=by
  intro j A ⟨z,y⟩;obtain⟨_,_,_,_,_,_,H,_⟩:=ly h i A;rw[yq A,H]at z;have J:=(vA (kd ps j)).2.2.2.2.2.2.1.mp (qf z);rw[aW h i (by omega) (Or.inl J)]at y;exact⟨J,y⟩
 have d:∀j,j < G ls->((first (xU ls j)).toList==[101,108,115,101])=D/\openerFrom ls j 1=n+1->(jR (vS ps) ((n:Int)+1)).1=(j:Int)+1:=by
  intro j A k;obtain⟨z,y⟩:=x j A k;have:=hlk.aB j (by omega) z;rw[y,<-Xx h,show ((n+1:Nat):Int)=(n:Int)+1 by omega]at this;exact this
 unfold ky other;rw[Z];rcases hlk.Fx (n+1)with h0 | ⟨m,m1,m2,m3,m4⟩
 ·rw[<-Xx h,show ((n+1:Nat):Int)=(n:Int)+1 by omega]at h0;rw[h0,zA (by omega),e6];have F:=KU (ls:=ls) (l:=n) (c:=e+1) (e+1-(n+2)) (n+1) (fun j h1 h2 k=>by
   have:=d j (by omega) k;omega)
  rw[F];refine⟨?_,by omega⟩;have:=ZO (e+2) (by omega);rw[show ((e:Int)+1+1)=((e+2:Nat):Int) by omega,this];omega
 ·rw[<-Xx h,show ((n+1:Nat):Int)=(n:Int)+1 by omega]at m4;rw[m4,zE (by omega)];have f:=ZA h m1 (show ¬(kd ps m=0\/kd ps m=1\/kd ps m=2\/kd ps m=3) by omega);have a0:=(Q5 h m1 f).2.1;have V:=mI h (n:=m) ⟨Z3 (xu ps m),Qo f,m3⟩ N M L;have U:m≠e:=fun q=>by rw[q]at m2;omega
  have o:m < G ls:=by omega
  obtain⟨_,_,_,_,_,_,H,_⟩:=ly h i o;have O:((first (xU ls m)).toList==[101,108,115,101])=D/\openerFrom ls m 1=n+1:=by
   rw[yq o,H,aW h i m1 (Or.inl m2),m2];exact⟨rfl,m3⟩
  have F:=KT (ls:=ls) (l:=n) (c:=e+1) O (e+1-(n+2)) (n+1) (by omega) (by omega) (fun j h1 h2 k=>by
   have:=d j (by omega) k;omega)
  rw[F];refine⟨?_,by omega⟩;have:=ZO (m+2) (by omega);rw[show ((m:Int)+1+1)=((m+2:Nat):Int) by omega,this];omega
end Rf
end
end Go.Proofs.YthleadfkfnnadaaGreat
