/- What an expression's work comes to, piece by piece: plain. -/
import Derived.Test.YthleadfkfnnadaaGreatRnC
set_option maxHeartbeats 4000000
set_option maxRecDepth 100000
set_option linter.unusedSimpArgs false
namespace Go.Proofs.YthleadfkfnnadaaGreat
open Rt
open Go.RowKit
variable {x:ByteArray} {n n':Int} {d k l:Nat}
namespace Rt
theorem QO (zL:List PL) (n:Int):vU (zL.map jK) n=jK (vU zL n):=by
 unfold vU;split
 ·rfl
 ·rw[yt];cases zL[n.toNat]? <;> rfl
theorem Zl {zL:List PL}:yA (zL.map jK) n=yA zL n:=by
 unfold yA;split
 ·rfl
 ·rw[yt];cases zL[n.toNat]? <;> rfl
theorem Kj (x:ByteArray):∀(ps:List PL) (n:Nat),declFrom n (ps.map jK) x=declFrom n ps x
 | [],_=>rfl
 | p::r,n=>by
  rw[qp,declFrom,declFrom,Kj x r (n+1)];rfl
theorem XR {zL:List PL}:xb (zL.map jK) x=xb zL x:=by
 unfold xb;rw[<-List.map_drop,Kj]
theorem Jo {zL:List PL} {p:PL}:xV (zL.map jK) (jK p)=xV zL p:=by
 unfold xV;rw[Zl];rfl
theorem V1 (zL:List PL) (lk:Qw):∀(f:Nat) (n:Int),goOn (zL.map jK) lk f n=goOn zL lk f n
 | 0,_=>rfl
 | f+1,n=>by
  rw[goOn,goOn,qR,QO,Jo,Zl,V1 zL lk f,V1 zL lk f];rfl
end Rt
namespace Rf
open Rt
def kD (zL:List PL) (n:Int):Nat:=(vU zL n).proc.toNat
def frsOf (zL:List PL):List Fm->Int->List Fr
 | [],_=>[]
 | [f],n=>[⟨kD zL n,f.params,f.call⟩]
 | f::g::r,n=>⟨kD zL g.call,f.params,f.call⟩::frsOf zL (g::r) n
theorem QX (zL:List PL):∀(fs:List Fm) (f:Fm) (n:Int),frsOf zL (fs++[f]) n=frsOf zL fs f.call++[⟨kD zL n,f.params,f.call⟩]
 | [],f,n=>rfl
 | [a],f,n=>rfl
 | a::b::r,f,n=>by
  have:=QX zL (b::r) f n;show (⟨kD zL b.call,a.params,a.call⟩::frsOf zL ((b::r)++[f]) n)=_;rw[this];rfl
theorem XD (zL:List PL):∀(fs:List Fm) (n:Int),(frsOf zL fs n).length=fs.length
 | [],_=>rfl
 | [_],_=>rfl
 | a::b::r,n=>by
  show (frsOf zL (b::r) n).length+1=_;rw[XD zL (b::r) n];rfl
theorem gR {zL:List PL} {n n':Int} (h:kD zL n=kD zL n'):∀fs:List Fm,frsOf zL fs n=frsOf zL fs n'
 | []=>rfl
 | [f]=>by show [_]=[_];rw[h]
 | a::b::r=>by
  show _::frsOf zL (b::r) n=_::frsOf zL (b::r) n';rw[gR h (b::r)]
def varsOf (zL:List PL) (vs:List (List Int)):List Int:=(List.range zL.length).map (fun l:Nat=>if (yA zL (l:Nat)).kind=1 then ((vs[l]?).getD []).headD 0 else 0)
def Q8 (zL:List PL) (vs:List (List Int)):List (List Int):=(List.range zL.length).map (fun l:Nat=>if (yA zL (l:Nat)).kind=2 then (vs[l]?).getD []else [])
def yT (zL:List PL) (m:Mc):Pl:=⟨frsOf zL m.zH m.line,varsOf zL m.values,Q8 zL m.values,m.taken.toNat,m.output,m.line,m.fin⟩
theorem cq (x:ByteArray) (xs:List ByteArray):∀f k,k+f=xs.length->indexFrom xs x f k=parNo k (xs.drop k) x
 | 0,k,h=>by rw[indexFrom,zp (by omega),parNo]
 | f+1,k,h=>by
  have d:k < xs.length:=by omega
  rw[indexFrom,zZ d,parNo,qq d,cq x xs f (k+1) (by omega)]
structure Env (zL:List PL) (ls:List (List ByteArray)) (S:Rt.Src) (m:Mc):Prop where
 both:ZM zL ls
 Ja:S.zL=zL.map jK
 ne:m.zH≠[]
 ok:V9 ls (yT zL m)
 here:∃d:Nat,∃hd:d < ls.length,(vU zL m.line).proc=(d:Int)+1/\((first ls[d]).toList==[112,114,111,99])=true
 VH:m.values.map List.length=zL.map (fun p=>(ji p.form).length)
 law:Lawful ls
section
variable {zL:List PL} {ls:List (List ByteArray)} {S:Rt.Src} {m:Mc}
theorem nK (h:m.zH≠[]):m.zH=m.zH.dropLast++[m.zH.getLastD Qe]:=by
 rw[xk,xd h];exact(xj h).symm
theorem aO (h:m.zH≠[]):top (yT zL m)=⟨kD zL m.line,(m.zH.getLastD Qe).params,(m.zH.getLastD Qe).call⟩:=by
 unfold top yT;simp only
 conv=>lhs;rw[nK h]
 rw[QX,ze,yl,zu,xL,yU (zB _),jC];rfl
theorem Env.Gd (E:Env zL ls S m):XZ ls (top (yT zL m)).proc=(yA S.zL (qJ S m)).params:=by
 obtain⟨d,f,h,o⟩:=E.here;have i:qJ S m=(d:Int)+1:=by
  unfold qJ;rw[E.Ja,QO];exact h
 rw[aO E.ne,i,E.Ja,Zl];have j:kD zL m.line=d+1:=by unfold kD;rw[h];omega
 have k:=E.both.form f;have:=(KO k o).2;rw[show ((d+1:Nat):Int)=(d:Int)+1 by omega]at this;rw[this];show XZ ls (kD zL m.line)=_;rw[j,XZ,zu,yq f]
theorem JC (E:Env zL ls S m):m.values.length=zL.length:=by
 have:=qB List.length E.VH;simpa using this
theorem Dz (E:Env zL ls S m) (h:d < zL.length):((m.values[d]?).getD []).length=(ji (yA zL (d:Nat))).length:=by
 have i:=JC E;have f:=qB (fun l=>l[d]?) E.VH;simp only[yt]at f;rw[zJ (by omega),zJ h]at f;rw[zJ (by omega),yA,zA (by omega),xS,zJ h];simpa using f
theorem uF (E:Env zL ls S m) (i:d < zL.length) (h:(yA zL (d:Nat)).kind=1):∃a,m.values[d]?=some [a]:=by
 have j:=JC E;have f:=Dz E i;rw[zJ (by omega)]at f ⊢;unfold ji at f;rw[zE h]at f;simp only[Zn,qN]at f
 match hv:m.values[d],f with
 | [a],_=>exact⟨a,rfl⟩
theorem Bk (m:Mc) (f:d < zL.length):(yT zL m).vars.getD d 0=if (yA zL (d:Nat)).kind=1 then ((m.values[d]?).getD []).headD 0 else 0:=by
 unfold yT varsOf;rw[xL,yt,Xi f];rfl
theorem rB (m:Mc) (f:d < zL.length):(yT zL m).cells.getD d []=if (yA zL (d:Nat)).kind=2 then (m.values[d]?).getD []else []:=by
 unfold yT Q8;rw[xL,yt,Xi f];rfl
theorem eZ (E:Env zL ls S m) (x:ByteArray):decl ls x < zL.length:=by
 have:=E.both.len;have:=Qb ls x;omega
theorem az (E:Env zL ls S m) (h:(yJ zL x).kind≠0):0 < decl ls x:=by
 rcases E.both.bD x with⟨_,h2⟩| ⟨h1,_⟩
 ·rw[h2]at h;exact absurd rfl h
 ·omega
theorem pR {ps:List ByteArray}:∀(i:Nat),parNo i ps x < 0->ps.any (fun y=>decide (y=x))=false:=by
 induction ps with
 | nil=>intro _ _;rfl
 | cons p r ih=>
  intro i h;rw[parNo]at h;split at h
  ·omega
  ·next hne=>rw[vw,ih (i+1) h,qP hne];rfl
theorem Bl (E:Env zL ls S m) (d:Rt.isVar zL (qJ S m) x=true):value ls (yT zL m) x=ZL m (vx S m x):=by
 have z:=E.Gd;unfold value vx;rw[z];have A:index (yA S.zL (qJ S m)).params x=parNo 0 (yA S.zL (qJ S m)).params x:=by
  have:=cq x (yA S.zL (qJ S m)).params _ 0 (xW _);rw[Yf]at this;exact this
 rw[A];simp only;have f:0 < m.zH.length:=kO.mpr E.ne;by_cases h0:0<=parNo 0 (yA S.zL (qJ S m)).params x
 ·rw[zE h0,zE h0,aO E.ne];unfold ZL cellsOf;simp only;rw[zA (by omega),zA (by omega),zE ⟨by first | rfl | trivial,f⟩,xL]
 ·rw[zA h0,zA h0,E.Ja,XR,E.both.Xh];have h:=pR (ps:=(yA S.zL (qJ S m)).params) (x:=x) 0 (by omega);unfold Rt.isVar VS at d;rw[E.Ja,Zl]at h;rw[h,Ve,jG]at d;have j:=eZ E x;have i:(yA zL ((decl ls x:Nat):Int)).kind=1:=by
   unfold yJ at d;rw[E.both.Xh]at d;exact d
  obtain⟨a,k⟩:=uF E j i;have y:=az E (x:=x) (by rw[d];decide);have o:=JC E;rw[Bk m j,zE i,k];unfold ZL cellsOf;simp only;rw[zA (by omega),zE ⟨by omega,by omega⟩,xS,k];rfl
theorem GD (E:Env zL ls S m) (d:ZW zL (qJ S m) x=true):(yT zL m).cells.getD (decl ls x) []=cellsOf m (xb S.zL x:Nat)/\0 < decl ls x/\xb S.zL x=decl ls x:=by
 have k:=eZ E x;unfold ZW at d;rw[zy,jG]at d;have i:(yA zL ((decl ls x:Nat):Int)).kind=2:=by
  have:=d.2;unfold yJ at this;rw[E.both.Xh]at this;exact this
 have f:=az E (x:=x) (by rw[d.2];decide);have h:=JC E;have j:xb S.zL x=decl ls x:=by rw[E.Ja,XR,E.both.Xh]
 rw[rB m k,zE i,j];refine⟨?_,f,rfl⟩;unfold cellsOf;rw[zE ⟨by omega,by omega⟩,xS]
end
open Rt
structure Ctx (ps zL:List PL) (ls:List (List ByteArray)) (S:Rt.Src):Prop where
 dz:Vb ps zL
 both:ZM zL ls
 Ja:S.zL=zL.map jK
 lk:S.lk=vS ps
 law:Lawful ls
 br:∀n:Nat,n < ps.length->qh zL (n+1) (vU zL ((n:Int)+1))=true
 main:(yJ zL xP).kind=3
 Gf:(yJ zL xP).params=[]
structure KA (ps zL:List PL) (ls:List (List ByteArray)) (S:Rt.Src) (m:Mc):Prop where
 line:∃l:Nat,l < ps.length/\m.line=(l:Int)+1/\xV zL (vU zL ((l:Int)+1))=true/\xu ps l≠[]
 ne:m.zH≠[]
 VJ:m.zH.length<=6
 Gk:∀f∈frsOf zL m.zH m.line,BZ ls f
 calls:∀f∈m.zH.tail,∃c:Nat,c < ps.length/\f.call=(c:Int)+1/\kd ps c=12
 VH:m.values.map List.length=zL.map (fun p=>(ji p.form).length)
 taken:0<=m.taken/\m.taken<=S.input.length
section
variable {ps zL:List PL} {ls:List (List ByteArray)} {S:Rt.Src} {m:Mc}
theorem Ctx.len (C:Ctx ps zL ls S):ps.length=ls.length:=JQ C.dz C.both
theorem Ctx.go (C:Ctx ps zL ls S) (d:k<=ls.length):goOn S.zL S.lk 102 ((k:Int)+1)=(jc ls k:Nat):=by
 rw[C.Ja,C.lk,V1];exact mC C.dz C.both C.law.len d
theorem Ctx.stop (C:Ctx ps zL ls S) (y:k<=ls.length) (d:xu ps k≠[]):∃l:Nat,jc ls k=l+1/\l < ps.length/\xV zL (vU zL ((l:Int)+1))=true/\xu ps l≠[]/\Yt (xu ps l)=Yt (xu ps k):=by
 have z:=C.len;have f:=C.law.len;obtain⟨l,x,o,j,i,h⟩:=uj C.dz (by omega) 102 k (by omega) (by omega) d;rw[mC C.dz C.both C.law.len y]at x;exact⟨l,by omega,o,j,i,h⟩
theorem Ctx.kD (C:Ctx ps zL ls S) {l:Nat} (f:l < ps.length) (d:xu ps l≠[]):Rf.kD zL ((l:Int)+1)=(Yt (xu ps l)).1:=by
 unfold Rf.kD;rw[nG C.dz f d];omega
theorem Ctx.outer (C:Ctx ps zL ls S) (x:l<=ps.length) (h:xu ps l≠[]):∃d:Nat,∃hd:d < ls.length,(Yt (xu ps l)).1=d+1/\kd ps d=3/\((first ls[d]).toList==[112,114,111,99])=true:=by
 have f:=KJ C.dz l x;have o:=C.len;cases hs:xu ps l with
 | nil=>exact absurd hs h
 | cons b r=>
  obtain⟨i,_⟩:=f.head b r hs;obtain⟨A,z,k⟩:=f.each b (by rw[hs];simp);have y:b.1-1 < ps.length:=by omega
  have hd:b.1-1 < ls.length:=by omega
  refine⟨b.1-1,hd,by show b.1=_;omega,by rw[k,i],?_⟩;obtain⟨_,_,_,j,_⟩:=ly C.dz C.both hd;rw[k,i]at j;rw[j];rfl
theorem Ctx.params (C:Ctx ps zL ls S) {d:Nat} (h:d < ls.length) (i:kd ps d=3):2<=(xU ls d).length/\(yA zL ((d:Int)+1)).params.length=(xU ls d).length-2:=by
 have hf:=C.both.form h;rw[show ((d+1:Nat):Int)=(d:Int)+1 by omega]at hf;have f:(yA zL ((d:Int)+1)).kind=3:=by
  rw[Xp C.dz (by rw[C.len];exact h),<-Qm,i]
 rw[yq h];generalize yA zL ((d:Int)+1)=fm at *;generalize ls[d]=t at *;cases hf with
 | proc x q hx hq hl=>simp
 | _=>simp at f
theorem Y4 (C:Ctx ps zL ls S) (F:KA ps zL ls S m):Env zL ls S m:=by
 obtain⟨l,i,j,y,h⟩:=F.line;obtain⟨d,k,x,z,o⟩:=C.outer (Nat.le_of_lt i) h;have f:(yT zL m).zH.length=m.zH.length:=XD _ _ _;refine⟨C.both,C.Ja,F.ne,⟨?_,?_,F.Gk,?_,?_⟩,⟨d,k,?_,o⟩,F.VH,C.law⟩
 ·rw[f];exact kO.mpr F.ne
 ·rw[f];have:=F.VJ;omega
 ·simp[yT,varsOf,C.both.len]
 ·simp[yT,Q8,C.both.len]
 ·rw[j,nG C.dz i h,x];omega
theorem wv (C:Ctx ps zL ls S) (h:l < ps.length) (f:m.line=(l:Int)+1) (d:xu ps l≠[]):qJ S m=(vU zL ((l:Int)+1)).proc/\qJ S m=((Yt (xu ps l)).1:Nat):=by
 have:qJ S m=(vU zL ((l:Int)+1)).proc:=by
  unfold qJ;rw[C.Ja,QO,f];rfl
 exact⟨this,by rw[this,nG C.dz h d]⟩
def vV (ls:List (List ByteArray)) (p:Pl) (x:ByteArray) (v:Int):Pl:=
 if 0<=index (XZ ls (top p).proc) x then { p with zH:=p.zH.modify (p.zH.length-1) (fun f=>⟨f.proc,f.args.set (index (XZ ls (top p).proc) x).toNat v,f.call⟩) }
 else { p with vars:=p.vars.set (decl ls x) v }
theorem oN (x:ByteArray):∀(l:List ByteArray) (i:Nat),parNo i l x < (i:Int)+l.length/\(parNo i l x=-1\/(i:Int)<=parNo i l x)
 | [],i=>⟨by rw[parNo];simp;omega,Or.inl rfl⟩
 | p::r,i=>by
  have:=oN x r (i+1);rw[parNo];split
  ·simp;omega
  ·simp;omega
theorem oq {α:Type} (l:List α) (a:α) (g:α->α):(l++[a]).modify l.length g=l++[g a]:=by
 induction l with
 | nil=>rfl
 | cons b r ih=>simp[ih]
theorem nE {α:Type} (l:List α) (f:α->α) (h:k≠d):(l.modify d f)[k]?=l[k]?:=by
 rw[qW];cases l[k]? with
 | none=>rfl
 | some x=>
  show some (if d=k then f x else x)=some x;rw[zA (fun e=>h e.symm)]
theorem cQ {β:Type} {n:Nat} (f h:Nat->β) (v:β) (o:d < n->h d=v) (h2:∀k,k≠d->h k=f k):(List.range n).map h=((List.range n).map f).set d v:=by
 apply qw
 ·simp
 ·intro i j x;rw[Zq];simp only[qc,vn];split
  ·next e=>subst e;exact o (by simpa using j)
  ·next e=>exact h2 i (fun q=>e q.symm)
theorem oI (E:Env zL ls S m) (y:Rt.isVar zL (qJ S m) x=true) (D:BZ ls (top (yT zL m))) (v:Int):yT zL (jN m (vx S m x) v)=vV ls (yT zL m) x v:=by
 have F:=E.Gd;unfold vV vx;rw[F];have M:index (yA S.zL (qJ S m)).params x=parNo 0 (yA S.zL (qJ S m)).params x:=by
  have:=cq x (yA S.zL (qJ S m)).params _ 0 (xW _);rw[Yf]at this;exact this
 have h:=D.args;rw[M];simp only;have z:0 < m.zH.length:=kO.mpr E.ne;by_cases h0:0<=parNo 0 (yA S.zL (qJ S m)).params x
 ·rw[zE h0,zE h0];have R:=oN x (yA S.zL (qJ S m)).params 0;have J:(yA S.zL (qJ S m)).params.length=(m.zH.getLastD Qe).params.length:=by
   rw[<-F];rw[aO E.ne]at h ⊢;unfold XZ;simp only at h ⊢;rw[xp,h]
  have j:Q6 m ⟨0,parNo 0 (yA S.zL (qJ S m)).params x⟩=true:=by
   unfold Q6 cellsOf;simp only[yS];rw[zA (by omega),zE ⟨by first | rfl | trivial,z⟩];omega
  unfold jN;rw[zE j,zA (show ¬(0:Int) < 0 by omega)];generalize (parNo 0 (yA S.zL (qJ S m)).params x).toNat=i;unfold yT;simp only[Pl.mk.injEq,jJ];obtain⟨o,g,N⟩:∃o g,m.zH=o++[g]:=⟨_,_,nK E.ne⟩;rw[N,XD,ze,yl,zu,oq,QX,QX];have:=oq (frsOf zL o g.call) (⟨kD zL m.line,g.params,g.call⟩:Fr) (fun f=>⟨f.proc,f.args.set i v,f.call⟩);rw[XD]at this;rw[this]
 ·rw[zA h0,zA h0,E.Ja,XR,E.both.Xh];have A:=pR (ps:=(yA S.zL (qJ S m)).params) (x:=x) 0 (by omega);unfold Rt.isVar VS at y;rw[E.Ja,Zl]at A;rw[A,Ve,jG]at y;have O:=eZ E x;have G:(yA zL ((decl ls x:Nat):Int)).kind=1:=by
   unfold yJ at y;rw[E.both.Xh]at y;exact y
  obtain⟨a,H⟩:=uF E O G;have L:=az E (x:=x) (by rw[y];decide);have I:=JC E;have j:Q6 m ⟨((decl ls x:Nat):Int),0⟩=true:=by
   unfold Q6 cellsOf;simp only[yS];rw[zE ⟨by omega,by omega⟩,xS,H];simp
  unfold jN;rw[zE j,zE (show (0:Int) < ((decl ls x:Nat):Int) by omega)];simp only[xS,Int.toNat_zero];generalize decl ls x=d at *;unfold yT;simp only[Pl.mk.injEq,jH,jJ];constructor
  ·unfold varsOf;refine cQ _ _ _ (fun _=>?_) (fun k hk'=>?_)
   ·rw[zE G,qW,H];simp
   ·rw[nE _ _ hk']
  ·unfold Q8;refine vT (fun k _=>?_);by_cases e:k=d
   ·subst e;rw[zA (by omega),zA (by omega)]
   ·rw[nE _ _ e]
theorem CD (E:Env zL ls S m) (f:ZW zL (qJ S m) x=true) (j:Q6 m ⟨(xb S.zL x:Nat),n⟩=true) (v:Int):yT zL (jN m ⟨(xb S.zL x:Nat),n⟩ v)={ yT zL m with cells:=(yT zL m).cells.set (decl ls x) (((yT zL m).cells.getD (decl ls x) []).set n.toNat v) }:=by
 obtain⟨D,A,z⟩:=GD E f;have o:=eZ E x;unfold ZW at f;rw[zy,jG]at f;have h:(yA zL ((decl ls x:Nat):Int)).kind=2:=by
  have:=f.2;unfold yJ at this;rw[E.both.Xh]at this;exact this
 have i:=JC E;rw[rB m o,zE h];unfold jN;rw[zE j,z];simp only;rw[zE (show (0:Int) < ((decl ls x:Nat):Int) by omega)];simp only[xS];generalize decl ls x=d at *;have y:m.values[d]?=some m.values[d]:=zJ (by omega);unfold yT;simp only[Pl.mk.injEq,jH,jJ];constructor
 ·unfold varsOf;refine vT (fun k _=>?_);by_cases e:k=d
  ·subst e;rw[zA (by omega),zA (by omega)]
  ·rw[nE _ _ e]
 ·unfold Q8;refine cQ _ _ _ (fun _=>?_) (fun k hk'=>?_)
  ·rw[zE h,qW,y];simp
  ·rw[nE _ _ hk']
theorem EN (h:kD zL n=kD zL m.line):yT zL { m with line:=n }={ yT zL m with line:=n }:=by
 unfold yT;simp only[Pl.mk.injEq,jJ];exact gR h m.zH
theorem fT (m:Mc) (s:Q9) (v:Int):(jN m s v).line=m.line/\(jN m s v).fin=m.fin/\(jN m s v).taken=m.taken/\(jN m s v).output=m.output/\(jN m s v).zH.map Fm.call=m.zH.map Fm.call/\(jN m s v).zH.map (fun f=>f.params.length)=m.zH.map (fun f=>f.params.length)/\(jN m s v).values.map List.length=m.values.map List.length:=by
 unfold jN;split
 ·split
  ·refine⟨rfl,rfl,rfl,rfl,rfl,rfl,?_⟩;apply qw
   ·simp
   ·intro i h d;simp only[qc,jW];split <;> simp
  ·refine⟨rfl,rfl,rfl,rfl,?_,?_,rfl⟩
   ·apply qw
    ·simp
    ·intro i h d;simp only[qc,jW];split <;> simp
   ·apply qw
    ·simp
    ·intro i h d;simp only[qc,jW];split <;> simp
 ·exact⟨rfl,rfl,rfl,rfl,rfl,rfl,rfl⟩
end
open Rt
section
variable {ps zL:List PL} {ls:List (List ByteArray)} {S:Rt.Src} {m:Mc}
theorem mF {n n':Int} (d:kD zL n'=kD zL n):∀(fs fs':List Fm),fs'.map Fm.call=fs.map Fm.call->fs'.map (fun f=>f.params.length)=fs.map (fun f=>f.params.length)->(frsOf zL fs' n').map (fun f=>(f.proc,f.args.length))=(frsOf zL fs n).map (fun f=>(f.proc,f.args.length))
 | [],[],_,_=>rfl
 | [],_::_,h,_=>by simp at h
 | _::_,[],h,_=>by simp at h
 | [a],[b],_,h2=>by
  simp only[qp,Ye,vE,jJ]at h2;simp only[frsOf,qp,Ye,d,h2]
 | [_],_::_::_,h,_=>by simp at h
 | _::_::_,[_],h,_=>by simp at h
 | a::b::r,a'::b'::r',h,h2=>by
  have i:=mF d (b::r) (b'::r') (by simp only[qp,vE]at h ⊢;exact h.2) (by simp only[qp,vE]at h2 ⊢;exact h2.2);simp only[qp,vE]at h h2;simp only[frsOf,qp,vE];exact⟨by rw[h.2.1,h2.1],i⟩
theorem F9 {fs fs':List Fr} (h:fs'.map (fun f=>(f.proc,f.args.length))=fs.map (fun f=>(f.proc,f.args.length))) (k:∀f∈fs,BZ ls f):∀f∈fs',BZ ls f:=by
 intro f i;have:(f.proc,f.args.length)∈fs.map (fun f=>(f.proc,f.args.length)):=by rw[<-h];exact xr.mpr ⟨f,i,rfl⟩
 obtain⟨g,j,e⟩:=xr.mp this;have:=k g j;simp only[yZ]at e;obtain⟨d,o⟩:=e;exact⟨by rw[<-d];exact this.lo,by rw[<-d];exact this.hi,by rw[<-d];exact this.two,by rw[<-d,<-o];exact this.args⟩
theorem D8 {fs fs':List Fm} (h:fs'.map Fm.call=fs.map Fm.call) {P:Int->Prop} (j:∀f∈fs.tail,P f.call):∀f∈fs'.tail,P f.call:=by
 intro f d;have k:fs'.tail.map Fm.call=fs.tail.map Fm.call:=by rw[List.map_tail,List.map_tail,h]
 have:f.call∈fs.tail.map Fm.call:=by rw[<-k];exact xr.mpr ⟨f,d,rfl⟩
 obtain⟨g,i,e⟩:=xr.mp this;rw[<-e];exact j g i
theorem BA (C:Ctx ps zL ls S) (F:KA ps zL ls S m) (R:l < ps.length) (O:m.line=(l:Int)+1) (N:xu ps l≠[]) {m1:Mc} (x:m1.zH.map Fm.call=m.zH.map Fm.call) (J:m1.zH.map (fun f=>f.params.length)=m.zH.map (fun f=>f.params.length)) (H:m1.values.map List.length=m.values.map List.length) (I:0<=m1.taken/\m1.taken<=S.input.length) (M:k<=ls.length) (o:xu ps k≠[]) (L:Yt (xu ps k)=Yt (xu ps l)):KA ps zL ls S { m1 with line:=(jc ls k:Nat) }/\kD zL ((jc ls k:Nat):Int)=kD zL m.line:=by
 obtain⟨j,G,z,D,y,A⟩:=C.stop M o;have i:((jc ls k:Nat):Int)=(j:Int)+1:=by rw[G];omega
 have h:kD zL ((jc ls k:Nat):Int)=kD zL m.line:=by
  rw[i,O,C.kD z y,C.kD R N,A,L]
 have d:m1.zH.length=m.zH.length:=by have:=qB List.length x;simpa using this
 refine⟨⟨⟨j,z,i,D,y⟩,?_,?_,?_,D8 (P:=fun q=>∃c:Nat,c < ps.length/\q=(c:Int)+1/\kd ps c=12) x F.calls,H.trans F.VH,I⟩,h⟩
 ·intro e;have:=F.ne;simp only at e;rw[e]at d;exact this (List.length_eq_zero_iff.mp d.symm)
 ·show m1.zH.length<=6;rw[d];exact F.VJ
 ·exact F9 (mF h m.zH m1.zH x J) F.Gk
theorem DF (F:KA ps zL ls S m) {t:Int}:KA ps zL ls S { m with fin:=t }:=⟨F.line,F.ne,F.VJ,F.Gk,F.calls,F.VH,F.taken⟩
theorem fL (d:m.fin=0) {o:Out} (f:perform S m (yA S.zL m.line)=o) (h:o.fin=0):qd S m=({ o.m with line:=goOn S.zL S.lk 102 o.next },o.YU):=by
 unfold qd;rw[zE d,f];simp only;rw[zE h]
theorem wS (d:m.fin=0) {o:Out} (f:perform S m (yA S.zL m.line)=o) (h:¬o.fin=0):qd S m=({ m with fin:=o.fin },[stay m.line]):=by
 unfold qd;rw[zE d,f];simp only;rw[zA h]
def Step (ps zL:List PL) (ls:List (List ByteArray)) (S:Rt.Src) (m:Mc) (p:Pl) (n:Nat):Prop:=yT zL (qd S m).1=p/\(qd S m).2.length=n/\KA ps zL ls S (qd S m).1
theorem ZR (F:KA ps zL ls S m) (d:m.fin=0) {o:Out} (f:perform S m (yA S.zL m.line)=o) (h:¬o.fin=0):Step ps zL ls S m { yT zL m with fin:=o.fin } 1:=by
 unfold Step;rw[wS d f h];exact⟨rfl,rfl,DF F⟩
theorem K4 (d:xu ps l≠[]) (f:¬(kd ps l=3\/kd ps l=4)):xu ps (l+1)≠[]/\Yt (xu ps (l+1))=Yt (xu ps l):=by
 have:xu ps (l+1)≠[]:=by
  rw[xu];split
  ·simp
  ·rw[zA (by omega)];exact d
 exact⟨this,fZ d this⟩
theorem Xt (h:l < 101):wrap64 ((l:Int)+1+1)=((l+1:Nat):Int)+1:=by
 have:=ZO (l+2) (by omega);rw[show ((l:Int)+1+1)=((l+2:Nat):Int) by omega,this];omega
theorem Yz (C:Ctx ps zL ls S) (f:l < ps.length) (d:m.line=(l:Int)+1):yA S.zL m.line=ps[l].form:=by rw[C.Ja,Zl,d,Xp C.dz f]
section
variable (C:Ctx ps zL ls S) (F:KA ps zL ls S m) (hfin:m.fin = 0) {l:Nat} (h1:l < ps.length) (h2:m.line = (l:Int) + 1) (h4:xu ps l ≠ [])
include C F hfin h1 h2 h4
theorem Kx {o:Out} (y:perform S m (yA S.zL m.line)=o) (A:o.fin=0) (h:k<=ls.length) (d:o.next=(k:Int)+1) (hne:xu ps k≠[]) (hou:Yt (xu ps k)=Yt (xu ps l)) (hln:o.m.line=m.line) (z:o.m.zH.map Fm.call=m.zH.map Fm.call) (x:o.m.zH.map (fun f=>f.params.length)=m.zH.map (fun f=>f.params.length)) (i:o.m.values.map List.length=m.values.map List.length) (j:0<=o.m.taken/\o.m.taken<=S.input.length):Step ps zL ls S m { yT zL o.m with line:=(jc ls k:Nat) } o.YU.length:=by
 obtain⟨G,D⟩:=BA C F h1 h2 h4 z x i j h hne hou;unfold Step;rw[fL hfin y A,d,C.go h];exact⟨EN (by rw[D,hln]),rfl,G⟩
end
end
open Rt
section
variable (S:Rt.Src) (m:Mc)
def Whole (e:List qM):Prop:=∀(st:List Int) (r:List qM),evalI S m (e++r) st=if (zr S m e).2=0 then evalI S m r (st++[(zr S m e).1])else (0,(zr S m e).2)
theorem au (o:qM) (v:Int) (h:∀st,workI S m st o=(st++[v],0)):zr S m [o]=(v,0)/\Whole S m [o]:=by
 have e:zr S m [o]=(v,0):=by
  unfold zr;rw[evalI,h,zE rfl,evalI];rfl
 refine⟨e,fun st r=>?_⟩;rw[e,zE rfl];show evalI S m (o::r) st=_;rw[evalI,h,zE rfl]
theorem eval_un {e:List qM} (j:Whole S m e) (o:qM) (g:Int->Int×Int) (h:∀st v,workI S m (st++[v]) o=if (g v).2=0 then (st++[(g v).1],0)else (st,(g v).2)) (i:∀v,(g v).2≠0->(g v).1=0):zr S m (e++[o])=(if (zr S m e).2=0 then g (zr S m e).1 else (0,(zr S m e).2))/\Whole S m (e++[o]):=by
 have d:∀st r,evalI S m (e++(o::r)) st=if (zr S m e).2=0 then (if (g (zr S m e).1).2=0 then evalI S m r (st++[(g (zr S m e).1).1])else (0,(g (zr S m e).1).2))else (0,(zr S m e).2):=by
  intro st r;rw[j st (o::r)];by_cases h0:(zr S m e).2=0
  ·rw[zE h0,zE h0,evalI,h];by_cases h1:(g (zr S m e).1).2=0
   ·rw[zE h1,zE h1,zE rfl]
   ·rw[zA h1,zA h1,zA h1]
  ·rw[zA h0,zA h0]
 have f:zr S m (e++[o])=(if (zr S m e).2=0 then g (zr S m e).1 else (0,(zr S m e).2)):=by
  show evalI S m (e++(o::[])) []=_;rw[d];by_cases h0:(zr S m e).2=0
  ·rw[zE h0,zE h0];by_cases h1:(g (zr S m e).1).2=0
   ·rw[zE h1,evalI];exact Z6 rfl h1.symm
   ·rw[zA h1];exact Z6 (i _ h1).symm rfl
  ·rw[zA h0,zA h0]
 refine⟨f,fun st r=>?_⟩;rw[yK,f];show evalI S m (e++(o::r)) st=_;rw[d];by_cases h0:(zr S m e).2=0
 ·rw[zE h0,zE h0]
 ·rw[zA h0,zA h0,zA h0]
theorem eval_bin {e f:List qM} (z:Whole S m e) (y:Whole S m f) (o:qM) (i:¬(o.code=1\/o.code=2\/o.code=3\/o.code=4)):zr S m (e++f++[o])=(if ¬(zr S m e).2=0 then (0,(zr S m e).2)else if ¬(zr S m f).2=0 then (0,(zr S m f).2)else xF o.code (zr S m e).1 (zr S m f).1)/\Whole S m (e++f++[o]):=by
 have x:∀st a b,workI S m (st++[a]++[b]) o=if (xF o.code a b).2=0 then (st++[(xF o.code a b).1],0)else (st,(xF o.code a b).2):=by
  intro st a b;unfold workI;rw[zA (fun q=>i (Or.inl q)),zA (fun q=>i (Or.inr (Or.inl q))),zA (fun q=>i (Or.inr (Or.inr (Or.inl q)))),zA (fun q=>i (Or.inr (Or.inr (Or.inr q))))];simp only[XV,xo]
 have k:∀a b,(xF o.code a b).2≠0->(xF o.code a b).1=0:=by
  intro a b;unfold xF
  repeat' split
  all_goals intro h;first | rfl | exact absurd rfl h
 have d:∀st r,evalI S m (e++(f++(o::r))) st=if (zr S m e).2=0 then (if (zr S m f).2=0 then (if (xF o.code (zr S m e).1 (zr S m f).1).2=0 then evalI S m r (st++[(xF o.code (zr S m e).1 (zr S m f).1).1])else (0,(xF o.code (zr S m e).1 (zr S m f).1).2))else (0,(zr S m f).2))else (0,(zr S m e).2):=by
  intro st r;rw[z st];by_cases h0:(zr S m e).2=0
  ·rw[zE h0,zE h0,y];by_cases h1:(zr S m f).2=0
   ·rw[zE h1,zE h1,evalI,x];by_cases h2:(xF o.code (zr S m e).1 (zr S m f).1).2=0
    ·rw[zE h2,zE h2,zE rfl]
    ·rw[zA h2,zA h2,zA h2]
   ·rw[zA h1,zA h1]
  ·rw[zA h0,zA h0]
 have j:zr S m (e++f++[o])=(if ¬(zr S m e).2=0 then (0,(zr S m e).2)else if ¬(zr S m f).2=0 then (0,(zr S m f).2)else xF o.code (zr S m e).1 (zr S m f).1):=by
  rw[yK];show evalI S m (e++(f++(o::[]))) []=_;rw[d];by_cases h0:(zr S m e).2=0
  ·rw[zE h0,zA (kW h0)];by_cases h1:(zr S m f).2=0
   ·rw[zE h1,zA (kW h1)];by_cases h2:(xF o.code (zr S m e).1 (zr S m f).1).2=0
    ·rw[zE h2,evalI];exact Z6 rfl h2.symm
    ·rw[zA h2];exact Z6 (k _ _ h2).symm rfl
   ·rw[zA h1,zE h1]
  ·rw[zA h0,zE h0]
 refine⟨j,fun st r=>?_⟩;rw[yK,yK,j];show evalI S m (e++(f++(o::r))) st=_;rw[d];by_cases h0:(zr S m e).2=0
 ·rw[zE h0,zA (kW h0)];by_cases h1:(zr S m f).2=0
  ·rw[zE h1,zA (kW h1)]
  ·rw[zA h1,zE h1,zA h1]
 ·rw[zA h0,zE h0,zA h0]
def celI (x:ByteArray) (v:Int):Int×Int:=match Rt.kX S m x v with
 | none=>(0,3)
 | some s=>(ZL m s,0)
theorem pj {e:List qM} (d:Whole S m e):zr S m (e++[⟨4,0,⟨#[]⟩⟩])=(if (zr S m e).2=0 then (wrap64 (-(zr S m e).1),0)else (0,(zr S m e).2))/\Whole S m (e++[⟨4,0,⟨#[]⟩⟩]):=
 eval_un S m d ⟨4,0,⟨#[]⟩⟩ (fun v=>(wrap64 (-v),0)) (fun st v=>by simp[workI]) (fun v h=>absurd rfl h)
theorem pk {e:List qM} (d:Whole S m e) (x:ByteArray):zr S m (e++[⟨3,0,x⟩])=(if (zr S m e).2=0 then celI S m x (zr S m e).1 else (0,(zr S m e).2))/\Whole S m (e++[⟨3,0,x⟩]):=by
 refine eval_un S m d ⟨3,0,x⟩ (celI S m x) (fun st v=>?_) (fun v h=>?_)
 ·unfold workI celI;simp only[XV,xo];cases Rt.kX S m x v <;> simp
 ·unfold celI at h ⊢;cases hc:Rt.kX S m x v with
  | none=>rfl
  | some s=>rw[hc]at h;exact absurd rfl h
theorem Ky {o:ByteArray} (h:kp vJ o=true\/kp kL o=true\/kp kF o=true):¬(yI o=1\/yI o=2\/yI o=3\/yI o=4):=by
 rcases h with h | h | h
 ·have:=(px o).mpr h;omega
 ·have:=(iE o).mpr h;omega
 ·have:=(gn o).mpr h;omega
theorem XG {t:List ByteArray} {e:List qM} (h:Cm k t e):Whole S m e:=by
 induction h with
 | num x h=>exact(au S m _ (val x) (fun st=>by simp[workI])).2
 | br x h=>exact(au S m _ (ZL m (vx S m x)) (fun st=>by simp[workI])).2
 | neg p e _ ih=>exact(pj S m ih).2
 | par p e _ ih=>exact ih
 | rE x p e _ _ ih=>exact(pk S m ih x).2
 | t1 p e _ ih=>exact ih
 | t2 p o q e f _ ho _ ih1 ih2=>exact(eval_bin S m ih1 ih2 _ (Ky (Or.inl ho))).2
 | s1 p e _ ih=>exact ih
 | s2 p o q e f _ ho _ ih1 ih2=>exact(eval_bin S m ih1 ih2 _ (Ky (Or.inr (Or.inl ho)))).2
 | e1 p e _ ih=>exact ih
 | e2 p o q e f _ ho _ ih1 ih2=>exact(eval_bin S m ih1 ih2 _ (Ky (Or.inr (Or.inr ho)))).2
end
theorem FV {o:ByteArray} (h:kp vJ o=true\/kp kL o=true\/kp kF o=true) (a b:Int):two a o.toList b=xF (yI o) a b:=by
 have d:∀l:List UInt8,(⟨l.toArray⟩:ByteArray).toList=l:=jl;rcases h with h | h | h
 ·rcases JO h with rfl | rfl | rfl
  ·rw[show (⟨#[42]⟩:ByteArray).toList=[42]from d [42]];simp[two,xF,yI]
  ·rw[show (⟨#[47]⟩:ByteArray).toList=[47]from d [47]];simp[two,xF,yI]
  ·rw[show (⟨#[37]⟩:ByteArray).toList=[37]from d [37]];simp[two,xF,yI]
 ·rcases JT h with rfl | rfl
  ·rw[show (⟨#[43]⟩:ByteArray).toList=[43]from d [43]];simp[two,xF,yI]
  ·rw[show (⟨#[45]⟩:ByteArray).toList=[45]from d [45]];simp[two,xF,yI]
 ·rcases VD h with rfl | rfl
  ·rw[show (⟨#[60]⟩:ByteArray).toList=[60]from d [60]];simp[two,xF,yI,Vi]
  ·rw[show (⟨#[61]⟩:ByteArray).toList=[61]from d [61]];simp[two,xF,yI,Vi]
end Rf
end Go.Proofs.YthleadfkfnnadaaGreat
