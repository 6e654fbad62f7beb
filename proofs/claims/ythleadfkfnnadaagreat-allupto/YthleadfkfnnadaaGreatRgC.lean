/- The document's answer: the step of a return. -/
import Derived.Test.YthleadfkfnnadaaGreatPlA
set_option maxHeartbeats 4000000
set_option maxRecDepth 100000
set_option linter.all false
namespace Go.Proofs.YthleadfkfnnadaaGreat
open Value renaming int->J,slice->I,string->O,pointer->H,agg->L,tuple->E
open IntKind renaming i64->U
open Option renaming none->Z,some->Q
open Bool renaming false->W,true->D
open List renaming length->G
open Ending renaming returned->T
open Obj renaming cells->V
open Rf Rt Go.Proofs.Tryz
open Go.RowKit
variable {x:Ia} {ls:List Ib} {t:Ib} {A:List Rw} {tail:List Value} {k l d n M B g P i cap:Nat} {X:Qg} {p p':Rf.Pl} {m:Rt.Mc} {S:Rt.Src} {r:Rw} {ty:TypeId} {pv v:Value} {w w1 wx wy w' w0:World}
namespace Rf
open Rt
structure Ctx (ps zL:List PL) (ls:List Ib) (S:Rt.Src):Prop where
 dz:Vb ps zL
 both:ZM zL ls
 Ja:S.zL=zL.map jK
 lk:S.lk=vS ps
 law:Lawful ls
 br:∀n:Nat,n < ps.length->qh zL (n+1) (vU zL ((n:Int)+1))=true
 main:(yJ zL xP).kind=3
 Gf:(yJ zL xP).params=[]
structure KA (ps zL:List PL) (ls:List Ib) (S:Rt.Src) (m:Mc):Prop where
 line:∃l:Nat,l < ps.length/\m.line=(l:Int)+1/\xV zL (vU zL ((l:Int)+1))=true/\xu ps l≠[]
 ne:m.zH≠[]
 VJ:m.zH.length<=6
 Gk:∀f∈frsOf zL m.zH m.line,BZ ls f
 calls:∀f∈m.zH.tail,∃c:Nat,c < ps.length/\f.call=(c:Int)+1/\kd ps c=12
 VH:m.values.map List.length=zL.map (fun p=>(ji p.form).length)
 taken:0<=m.taken/\m.taken<=S.input.length
section
variable {ps zL:List PL} {ls:List Ib} {S:Rt.Src} {m:Mc}
theorem Ctx.len (C:Ctx ps zL ls S):G ps=G ls:=JQ C.dz C.both
theorem Ctx.go (C:Ctx ps zL ls S) (d:k<=G ls):goOn S.zL S.lk 102 ((k:Int)+1)=(jc ls k:Nat):=by
 rw[C.Ja,C.lk,V1];exact mC C.dz C.both C.law.len d
theorem Ctx.stop (C:Ctx ps zL ls S) (y:k<=G ls) (d:xu ps k≠[]):∃l:Nat,jc ls k=l+1/\l < G ps/\xV zL (vU zL ((l:Int)+1))=D/\xu ps l≠[]/\Yt (xu ps l)=Yt (xu ps k):=by
 have z:=C.len;have f:=C.law.len;obtain⟨l,x,o,j,i,h⟩:=uj C.dz (by omega) 102 k (by omega) (by omega) d;rw[mC C.dz C.both C.law.len y]at x;exact⟨l,by omega,o,j,i,h⟩
theorem Ctx.kD (C:Ctx ps zL ls S) {l:Nat} (f:l < G ps) (d:xu ps l≠[]):Rf.kD zL ((l:Int)+1)=(Yt (xu ps l)).1:=by
 unfold Rf.kD;rw[nG C.dz f d];omega
theorem Ctx.outer (C:Ctx ps zL ls S) (x:l<=G ps) (h:xu ps l≠[]):∃d:Nat,∃hd:d < G ls,(Yt (xu ps l)).1=d+1/\kd ps d=3/\((first ls[d]).toList==[112,114,111,99])=D:=by
 have f:=KJ C.dz l x;have o:=C.len;cases hs:xu ps l with
 | nil=>exact absurd hs h
 | cons b r=>
  obtain⟨i,_⟩:=f.head b r hs;obtain⟨z,y,k⟩:=f.each b (by rw[hs];simp);have hd:b.1-1 < G ls:=by omega
  refine⟨b.1-1,hd,by show b.1=_;omega,by rw[k,i],?_⟩;obtain⟨_,_,_,j,_⟩:=ly C.dz C.both hd;rw[k,i]at j;rw[j];rfl
theorem Ctx.params (C:Ctx ps zL ls S) {d:Nat} (h:d < G ls) (i:kd ps d=3):2<=(xU ls d).length/\(yA zL ((d:Int)+1)).params.length=(xU ls d).length-2:=by
 have hf:=C.both.form h;rw[show ((d+1:Nat):Int)=(d:Int)+1 by omega]at hf;have f:(yA zL ((d:Int)+1)).kind=3:=by
  rw[Xp C.dz (by rw[C.len];exact h),<-Qm,i]
 rw[yq h];generalize yA zL ((d:Int)+1)=fm at *;generalize ls[d]=t at *;cases hf with
 | proc x q hx hq hl=>simp
 | _=>simp at f
theorem Y4 (C:Ctx ps zL ls S) (F:KA ps zL ls S m):Env zL ls S m:=by
 obtain⟨l,i,j,y,h⟩:=F.line;obtain⟨d,k,x,z,o⟩:=C.outer (Nat.le_of_lt i) h;have f:(yT zL m).zH.length=G m.zH:=XD _ _ _;refine⟨C.both,C.Ja,F.ne,⟨?_,?_,F.Gk,?_,?_⟩,⟨d,k,?_,o⟩,F.VH,C.law⟩
 ·rw[f];exact kO.mpr F.ne
 ·rw[f];have:=F.VJ;omega
 ·simp[yT,varsOf,C.both.len]
 ·simp[yT,Q8,C.both.len]
 ·rw[j,nG C.dz i h,x];omega
theorem wv (C:Ctx ps zL ls S) (h:l < G ps) (f:m.line=(l:Int)+1) (d:xu ps l≠[]):qJ S m=(vU zL ((l:Int)+1)).proc/\qJ S m=((Yt (xu ps l)).1:Nat):=by
 have:qJ S m=(vU zL ((l:Int)+1)).proc:=by
  unfold qJ;rw[C.Ja,QO,f];rfl
 exact⟨this,by rw[this,nG C.dz h d]⟩
def vV (ls:List Ib) (p:Pl) (x:Ia) (v:Int):Pl:=
 if 0<=index (XZ ls (top p).proc) x then { p with zH:=p.zH.modify (G p.zH-1) (fun f=>⟨f.proc,f.args.set (index (XZ ls (top p).proc) x).toNat v,f.call⟩) }
 else { p with vars:=p.vars.set (decl ls x) v }
theorem oN (x:Ia):∀(l:Ib) (i:Nat),parNo i l x < (i:Int)+G l/\(parNo i l x=-1\/(i:Int)<=parNo i l x)
 | [],i=>⟨by rw[parNo];simp;omega,Or.inl rfl⟩
 | p::r,i=>by
  have:=oN x r (i+1);rw[parNo];split
  ·simp;omega
  ·simp;omega
theorem oq {α:Type} (l:List α) (a:α) (g:α->α):(l++[a]).modify (G l) g=l++[g a]:=by
 induction l with
 | nil=>rfl
 | cons b r ih=>simp[ih]
theorem nE {α:Type} (l:List α) (f:α->α) (h:k≠d):(l.modify d f)[k]?=l[k]?:=by
 rw[qW];cases l[k]? with
 | none=>rfl
 | some x=>
  show Q (if d=k then f x else x)=Q x;rw[zA (fun e=>h e.symm)]
theorem cQ {β:Type} (f h:Nat->β) (v:β) (o:d < n->h d=v) (h2:∀k,k≠d->h k=f k):(List.range n).map h=((List.range n).map f).set d v:=by
 apply qw
 ·simp
 ·intro i j x;rw[Zq];simp only[qc,vn];split
  ·next e=>subst e;exact o (by simpa using j)
  ·next e=>exact h2 i (fun q=>e q.symm)
theorem oI (E:Env zL ls S m) (y:Rt.isVar zL (qJ S m) x=D) (F:BZ ls (top (yT zL m))) (v:Int):yT zL (jN m (vx S m x) v)=vV ls (yT zL m) x v:=by
 have H:=E.Gd;unfold vV vx;rw[H];have O:index (yA S.zL (qJ S m)).params x=parNo 0 (yA S.zL (qJ S m)).params x:=by
  have:=II x (yA S.zL (qJ S m)).params _ 0 (xW _);rw[Yf]at this;exact this
 have h:=F.args;rw[O];simp only;have z:0 < G m.zH:=kO.mpr E.ne;by_cases h0:0<=parNo 0 (yA S.zL (qJ S m)).params x
 ·rw[zE h0,zE h0];have U:=oN x (yA S.zL (qJ S m)).params 0;have M:(yA S.zL (qJ S m)).params.length=(m.zH.getLastD Qe).params.length:=by
   rw[<-H];rw[aO E.ne]at h ⊢;unfold XZ;simp only at h ⊢;rw[xp,h]
  have j:Q6 m ⟨0,parNo 0 (yA S.zL (qJ S m)).params x⟩=D:=by
   unfold Q6 cellsOf;simp only[yS];rw[zA (by omega),zE ⟨by first | rfl | trivial,z⟩];omega
  unfold jN;rw[zE j,zA (show ¬(0:Int) < 0 by omega)];generalize (parNo 0 (yA S.zL (qJ S m)).params x).toNat=i;unfold yT;simp only[Pl.mk.injEq,jJ];obtain⟨o,g,R⟩:∃o g,m.zH=o++[g]:=⟨_,_,nK E.ne⟩;rw[R,XD,ze,yl,zu,oq,QX,QX];have:=oq (frsOf zL o g.call) (⟨kD zL m.line,g.params,g.call⟩:Fr) (fun f=>⟨f.proc,f.args.set i v,f.call⟩);rw[XD]at this;rw[this]
 ·rw[zA h0,zA h0,E.Ja,XR,E.both.Xh];have A:=pR (ps:=(yA S.zL (qJ S m)).params) (x:=x) 0 (by omega);unfold Rt.isVar VS at y;rw[E.Ja,Zl]at A;rw[A,Ve,jG]at y;have T:=eZ E x;have I:(yA zL ((decl ls x:Nat):Int)).kind=1:=by
   unfold yJ at y;rw[E.both.Xh]at y;exact y
  obtain⟨a,J⟩:=uF E T I;have N:=az E (x:=x) (by rw[y];decide);have L:=JC E;have j:Q6 m ⟨((decl ls x:Nat):Int),0⟩=D:=by
   unfold Q6 cellsOf;simp only[yS];rw[zE ⟨by omega,by omega⟩,xS,J];simp
  unfold jN;rw[zE j,zE (show (0:Int) < ((decl ls x:Nat):Int) by omega)];simp only[xS,Int.toNat_zero];generalize decl ls x=d at *;unfold yT;simp only[Pl.mk.injEq,jH,jJ];constructor
  ·unfold varsOf;refine cQ _ _ _ (fun _=>?_) (fun k hk'=>?_)
   ·rw[zE I,qW,J];simp
   ·rw[nE _ _ hk']
  ·unfold Q8;refine vT (fun k _=>?_);by_cases e:k=d
   ·subst e;rw[zA (by omega),zA (by omega)]
   ·rw[nE _ _ e]
theorem CD (E:Env zL ls S m) (f:ZW zL (qJ S m) x=D) {n:Int} (j:Q6 m ⟨(xb S.zL x:Nat),n⟩=D) (v:Int):yT zL (jN m ⟨(xb S.zL x:Nat),n⟩ v)={ yT zL m with cells:=(yT zL m).cells.set (decl ls x) (((yT zL m).cells.getD (decl ls x) []).set n.toNat v) }:=by
 obtain⟨F,A,z⟩:=GD E f;have o:=eZ E x;unfold ZW at f;rw[zy,jG]at f;have h:(yA zL ((decl ls x:Nat):Int)).kind=2:=by
  have:=f.2;unfold yJ at this;rw[E.both.Xh]at this;exact this
 have i:=JC E;rw[rB m o,zE h];unfold jN;rw[zE j,z];simp only;rw[zE (show (0:Int) < ((decl ls x:Nat):Int) by omega)];simp only[xS];generalize decl ls x=d at *;have y:m.values[d]?=Q m.values[d]:=zJ (by omega);unfold yT;simp only[Pl.mk.injEq,jH,jJ];constructor
 ·unfold varsOf;refine vT (fun k _=>?_);by_cases e:k=d
  ·subst e;rw[zA (by omega),zA (by omega)]
  ·rw[nE _ _ e]
 ·unfold Q8;refine cQ _ _ _ (fun _=>?_) (fun k hk'=>?_)
  ·rw[zE h,qW,y];simp
  ·rw[nE _ _ hk']
theorem EN {n:Int} (h:kD zL n=kD zL m.line):yT zL { m with line:=n }={ yT zL m with line:=n }:=by
 unfold yT;simp only[Pl.mk.injEq,jJ];exact gR h m.zH
theorem fT (m:Mc) (s:Q9) (v:Int):(jN m s v).line=m.line/\(jN m s v).fin=m.fin/\(jN m s v).taken=m.taken/\(jN m s v).output=m.output/\(jN m s v).zH.map Fm.call=m.zH.map Fm.call/\(jN m s v).zH.map (fun f=>G f.params)=m.zH.map (fun f=>G f.params)/\(jN m s v).values.map List.length=m.values.map List.length:=by
 unfold jN;split
 ·split
  ·refine⟨rfl,rfl,rfl,rfl,rfl,rfl,?_⟩;apply qw
   ·simp
   ·intro i h d;simp only[qc,jW];split <;> simp
  ·refine⟨rfl,rfl,rfl,rfl,?_,?_,rfl⟩
   ·apply qw
    ·simp
    ·intro i h d;simp only[qc,jW];split <;> simp
   ·apply qw
    ·simp
    ·intro i h d;simp only[qc,jW];split <;> simp
 ·exact⟨rfl,rfl,rfl,rfl,rfl,rfl,rfl⟩
end
open Rt
section
variable {ps zL:List PL} {ls:List Ib} {S:Rt.Src} {m:Mc}
theorem mF {n n':Int} (d:kD zL n'=kD zL n):∀(fs fs':List Fm),fs'.map Fm.call=fs.map Fm.call->fs'.map (fun f=>G f.params)=fs.map (fun f=>G f.params)->(frsOf zL fs' n').map (fun f=>(f.proc,G f.args))=(frsOf zL fs n).map (fun f=>(f.proc,G f.args))
 | [],[],_,_=>rfl
 | [],_::_,h,_=>by simp at h
 | _::_,[],h,_=>by simp at h
 | [a],[b],_,h2=>by
  simp only[qp,Ye,vE,jJ]at h2;simp only[frsOf,qp,Ye,d,h2]
 | [_],_::_::_,h,_=>by simp at h
 | _::_::_,[_],h,_=>by simp at h
 | a::b::r,a'::b'::r',h,h2=>by
  have i:=mF d (b::r) (b'::r') (by simp only[qp,vE]at h ⊢;exact h.2) (by simp only[qp,vE]at h2 ⊢;exact h2.2);simp only[qp,vE]at h h2;simp only[frsOf,qp,vE];exact⟨by rw[h.2.1,h2.1],i⟩
theorem F9 {fs fs':List Fr} (h:fs'.map (fun f=>(f.proc,G f.args))=fs.map (fun f=>(f.proc,G f.args))) (k:∀f∈fs,BZ ls f):∀f∈fs',BZ ls f:=by
 intro f i;have:(f.proc,G f.args)∈fs.map (fun f=>(f.proc,G f.args)):=by rw[<-h];exact xr.mpr ⟨f,i,rfl⟩
 obtain⟨g,j,e⟩:=xr.mp this;have:=k g j;simp only[yZ]at e;obtain⟨d,o⟩:=e;exact⟨by rw[<-d];exact this.lo,by rw[<-d];exact this.hi,by rw[<-d];exact this.two,by rw[<-d,<-o];exact this.args⟩
theorem D8 {fs fs':List Fm} (h:fs'.map Fm.call=fs.map Fm.call) {P:Int->Prop} (j:∀f∈fs.tail,P f.call):∀f∈fs'.tail,P f.call:=by
 intro f d;have k:fs'.tail.map Fm.call=fs.tail.map Fm.call:=by rw[List.map_tail,List.map_tail,h]
 have:f.call∈fs.tail.map Fm.call:=by rw[<-k];exact xr.mpr ⟨f,d,rfl⟩
 obtain⟨g,i,e⟩:=xr.mp this;rw[<-e];exact j g i
theorem BA (C:Ctx ps zL ls S) (F:KA ps zL ls S m) (T:l < G ps) (R:m.line=(l:Int)+1) (O:xu ps l≠[]) {m1:Mc} (x:m1.zH.map Fm.call=m.zH.map Fm.call) (L:m1.zH.map (fun f=>G f.params)=m.zH.map (fun f=>G f.params)) (I:m1.values.map List.length=m.values.map List.length) (J:0<=m1.taken/\m1.taken<=G S.input) (N:k<=G ls) (o:xu ps k≠[]) (M:Yt (xu ps k)=Yt (xu ps l)):KA ps zL ls S { m1 with line:=(jc ls k:Nat) }/\kD zL ((jc ls k:Nat):Int)=kD zL m.line:=by
 obtain⟨j,H,z,D,y,A⟩:=C.stop N o;have i:((jc ls k:Nat):Int)=(j:Int)+1:=by rw[H];omega
 have h:kD zL ((jc ls k:Nat):Int)=kD zL m.line:=by
  rw[i,R,C.kD z y,C.kD T O,A,M]
 have d:G m1.zH=G m.zH:=by have:=qB List.length x;simpa using this
 refine⟨⟨⟨j,z,i,D,y⟩,?_,?_,?_,D8 (P:=fun q=>∃c:Nat,c < G ps/\q=(c:Int)+1/\kd ps c=12) x F.calls,I.trans F.VH,J⟩,h⟩
 ·intro e;have:=F.ne;simp only at e;rw[e]at d;exact this (List.length_eq_zero_iff.mp d.symm)
 ·show (G m1.zH)<=6;rw[d];exact F.VJ
 ·exact F9 (mF h m.zH m1.zH x L) F.Gk
theorem DF (F:KA ps zL ls S m) {t:Int}:KA ps zL ls S { m with fin:=t }:=⟨F.line,F.ne,F.VJ,F.Gk,F.calls,F.VH,F.taken⟩
theorem fL (d:m.fin=0) {o:Out} (f:perform S m (yA S.zL m.line)=o) (h:o.fin=0):qd S m=({ o.m with line:=goOn S.zL S.lk 102 o.next },o.YU):=by
 unfold qd;rw[zE d,f];simp only;rw[zE h]
theorem wS (d:m.fin=0) {o:Out} (f:perform S m (yA S.zL m.line)=o) (h:¬o.fin=0):qd S m=({ m with fin:=o.fin },[stay m.line]):=by
 unfold qd;rw[zE d,f];simp only;rw[zA h]
def Step (ps zL:List PL) (ls:List Ib) (S:Rt.Src) (m:Mc) (p:Pl) (n:Nat):Prop:=yT zL (qd S m).1=p/\(qd S m).2.length=n/\KA ps zL ls S (qd S m).1
theorem ZR (F:KA ps zL ls S m) (d:m.fin=0) {o:Out} (f:perform S m (yA S.zL m.line)=o) (h:¬o.fin=0):Step ps zL ls S m { yT zL m with fin:=o.fin } 1:=by
 unfold Step;rw[wS d f h];exact⟨rfl,rfl,DF F⟩
theorem K4 (d:xu ps l≠[]) (f:¬(kd ps l=3\/kd ps l=4)):xu ps (l+1)≠[]/\Yt (xu ps (l+1))=Yt (xu ps l):=by
 have:xu ps (l+1)≠[]:=by
  rw[xu];split
  ·simp
  ·rw[zA (by omega)];exact d
 exact⟨this,fZ d this⟩
theorem Xt (h:l < 101):wrap64 ((l:Int)+1+1)=((l+1:Nat):Int)+1:=by
 have:=ZO (l+2) (by omega);rw[show ((l:Int)+1+1)=((l+2:Nat):Int) by omega,this];omega
theorem Yz (C:Ctx ps zL ls S) (f:l < G ps) (d:m.line=(l:Int)+1):yA S.zL m.line=ps[l].form:=by rw[C.Ja,Zl,d,Xp C.dz f]
section
variable (C:Ctx ps zL ls S) (F:KA ps zL ls S m) (hfin:m.fin = 0) {l:Nat} (h1:l < ps.length) (h2:m.line = (l:Int) + 1) (h4:xu ps l ≠ [])
include C F hfin h1 h2 h4
theorem Kx {o:Out} (y:perform S m (yA S.zL m.line)=o) (A:o.fin=0) (h:k<=G ls) (d:o.next=(k:Int)+1) (hne:xu ps k≠[]) (hou:Yt (xu ps k)=Yt (xu ps l)) (hln:o.m.line=m.line) (z:o.m.zH.map Fm.call=m.zH.map Fm.call) (x:o.m.zH.map (fun f=>G f.params)=m.zH.map (fun f=>G f.params)) (i:o.m.values.map List.length=m.values.map List.length) (j:0<=o.m.taken/\o.m.taken<=G S.input):Step ps zL ls S m { yT zL o.m with line:=(jc ls k:Nat) } (G o.YU):=by
 obtain⟨H,D⟩:=BA C F h1 h2 h4 z x i j h hne hou;unfold Step;rw[fL hfin y A,d,C.go h];exact⟨EN (by rw[D,hln]),rfl,H⟩
end
end
end Rf
theorem Ji {B:List Rw} (h:k∈xh (A++r::B)):k∈xh (A++B)\/r.v.ownBlock=Q k:=by
 rw[jd,ka]at h;rw[jd];rcases zd.mp h with h | h
 ·exact Or.inl (zY _ h)
 ·cases e:r.v.ownBlock with
  | none=>rw[e]at h;exact Or.inl (zb _ h)
  | some g=>
   rw[e]at h;rcases zw.mp h with rfl | h
   ·exact Or.inr rfl
   ·exact Or.inl (zb _ h)
theorem jz.uk {X:ZK} (h:jz w M B ty tail S m X):X.fv.ownBlock≠Q M:=by
 intro e;obtain⟨c,d⟩:=yW h.zH e;rw[h.block]at d;injection d with d;injection d with _ d;exact h.ty.2.1 d
theorem jz.mG {X:ZK} (h:jz w M B ty tail S m X) (d:∀k,k < w.heap.size->X.fv.ownBlock≠Q k->w1.heap[k]?=w.heap[k]?):∀(k:Nat) (x:Obj),w.heap[k]?=Q x->(∃c t,x=Obj.cells c t (0,0)/\Xe t)->w1.heap[k]?=Q x:=by
 intro k x o f;rw[d k (zQ o) (fun e=>by
  obtain⟨c,i⟩:=yW h.zH e;rw[o]at i;injection i with i;obtain⟨z,y,j,f⟩:=f;rw[i]at j;injection j with _ j;rw[<-j]at f;exact absurd f (by unfold Xe;decide))]
 exact o
def XM (X:ZK) (m:Rt.Mc):Rw:=⟨153,2,X.fv,G m.zH,fCells X.xg m.zH⟩
theorem fP {qo:List Int} {X:ZK}:rowsOf qo X m=[zz X.iv qo]++XM X m::([⟨24,1,X.vv,G m.values,X.YR⟩,zz X.ov m.output]++(List.zipWith zz X.xg (m.zH.map Rt.Fm.params)++List.zipWith zz X.YR m.values)):=rfl
theorem jz.A5 {X:ZK} (h:jz w M B ty tail S m X) (z:Below w.heap.size w wx) (o:Below wx.heap.size wx wy) (i:Value) (ps:List Int) (f:Int) (H:wx.ownsRow w.heap.size 3 1 i (G ps) (xR ps)) (y:wy.grownBy w1 X.fv.ownBlock) (d:Value) (D:w1.ownsRow 0 153 2 d (G m.zH+1) (fCells X.xg m.zH++[i,J U f])) (V:∀g,d.ownBlock=Q g->X.fv.ownBlock=Q g\/wx.heap.size<=g):jz (w1.setCell ⟨M,2,Z⟩ d) M B ty tail S { m with zH:=m.zH++[⟨ps,f⟩] } { X with fv:=d,xg:=X.xg++[i] }/\VM w (w1.setCell ⟨M,2,Z⟩ d) (M::Z4 X)/\vd w (Z4 X) (Z4 { X with fv:=d,xg:=X.xg++[i] }):=by
 have L:∀k,k < wx.heap.size->X.fv.ownBlock≠Q k->w1.heap[k]?=wx.heap[k]?:=fun k hk hv=>(y.block k (zX hk o.size) (xK hv)).trans (o.block k hk);have j:∀k,k < w.heap.size->X.fv.ownBlock≠Q k->w1.heap[k]?=w.heap[k]?:=fun k hk hv=>(L k (zX hk z.size) hv).trans (z.block k hk);have N:=h.uk;have hk:=h.mG j;have T:=h.own.zP z;have O:∀g,i.ownBlock=Q g->g∉Go.Proofs.YthleadfkfnnadaaGreat.xh (rowsOf S.input X m):=fun g y hm=>by
  have h1:=h.own.lt g hm;have h2:=(H.lt g y).1;omega
 have R:Own wx (([zz X.iv S.input,XM X m,⟨24,1,X.vv,G m.values,X.YR⟩,zz X.ov m.output]++List.zipWith zz X.xg (m.zH.map Rt.Fm.params))++zz i ps::List.zipWith zz X.YR m.values):=
  Own.add (by rw[yK];exact T) (vr H) (fun g y=>by rw[yK];exact O g y);have A:([zz X.iv S.input,XM X m,⟨24,1,X.vv,G m.values,X.YR⟩,zz X.ov m.output]++List.zipWith zz X.xg (m.zH.map Rt.Fm.params))++zz i ps::List.zipWith zz X.YR m.values=[zz X.iv S.input]++XM X m::([⟨24,1,X.vv,G m.values,X.YR⟩,zz X.ov m.output]++(List.zipWith zz X.xg (m.zH.map Rt.Fm.params)++zz i ps::List.zipWith zz X.YR m.values)):=by simp
 have F:=R;rw[A]at F;obtain⟨W,o2⟩:=Own.swap (w':=w1) F (r':=⟨153,2,d,G m.zH+1,fCells X.xg m.zH++[i,J U f]⟩) L D V;have hz:List.zipWith zz (X.xg++[i]) ((m.zH++[(⟨ps,f⟩:Rt.Fm)]).map Rt.Fm.params)=List.zipWith zz X.xg (m.zH.map Rt.Fm.params)++[zz i ps]:=by
  rw[yB,kN (by rw[qR];exact h.fl)];rfl
 have x:rowsOf S.input { X with fv:=d,xg:=X.xg++[i] } { m with zH:=m.zH++[⟨ps,f⟩] }=[zz X.iv S.input]++⟨153,2,d,G m.zH+1,fCells X.xg m.zH++[i,J U f]⟩::([⟨24,1,X.vv,G m.values,X.YR⟩,zz X.ov m.output]++(List.zipWith zz X.xg (m.zH.map Rt.Fm.params)++zz i ps::List.zipWith zz X.YR m.values)):=by
  unfold rowsOf;simp only[hz,Kf _ _ _ _ h.fl,ze,yl,yK,yF,xN]
 have I:=h.step (w1:=w1) (m':={ m with zH:=m.zH++[⟨ps,f⟩] }) (X':={ X with fv:=d,xg:=X.xg++[i] }) (zi (zi z.size o.size) y.size) (j M (zQ h.block) N) hk 2 d (by simp[xC]) (by rw[x];exact W) rfl rfl (by simp[h.fl]) h.vl;refine⟨I,?_,?_⟩
 ·refine VM.B5 ⟨y.os.trans (o.os.trans z.os),y.tape.trans (o.tape.trans z.tape),y.output.trans (o.output.trans z.output),zi (zi z.size o.size) y.size,fun k hk2 H=>j k hk2 (fun e=>H (zm _ ?_))⟩ _ _;rw[<-h.xh];exact qU (r:=XM X m) (by rw[fP];simp) e
 ·rw[<-h.xh,<-I.xh,x];intro k hk3;rcases o2 k hk3 with hk4 | hk4
  ·rw[<-A]at hk4;rcases Ji hk4 with hk5 | hk5
   ·rw[yK]at hk5;exact Or.inl hk5
   ·exact Or.inr (H.lt k hk5).1
  ·exact Or.inr (zi z.size hk4)
theorem jz.DD {X:ZK} (h:jz w M B ty tail S m X) (fs:List Rt.Fm) (f:Rt.Fm) (R:m.zH=fs++[f]) (g cap:Nat) (T:X.fv=I (Q ⟨g,0,Z⟩) (G fs+1) cap) (y:Below w.heap.size w w1):jz (w1.setCell ⟨M,2,Z⟩ (I (Q ⟨g,0,Z⟩) (G fs) cap)) M B ty tail S { m with zH:=fs } { X with fv:=I (Q ⟨g,0,Z⟩) (G fs) cap,xg:=X.xg.dropLast }/\VM w (w1.setCell ⟨M,2,Z⟩ (I (Q ⟨g,0,Z⟩) (G fs) cap)) (M::Z4 X)/\vd w (Z4 X) (Z4 { X with fv:=I (Q ⟨g,0,Z⟩) (G fs) cap,xg:=X.xg.dropLast }):=by
 have j:=h.fl;rw[R,ze,yl]at j;obtain⟨xg,O,i⟩:∃xg O,X.xg=xg++[O]:=by
  have H:X.xg≠[]:=by intro e;rw[e]at j;simp at j
  exact⟨X.xg.dropLast,X.xg.getLast H,(xj H).symm⟩
 have L:G xg=G fs:=by rw[i]at j;simpa using j
 have N:X.xg.dropLast=xg:=by rw[i,xo]
 have x:∀k,k < w.heap.size->X.fv.ownBlock≠Q k->w1.heap[k]?=w.heap[k]?:=fun k hk _=>y.block k hk;have hk:=h.mG x;have z:w1.ownsRow 0 153 2 (I (Q ⟨g,0,Z⟩) (G fs) cap) (G fs) (fCells xg fs):=by
  have U:=yG h.zH y;rw[R,i,T,Kf _ _ _ _ L]at U;obtain⟨W,q2⟩:=U;rcases q2 with⟨q2,_⟩| ⟨g',cap',cur,e,q3,q4,q5,q6,q7,q8⟩
  ·cases q2
  ·simp only[xJ,zx,Z9,jJ]at e;obtain⟨rfl,e2,rfl⟩:=e;refine⟨by rw[V3 _ _ L],Or.inr ⟨g,cap,cur,rfl,q3,q4,by simp at q5;omega,q6,q7,?_⟩⟩;have:=qB (List.take (G fs*2)) q8;rw[Ko,J4 (by rw[V3 _ _ L])]at this;rw[<-this];congr 1;simp
 have A:rowsOf S.input X m=([zz X.iv S.input,XM X m,⟨24,1,X.vv,G m.values,X.YR⟩,zz X.ov m.output]++List.zipWith zz xg (fs.map Rt.Fm.params))++zz O f.params::List.zipWith zz X.YR m.values:=by
  rw[fP];have:List.zipWith zz X.xg (m.zH.map Rt.Fm.params)=List.zipWith zz xg (fs.map Rt.Fm.params)++[zz O f.params]:=by
   rw[R,i,yB,kN (by rw[qR];exact L)];rfl
  rw[this];simp
 have F:=h.own.zP y;rw[A]at F;have D:=F.drop;have o:[zz X.iv S.input,XM X m,⟨24,1,X.vv,G m.values,X.YR⟩,zz X.ov m.output]++List.zipWith zz xg (fs.map Rt.Fm.params)++List.zipWith zz X.YR m.values=[zz X.iv S.input]++XM X m::([⟨24,1,X.vv,G m.values,X.YR⟩,zz X.ov m.output]++(List.zipWith zz xg (fs.map Rt.Fm.params)++List.zipWith zz X.YR m.values)):=by simp
 rw[o]at D;obtain⟨V,o2⟩:=Own.swap (w':=w1) D (r':=⟨153,2,I (Q ⟨g,0,Z⟩) (G fs) cap,G fs,fCells xg fs⟩) (fun k _ _=>rfl) z (fun k hk=>Or.inl (by show X.fv.ownBlock=Q k;rw[T];exact hk));have d:rowsOf S.input { X with fv:=I (Q ⟨g,0,Z⟩) (G fs) cap,xg:=X.xg.dropLast } { m with zH:=fs }=[zz X.iv S.input]++⟨153,2,I (Q ⟨g,0,Z⟩) (G fs) cap,G fs,fCells xg fs⟩::([⟨24,1,X.vv,G m.values,X.YR⟩,zz X.ov m.output]++(List.zipWith zz xg (fs.map Rt.Fm.params)++List.zipWith zz X.YR m.values)):=by
  rw[N];rfl
 have J:=h.step (w1:=w1) (m':={ m with zH:=fs }) (X':={ X with fv:=I (Q ⟨g,0,Z⟩) (G fs) cap,xg:=X.xg.dropLast }) y.size (y.block M (zQ h.block)) hk 2 (I (Q ⟨g,0,Z⟩) (G fs) cap) (by simp[xC]) (by rw[d];exact V) rfl rfl (by rw[N];exact L) h.vl;refine⟨J,VM.B5 (VM.jQ _ y) _ _,?_⟩;rw[<-h.xh,<-J.xh,d];intro k hk3;rcases o2 k hk3 with hk4 | hk4
 ·rw[<-o]at hk4;left;rw[A];exact mP k hk4
 ·exact Or.inr (zi y.size hk4)
section
attribute [local go_sem ↓] Go.wp_at_zero Go.wp_at_succ
theorem A0:(Tryz.prog.info? 153).map (fun i=>(i.zero,i.size,i.bytes))=Q (Q (L #[I Z 0 0,J U 0]),2,32):=by kernel_rfl
namespace Rt
theorem argsI_next (S:Src) (m:Mc) (vs:List (List qM)) (k:Nat) (hk:k < G vs) (acc:List Int):argsI S m (vs.drop k) acc=if (zr S m vs[k]).2=0 then argsI S m (vs.drop (k+1)) (acc++[(zr S m vs[k]).1])else (acc,(zr S m vs[k]).2):=by
 rw[zZ hk,argsI]
end Rt
theorem cutM {Goal:Prop} {F:Nat->Nat->World->Prop} {R:Code} {post:Exit->Act->World->Prop} {fr:Nat->Nat->Act} (d:(∀g c wy,F g c wy->Code.wp Tryz.prog R post (fr g c) wy)->Goal) (f:∀g c wy,F g c wy->Code.wp Tryz.prog R post (fr g c) wy):Goal:=d f
theorem Dc {wr w4:World} {X:ZK} {fad:Option Addr} {fcap cap':Nat} {acc:List Int} {o:Obj} {cF cR:Array Value} {tF tR:TypeId} {F:Nat} (h:jz w M B ty tail S m X) (R:Below w.heap.size w wr) (y:X.fv=I fad (G m.zH) fcap) (O:wr.ownsRow w.heap.size 3 1 pv (G acc) (xR acc)) (x:(wr.alloc o).drew.grownBy w4 (Value.slice fad (G m.zH) fcap).ownBlock) (f:w4.ownsRow 0 153 2 (I (Q ⟨g,0,Z⟩) (G m.zH+1) cap') (G m.zH+1) (fCells X.xg m.zH++[pv,J U m.line])) (hat:(Value.slice fad (G m.zH) fcap).ownBlock=Q g\/g=wr.heap.size+1) (D:wr.heap[F]?=Q (V cF tF (0,0))) (A:wr.heap[F+1]?=Q (V cR tR (0,0))) (T:w.heap.size<=F):Z8 M B ty tail S X { X with fv:=I (Q ⟨g,0,Z⟩) (G m.zH+1) cap',xg:=X.xg++[pv] } { m with zH:=m.zH++[⟨acc,m.line⟩] } w (w4.setCell ⟨M,2,Z⟩ (I (Q ⟨g,0,Z⟩) (G m.zH+1) cap'))/\(w4.setCell ⟨M,2,Z⟩ (I (Q ⟨g,0,Z⟩) (G m.zH+1) cap')).heap[F]?=Q (V cF tF (0,0))/\(w4.setCell ⟨M,2,Z⟩ (I (Q ⟨g,0,Z⟩) (G m.zH+1) cap')).heap[F+1]?=Q (V cR tR (0,0)):=by
 have d:Below wr.heap.size wr (wr.alloc o).drew:=((zI _ wr).alloc (zB _) o).drew;rw[<-y]at x hat;obtain⟨N,L,H⟩:=h.A5 R d pv acc m.line O x (I (Q ⟨g,0,Z⟩) (G m.zH+1) cap') f (fun k hk=>by simp[Value.ownBlock]at hk;subst hk;rcases hat with e | e;exact Or.inl e;exact Or.inr (by omega));have j:=zQ h.block;have z:∀k,w.heap.size<=k->k < wr.heap.size->(w4.setCell ⟨M,2,Z⟩ (I (Q ⟨g,0,Z⟩) (G m.zH+1) cap')).heap[k]?=wr.heap[k]?:=by
  intro k hk i;rw[zO w4 ⟨M,2,Z⟩ _ k (by show k≠M;omega),x.block k (zX i d.size) (fun e=>by have:=(h.zH.lt k e.symm).2;omega)];exact d.block k i
 exact⟨⟨N,L,H,j⟩,(z F T (zQ D)).trans D,(z (F+1) (by omega) (zQ A)).trans A⟩
theorem Ae {X:ZK} {BB:Nat} {fm:Rt.qS} {a1 a2 a3:Option Addr} {c1 c2 c3:Nat} (h:jz w M B ty tail S m X) (hm:dL S m) (hf:qk w BB (Qd fm a1 a2 a3 c1 c2 c3) fm) (a9:Rt.Small fm) (hk:fm.kind=12):Calls Tryz.prog 150 #[H (Q ⟨M,0,Z⟩),L (Qd fm a1 a2 a3 c1 c2 c3)] w (eE M B ty tail S X (Rt.perform S m fm) w):=by
 obtain⟨i0,f6,d9,d8,d7⟩:=yi XL;obtain⟨j0,f5,f2,f1,f0⟩:=yi A0;have hbA:=((zI w.heap.size w).alloc (zB _) (V (Qd fm a1 a2 a3 c1 c2 c3) 143)).alloc (by simp) (V #[J U 0,J U 0,I Z 0 0] 157);have bF:=yR (zN w (V (Qd fm a1 a2 a3 c1 c2 c3) 143)) (V #[J U 0,J U 0,I Z 0 0] 157);have bR:=qD w (V (Qd fm a1 a2 a3 c1 c2 c3) 143) (V #[J U 0,J U 0,I Z 0 0] 157);have HP:=zD (show Rt.perform S m fm=if (Rt.argsI S m fm.values []).2=0 then (if 6<=G m.zH then Rt.ended m 5 else ⟨0,wrap64 (Rt.xb S.zL fm.name+1),[⟨2,m.line,⟨0,0⟩,0⟩],{ m with zH:=m.zH++[⟨(Rt.argsI S m fm.values []).1,m.line⟩] }⟩)else Rt.ended m (Rt.argsI S m fm.values []).2 by unfold Rt.perform;simp only;rw[zA (by omega),zA (by omega),zA (by omega),zA (by omega),zA (by omega),zE hk]);have HH:=XX h hm hf;have h3:=a9.values;have HE:=zD a9.each;have h0:=zQ h.block;clear h hf hk hm a9;go_enter func150,ntmps150;go_wp2_with fail;go_loopw [5,6,7,8] (fun pv i _ _ wr=>∃(k:Nat) (acc:List Int),k<=G fm.values/\i=J U k/\G acc=k/\Rt.argsI S m (fm.values.drop k) acc=Rt.argsI S m fm.values []/\wr.ownsRow (w.heap.size+2) 3 1 pv (G acc) (xR acc)/\wr.heap[w.heap.size]?=Q (V (Qd fm a1 a2 a3 c1 c2 c3) 143 (0,0))/\wr.heap[w.heap.size+1]?=Q (V #[J U 0,J U 0,I Z 0 0] 157 (0,0))/\Below w.heap.size w wr)
  (fun _ i _ _ _=>G fm.values-(intOf i).toNat)
 case atStart=>exact⟨0,[],zo _,rfl,rfl,rfl,zW _ _ _ _,bF,bR,hbA⟩
 case round=>
  clear bF bR hbA;obtain⟨k,acc,hk,rfl,d1,hT,A,hF,hR,d⟩:=hrel;subst d1;obtain⟨a7,a4,rfl⟩:=zK A;obtain⟨y0,y1,y2,y3,y4,y5,z0,z1,z2,z3,z4,z5⟩:=YD hF;by_cases hlt:G acc < G fm.values
  ·have c0:(G acc:Int) < (G fm.values:Int):=by omega
   have h5:(0:Int)<=(G acc:Int):=by omega
   obtain⟨FP,h2,vv,vs,b1,_,_,b3,b4⟩:=ZY HH.u.2.2 d;have f3:vv=I a3 (G fm.values) c3:=by simp[Qd]at b1;exact b1.2.2.symm
   subst f3;obtain⟨xv,b8,a8⟩:=qi.get _ _ (G acc) hlt b4;obtain⟨i1,h1,rfl⟩:=zK a8;obtain⟨g,cap',hg,_,d0,cx⟩:=yD b3 b8;simp at hg;obtain⟨rfl,rfl⟩:=hg;have f4:=HE.u _ (zj hlt);have b6:=argsI_next S m fm.values (G acc) hlt acc;rw[hT]at b6;have HT:=zD b6;have HX:=gN A hF hR d;clear b6 hT A hF hR b3 b4 b8 b1;generalize fm.values[G acc]=ov at *;have HV:=zD (fun (W:World) (hW:Below wr.heap.size wr W)=>Ju ((HH.u.1.zP d).zP hW) HH.u.2.1 (yG a8 hW) f4);clear a8 d;go_wp2_with fail;refine(HV.u _ (zI _ _)).mono ?_;rintro e w1 ⟨rfl,a5⟩;obtain⟨A,hF,hR,d⟩:=HX.u;have R:=yG A a5;have a0:=zU hF a5;have x:=zU hR a5;have j:=d.trans (a5.mono (B':=w.heap.size) d.size);clear A hF hR d a5 HX HV d0 cx y0 y1 y2 y3 y4 y5 z0 z1 z2 z3 z4 z5;generalize Rt.zr S m ov=y at *;obtain⟨v1,v2⟩:=y;simp only at HT;by_cases hv:v2=0
   ·subst hv
    replace HT:=zD (HT.u.trans (zE rfl))
    have f7:=zQ x;have HX:=gN R a0 x j;clear a0 x j;go_wp2_with (at_builtin;refine wpList_append_lies _ rfl _ _ 24 rfl (w.heap.size+2) 3 i0 _ 1 8 underlying24 f6 d9 d8 d7 rfl (by decide) _ _ _ rfl (R.alloc _) ⟨w1.heap.size,0,Z⟩ 1 1 [J U v1] rfl rfl (cell_one_new _ _ _) (by simp[Value.oneCell']) (by omega) (by unfold maxLen;omega) (by omega) (by simp;omega) (w1.heap.size+1) (by simp) ?_);intro g' cap' w4 N f b2 b9;obtain⟨_,a0,x,j⟩:=HX.u;have a6:Below (w.heap.size+2) w1 w4:=Below.grown ((zI (w.heap.size+2) w1).alloc (by omega) _) f (by simp;omega) (fun q hq=>(R.lt q hq).1);have HF:=zD (show _/\_/\_/\_ from⟨N,(a6.block _ (by omega)).trans a0,(a6.block _ (by omega)).trans x,j.trans (a6.mono (B':=w.heap.size) (by omega))⟩);clear N f b2 R a0 x j a6 HX f7;go_wp2;go_roundw
    ·obtain⟨q1,q2,q3,q4⟩:=HF.u;exact⟨G acc+1,acc++[v1],by omega,by go_num,by simp,HT.u.symm,by rw[ze,xR,yB];exact q1,q2,q3,q4⟩
    ·simp[intOf];omega
   ·replace HT:=zD (HT.u.trans (zA hv))
    have b7:=zD (show Rt.perform S m fm=Rt.ended m v2 by rw[HP.u,HT.u];exact zA hv);have bv:(v2 != 0)=D:=by simpa using hv
    obtain⟨r0,r1,r2⟩:=yb x;have z:=zS x;have HF:=zD (fun a b c=>(Z8.start HH.u.1 j).three x (by omega) (by unfold Xe;decide) a b c);clear R a0 x j HP HT hv;go_wp2_with fail;refine zT (v:=L #[J U v2,J U 0,I Z 0 0]) ?_ rfl ⟨_,_,by rw[b7.u];rfl,by rw[b7.u];exact HF.u _ _ _,by rw[b7.u];exact zW _ _ _ _⟩;simp[results,results150,go_sem,r0,r1,r2]
  ·have c0:¬(G acc:Int) < (G fm.values:Int):=by omega
   have HT:=zD (show Rt.argsI S m fm.values []=(acc,0) by rw[<-hT,zp (by omega)];rfl);have b5:=HP.u.trans (zE (by rw[HT.u]));rw[HT.u]at b5
   replace HP:=zD b5
   clear b5;have o:=HH.u.1.zP d;have d4:=o.c2;have g0:=o.c6;obtain⟨f9,d3,T⟩:=zK o.zH;rw[T]at d4;by_cases h6:6<=G m.zH
   ·have f8:(6:Int)<=(G m.zH:Int):=by omega
    replace HP:=zD (HP.u.trans (zE h6))
    obtain⟨r0,r1,r2⟩:=yb hR;have z:=zS hR;have HF:=zD (fun a b c=>(Z8.start HH.u.1 d).three hR (by omega) (by unfold Xe;decide) a b c);clear o T h6 hR hF A d hT hlt;go_wp2_with fail;refine zT (v:=L #[J U 5,J U 0,I Z 0 0]) ?_ rfl ⟨_,_,by rw[HP.u];rfl,by rw[HP.u];exact HF.u _ _ _,by rw[HP.u];exact zW _ _ _ _⟩;simp[results,results150,go_sem,r0,r1,r2]
   ·have f8:¬(6:Int)<=(G m.zH:Int):=by omega
    replace HP:=zD (HP.u.trans (zA h6))
    have HX:=GW o A hF hR d T;have b0:=o.zH;rw[T]at b0;have g2:=zD (show Q M≠(Value.slice f9 (G m.zH) d3).ownBlock by rw[<-T];exact xK o.uk);have g4:=zD o.block;have h7:=zQ o.block;have g3:=zD b0;have h4:=d.size;clear o T hR hF A d hT hlt b0;go_wp2_with fail;apply cutM (F:=fun g c wy=>Z8 M B ty tail S X { X with fv:=I (Q ⟨g,0,Z⟩) (G m.zH+1) c,xg:=X.xg++[I a7 (G acc) a4] } { m with zH:=m.zH++[⟨acc,m.line⟩] } w wy/\wy.heap[w.heap.size]?=Q (V (Qd fm a1 a2 a3 c1 c2 c3) 143 (0,0))/\wy.heap[w.heap.size+1]?=Q (V #[J U 0,J U 0,I Z 0 0] 157 (0,0)))
    ·intro d5;have g1:=zD d5;clear d5;go_region_law
      ((refine step_append_lies _ (by rfl) _ _ _ (by rfl) 0 153 j0 _ 2 32 underlying88 f5 f2 f1 f0 rfl (by omega) _ (G m.zH) (fCells X.xg m.zH) (by rfl) ((g3.u.alloc _).drew) ⟨wr.heap.size,0,Z⟩ 1 1 [I a7 (G acc) a4,J U m.line] (by rfl) (by rfl) (World.news_of_block (cs:=#[I a7 (G acc) a4,J U m.line]) (t:=153) (fr:=(0,0)) (zN wr _)) (by simp[Value.oneCell']) (by omega) (by unfold maxLen;omega) (by omega) (zo _) (wr.heap.size+1) (by simp) ?_;intro g cap' w4 N f b2 b9;have bM:=(f.block M (by simp;omega) g2.u).trans (yR g4.u _);have d2:w4.cell? ⟨M,2,Z⟩=Q X.fv:=(by have:=zC bM 2 (by simp);simpa using this);rw[HX.u.2.2.2.2.2]at d2;have d6:w4.cell? ⟨M,6,Z⟩=Q (J U m.line):=(by have:=zC bM 6 (by simp);simpa using this);have e2:=zS bM 2))
     all_goals
      rename_i hKK;refine hKK _ _ ?_;have hwy:=Dc HH.u.1 HX.u.2.2.2.2.1 HX.u.2.2.2.2.2 (yn HX.u.2.1 (by omega)) f N b2 HX.u.2.2.1 HX.u.2.2.2.1 (zB _);revert hwy;generalize w4.setCell ⟨M,2,Z⟩ (I (Q ⟨g,0,Z⟩) (G m.zH+1) cap')=wy;intro hwy;exact g1.u _ _ _ hwy
    ·intro g c wy hR;obtain⟨hA,bF,bR⟩:=hR;clear d4 g0;obtain⟨y0,y1,y2,y3,y4,y5,z0,z1,z2,z3,z4,z5⟩:=YD bF;go_wp2_with fail;go_region_held3 (fun w'=>w'.cell? ⟨w.heap.size,1,Z⟩=Q (O fm.name)) (go_keep) ((go_at_call 143;refine(G3 fm.name (hA.mc.prog.zP (by exact⟨rfl,rfl,rfl,zB _,fun _ _=>rfl⟩)).v HH.u.2.1.zL).mono ?_;rintro e w5 ⟨rfl,rfl⟩));have hAz:=hA.below (zh wy);have bRz:=zU bR (zh wy);clear hA bF bR y0 y1 y2 y3 y4 y5 z0 z1 z2 z3 z4 z5;revert hAz bRz;generalize wy.drew=wz;intro hAz bRz;have d6:wz.cell? ⟨M,6,Z⟩=Q (J U m.line):=hAz.mc.c6;obtain⟨r0,r1,r2⟩:=yb bRz;have z:=zS bRz;have g9:=zQ bRz;have h9:=zQ hAz.mc.block;have hQ:=hAz.vz.size;have h8:¬M=w.heap.size+1:=by omega
     have g8:¬w.heap.size+1=wz.heap.size:=by omega
     have g7:¬wz.heap.size=w.heap.size+1:=by omega
     have g6:¬M=wz.heap.size:=by omega
     have g5:¬w.heap.size+1=M:=by omega
     have HF:=zD (fun a b c=>And.intro ((hAz.three bRz (by omega) (by unfold Xe;decide) a b c).below ((zI _ _).alloc (zB _) (V #[J U 2,J U m.line,J U 0,J U 0,J U 0] 162))) (eQ 1 wz w.heap.size (w.heap.size+1) #[J U 2,J U m.line,J U 0,J U 0,J U 0] hQ a b c rfl (by omega)));have HG:=zD (fun a b c:Value=>yb (yR (Km bRz a b c) (V #[J U 2,J U m.line,J U 0,J U 0,J U 0] 162)));generalize Rt.xb S.zL fm.name=dl at *;clear hAz bRz;go_wp2_with fail;refine zT (v:=L #[J U 0,J U (wrap64 (dl+1)),I (Q ⟨wz.heap.size,0,Z⟩) 1 1]) ?_ rfl ⟨_,_,by rw[HP.u],by rw[HP.u];exact(HF.u _ _ _).1,by rw[HP.u];exact(HF.u _ _ _).2⟩;have E:=HG.u (J U 0) (J U (wrap64 (dl+1))) (I (Q ⟨wz.heap.size,0,Z⟩) 1 1);revert E;generalize (W3 wz (w.heap.size+1) (J U 0) (J U (wrap64 (dl+1))) (I (Q ⟨wz.heap.size,0,Z⟩) 1 1)).alloc (V #[J U 2,J U m.line,J U 0,J U 0,J U 0] 162)=wq;intro E;simp[results,results150,go_sem,E.1,E.2.1,E.2.2]
namespace Rt
def Vv (m:Mc):Out:=
 if G m.zH < 2 then ended m 1
 else ⟨0,wrap64 ((m.zH.getLastD Qe).call+1),⟨3,m.line,⟨0,0⟩,(m.zH.getLastD Qe).call⟩::(m.zH.getLastD Qe).params.map (fun v=>⟨7,0,⟨0,0⟩,v⟩),{ m with zH:=m.zH.dropLast }⟩
theorem iX (S:Src) (m:Mc) (f:qS) (k:¬f.kind=8) (j:¬f.kind=9) (i:¬f.kind=10) (h:¬f.kind=11) (x:¬f.kind=5) (o:¬f.kind=7) (d:¬f.kind=12):perform S m f=Vv m:=by
 unfold perform Vv;simp only;rw[zA k,zA j,zA i,zA h,zA (by omega),zA d]
end Rt
theorem Ej:(Tryz.prog.info? 162).map (fun i=>(i.zero,i.size,i.bytes))=Q (Q (L #[J U 0,J U 0,J U 0,J U 0,J U 0]),5,40):=by kernel_rfl
theorem gH (h:¬G m.zH < 2):∃fs f,m.zH=fs++[f]/\1<=G fs/\m.zH.getLastD Rt.Qe=f/\m.zH.dropLast=fs:=by
 have d:m.zH≠[]:=by intro e;rw[e]at h;simp at h
 refine⟨m.zH.dropLast,m.zH.getLast d,(xj d).symm,by rw[XU];omega,?_,rfl⟩;rw[xk,xd d];rfl
theorem iq {X:ZK} (h:jz w M B ty tail S m X) (d:List Rt.Fm) (f:Rt.Fm) (x:m.zH=d++[f]) (k:G m.zH<=1000):Calls Tryz.prog 184 #[H (Q ⟨M,0,Z⟩)] w fun e w'=>e=T (E #[])/\∃X',Z8 M B ty tail S X X' { m with zH:=d } w w':=by
 obtain⟨g,cap,j,y⟩:∃g cap,X.fv=I (Q ⟨g,0,Z⟩) (G d+1) cap/\G d+1<=cap:=by
  have h1:=h.zH;rw[x,ze,yl]at h1;rcases h1.2 with⟨e,e2⟩| ⟨g,cap,cur,e,_,_,e3,_⟩
  ·simp at e2
  ·exact⟨g,cap,e,e3⟩
 have A:=h.c2;rw[j]at A;have L:=h.fz 2;have F:G d+1<=1000:=by rw[x]at k;simpa using k
 have z:IntKind.i64.wrap (G d:Int)=(G d:Int):=by rw[yv,yC _ (by omega)]
 have J:(G d:Int)<=(cap:Int):=by omega
 have o:=zQ h.block;have i:=h.DD (w1:=w.drew) d f x g cap j (zh w);have D:=zD (show Z8 M B ty tail S X _ { m with zH:=d } w _ from⟨i.1,i.2.1,i.2.2,o⟩);go_enter func184,ntmps184;go_wp2_with fail;go_region_law (fail)
 all_goals
  go_wp2;go_end0;exact⟨rfl,_,D.u⟩
end
namespace Rt
theorem VG (S:Src) (m:Mc):∀(vs:List (List qM)) (acc:List Int),(argsI S m vs acc).2=0->(argsI S m vs acc).1.length=G acc+G vs
 | [],acc,_=>by simp[argsI]
 | e::r,acc,h=>by
  rw[argsI]at h ⊢;split
  ·next he=>
   rw[zE he]at h;rw[VG S m r _ h];simp;omega
  ·next he=>rw[zA he]at h;exact absurd h he
end Rt
structure Good (S:Rt.Src):Prop where
 small:∀n,Rt.Small (Rt.yA S.zL n)
 fwd:mX S.zL S.lk
 Zi:dL S (Rt.firstM S)
structure XW (S:Rt.Src) (m:Rt.Mc):Prop where
 Zi:dL S m
 lo:1<=m.zH.length
 hi:m.zH.length<=6
 out:m.output.length<=50
theorem lI (h:XW S m) (s:Rt.Q9) (v:Int):XW S (Rt.jN m s v):=by
 unfold Rt.jN;split
 ·split
  ·refine⟨⟨h.Zi.zL,h.Zi.input,h.Zi.zH,by simpa using h.Zi.values,h.Zi.output,h.Zi.params,?_,h.Zi.ZX⟩,h.lo,h.hi,h.out⟩;intro l d;obtain⟨i,f,rfl⟩:=XT.mp d;simp only[jW];split
   ·rw[jD];exact h.Zi.cells _ (zj _)
   ·exact h.Zi.cells _ (zj _)
  ·refine⟨⟨h.Zi.zL,h.Zi.input,by simpa using h.Zi.zH,h.Zi.values,h.Zi.output,?_,h.Zi.cells,h.Zi.ZX⟩,by simpa using h.lo,by simpa using h.hi,h.out⟩;intro l d;obtain⟨i,f,rfl⟩:=XT.mp d;simp only[jW];split
   ·simp only[jD];exact h.Zi.params _ (zj _)
   ·exact h.Zi.params _ (zj _)
 ·exact h
theorem iY (h:XW S m) {f:Rt.qS} (j:Rt.Small f):XW S (Rt.perform S m f).m:=by
 have d:=h.lo;have i:=h.hi;unfold Rt.perform;simp only
 repeat' split
 all_goals first
  | exact h
  | exact lI h _ _
  | skip
 ·exact⟨⟨h.Zi.zL,h.Zi.input,h.Zi.zH,h.Zi.values,by simp;omega,h.Zi.params,h.Zi.cells,h.Zi.ZX⟩,h.lo,h.hi,by simp;omega⟩
 ·have:=lI h (Rt.vx S m f.name) ((S.input[m.taken.toNat]?).getD 0);exact⟨⟨this.Zi.zL,this.Zi.input,this.Zi.zH,this.Zi.values,this.Zi.output,this.Zi.params,this.Zi.cells,this.Zi.ZX⟩,this.lo,this.hi,this.out⟩
 ·next ha hn=>
  refine⟨⟨h.Zi.zL,h.Zi.input,by simp;omega,h.Zi.values,h.Zi.output,?_,h.Zi.cells,h.Zi.ZX⟩,by simp,by simp;omega,h.out⟩;intro g hg;rcases zd.mp hg with hg | hg
  ·exact h.Zi.params g hg
  ·rw[yN.mp hg];have:=VG S m f.values [] ha;have:=j.values;simp only[qQ]at *;omega
 ·refine⟨⟨h.Zi.zL,h.Zi.input,by simp;omega,h.Zi.values,h.Zi.output,fun g hg=>h.Zi.params g (vL _ hg),h.Zi.cells,h.Zi.ZX⟩,by simp;omega,by simp;omega,h.out⟩
theorem fK (d:Good S) (h:XW S m):XW S (Rt.qd S m).1:=by
 unfold Rt.qd;split
 ·simp only;split
  ·have:=iY h (f:=(Rt.yA S.zL m.line)) (d.small _);exact⟨⟨this.Zi.zL,this.Zi.input,this.Zi.zH,this.Zi.values,this.Zi.output,this.Zi.params,this.Zi.cells,this.Zi.ZX⟩,this.lo,this.hi,this.out⟩
  ·exact⟨⟨h.Zi.zL,h.Zi.input,h.Zi.zH,h.Zi.values,h.Zi.output,h.Zi.params,h.Zi.cells,h.Zi.ZX⟩,h.lo,h.hi,h.out⟩
 ·exact h
theorem ph (d:Good S):XW S (Rt.firstM S):=⟨d.Zi,by simp[Rt.firstM],by simp[Rt.firstM],by simp[Rt.firstM]⟩
namespace Rf
open Rt
theorem AG (S:Rt.Src) (m:Mc) (x:Ia) (e:List qM):perform S m ⟨8,x,0,[],[],[e]⟩=if (zr S m e).2=0 then ⟨0,wrap64 (m.line+1),[stay m.line,Rt.stored m (vx S m x)],jN m (vx S m x) (zr S m e).1⟩else ended m (zr S m e).2:=by
 rfl
theorem AF (S:Rt.Src) (m:Mc) (x:Ia) (i e:List qM):perform S m ⟨9,x,0,[],i,[e]⟩=if (zr S m i).2=0 then (if (zr S m e).2=0 then (if Q6 m ⟨(xb S.zL x:Nat),(zr S m i).1⟩=D then ⟨0,wrap64 (m.line+1),[stay m.line,Rt.stored m ⟨(xb S.zL x:Nat),(zr S m i).1⟩],jN m ⟨(xb S.zL x:Nat),(zr S m i).1⟩ (zr S m e).1⟩else ended m 3)else ended m (zr S m e).2)else ended m (zr S m i).2:=by
 simp only[perform,kP,Rt.kX];by_cases h:Q6 m ⟨(xb S.zL x:Nat),(zr S m i).1⟩=D
 ·rw[zE h,zE h];rfl
 ·rw[zA h,zA h];rfl
theorem sI (S:Rt.Src) (m:Mc) (e:List qM):perform S m ⟨10,⟨#[]⟩,0,[],[],[e]⟩=if (zr S m e).2=0 then (if 50<=G m.output then ended m 6 else ⟨0,wrap64 (m.line+1),[stay m.line,⟨5,0,⟨0,0⟩,0⟩],{ m with output:=m.output++[(zr S m e).1] }⟩)else ended m (zr S m e).2:=by
 rfl
theorem AH (S:Rt.Src) (m:Mc) (x:Ia):perform S m ⟨11,x,0,[],[],[]⟩=if m.taken < 0\/G S.input<=m.taken then ended m 4 else ⟨0,wrap64 (m.line+1),[stay m.line,Rt.stored m (vx S m x),⟨6,0,⟨0,0⟩,0⟩],{ jN m (vx S m x) ((S.input[m.taken.toNat]?).getD 0)with taken:=wrap64 (m.taken+1) }⟩:=by
 rfl
theorem oK (S:Rt.Src) (m:Mc) (k:Int) (hk:k=5\/k=7) (e:List qM):perform S m ⟨k,⟨#[]⟩,0,[],[],[e]⟩=if (zr S m e).2=0 then ⟨0,if (zr S m e).1=0 then ky S.lk m.line else wrap64 (m.line+1),[stay m.line],m⟩else ended m (zr S m e).2:=by
 rcases hk with rfl | rfl <;> rfl
theorem AJ (S:Rt.Src) (m:Mc) (x:Ia) (d:List (List qM)):perform S m ⟨12,x,0,[],[],d⟩=if (argsI S m d []).2=0 then (if 6<=G m.zH then ended m 5 else ⟨0,wrap64 (xb S.zL x+1),[⟨2,m.line,⟨0,0⟩,0⟩],{ m with zH:=m.zH++[⟨(argsI S m d []).1,m.line⟩] }⟩)else ended m (argsI S m d []).2:=by
 rfl
theorem sJ (S:Rt.Src) (m:Mc) (k:Int) (hk:k=13\/k=4):perform S m ⟨k,⟨#[]⟩,0,[],[],[]⟩=if (G m.zH) < 2 then ended m 1 else ⟨0,wrap64 ((m.zH.getLastD Qe).call+1),⟨3,m.line,⟨0,0⟩,(m.zH.getLastD Qe).call⟩::(m.zH.getLastD Qe).params.map (fun v=>⟨7,0,⟨0,0⟩,v⟩),{ m with zH:=m.zH.dropLast }⟩:=by
 rcases hk with rfl | rfl <;> rfl
section
variable {ps zL:List PL} {ls:List Ib} {S:Rt.Src} {m:Mc} (C:Ctx ps zL ls S) (F:KA ps zL ls S m) (hfin:m.fin = 0) {l:Nat} (h1:l < ps.length) (h2:m.line = (l:Int) + 1) (h4:xu ps l ≠ [])
include C h1 h2 h4
theorem Jh:((ps[l].form.kind=8\/ps[l].form.kind=11)->Rt.isVar zL (qJ S m) ps[l].form.name=D)/\(ps[l].form.kind=9->ZW zL (qJ S m) ps[l].form.name=D)/\(ps[l].form.kind=12->XF zL ps[l].form=D)/\
  (¬(ps[l].form.kind=1\/ps[l].form.kind=2\/ps[l].form.kind=3)->XP zL (qJ S m) ps[l].form.index=D/\∀e∈ps[l].form.values,XP zL (qJ S m) e=D):=by
 have d:=C.br l h1;have f:=(wv C h1 h2 h4).1;unfold qh at d;rw[aa C.dz h1]at d;unfold jF at d;rw[aa C.dz h1,<-f]at d;refine⟨fun hk=>?_,fun hk=>?_,fun hk=>?_,fun hk=>?_⟩
 ·rw[zA (by omega),zA (by omega),zE hk,zy]at d;exact d.1
 ·rw[zA (by omega),zA (by omega),zA (by omega),zE hk,zy]at d;exact d.1
 ·rw[zA (by omega),zA (by omega),zA (by omega),zA (by omega),zE hk,zy]at d;exact d.1
 ·have:(XP zL (qJ S m) ps[l].form.index && ps[l].form.values.all (XP zL (qJ S m)))=D:=by
   rw[zA (by omega),zA (by omega)]at d;split at d
   ·rw[zy]at d;exact d.2
   ·split at d
    ·rw[zy]at d;exact d.2
    ·split at d
     ·rw[zy]at d;exact d.2
     ·exact d
  rw[zy,vZ]at this;exact this
include F hfin
theorem lC {e:List qM} (f:ps[l].form=⟨8,x,0,[],[],[e]⟩):Step ps zL ls S m (if (zr S m e).2=0 then { vV ls (yT zL m) x (zr S m e).1 with line:=(jc ls (l+1):Nat) }else { yT zL m with fin:=(zr S m e).2 }) (if (zr S m e).2=0 then 2 else 1):=by
 have d:=AG S m x e;rw[<-f,<-Yz C h1 h2]at d;have I:=C.len;have i:=C.law.len;have E:=Y4 C F;by_cases h0:(zr S m e).2=0
 ·rw[zE h0]at d;rw[zE h0,zE h0];have h:=(Jh C h1 h2 h4).1 (Or.inl (by rw[f]));rw[f]at h;obtain⟨D,n2⟩:=K4 h4 (by rw[Qm h1,f];simp);obtain⟨A,H,z,G,y,o,j⟩:=fT m (vx S m x) (zr S m e).1;have:=Kx C F hfin h1 h2 h4 d rfl (k:=l+1) (by omega) (by show wrap64 (m.line+1)=_;rw[h2,Xt (by omega)]) D n2 A y o j (by show 0<=(jN m _ _).taken/\_;rw[z];exact F.taken);rw[oI E h E.ok.top]at this;exact this
 ·rw[zA h0]at d;rw[zA h0,zA h0];exact ZR F hfin d h0
theorem lB {i e:List qM} (h:ps[l].form=⟨9,x,0,[],i,[e]⟩):Step ps zL ls S m (if (zr S m i).2=0 then (if (zr S m e).2=0 then (if (zr S m i).1 < 0\/(((yT zL m).cells.getD (decl ls x) []).length:Int)<=(zr S m i).1 then { yT zL m with fin:=3 }else
   { yT zL m with cells:=(yT zL m).cells.set (decl ls x) (((yT zL m).cells.getD (decl ls x) []).set (zr S m i).1.toNat (zr S m e).1),line:=(jc ls (l+1):Nat) })else { yT zL m with fin:=(zr S m e).2 })else { yT zL m with fin:=(zr S m i).2 })
   (if (zr S m i).2=0 then (if (zr S m e).2=0 then (if (zr S m i).1 < 0\/(((yT zL m).cells.getD (decl ls x) []).length:Int)<=(zr S m i).1 then 1 else 2)else 1)else 1):=by
 have d:=AF S m x i e;rw[<-h,<-Yz C h1 h2]at d;have O:=C.len;have y:=C.law.len;have E:=Y4 C F;have j:=(Jh C h1 h2 h4).2.1 (by rw[h]);rw[h]at j;obtain⟨L,T,R⟩:=GD E j;by_cases hi:(zr S m i).2=0
 ·rw[zE hi]at d;rw[zE hi,zE hi];by_cases h0:(zr S m e).2=0
  ·rw[zE h0]at d;rw[zE h0,zE h0];have f:(Q6 m ⟨(xb S.zL x:Nat),(zr S m i).1⟩=D)↔¬((zr S m i).1 < 0\/(((yT zL m).cells.getD (decl ls x) []).length:Int)<=(zr S m i).1):=by
    rw[L];unfold Q6;simp only[yS];omega
   by_cases hh:(zr S m i).1 < 0\/(((yT zL m).cells.getD (decl ls x) []).length:Int)<=(zr S m i).1
   ·rw[zA (fun q=>f.mp q hh)]at d;rw[zE hh,zE hh];exact ZR F hfin d (by simp[ended])
   ·have o:=f.mpr hh;rw[zE o]at d;rw[zA hh,zA hh];obtain⟨J,n2⟩:=K4 h4 (by rw[Qm h1,h];simp);obtain⟨I,N,H,M,G,A,z⟩:=fT m ⟨(xb S.zL x:Nat),(zr S m i).1⟩ (zr S m e).1;have:=Kx C F hfin h1 h2 h4 d rfl (k:=l+1) (by omega) (by show wrap64 (m.line+1)=_;rw[h2,Xt (by omega)]) J n2 I G A z (by show 0<=(jN m _ _).taken/\_;rw[H];exact F.taken);rw[CD E j o]at this;exact this
  ·rw[zA h0]at d;rw[zA h0,zA h0];exact ZR F hfin d h0
 ·rw[zA hi]at d;rw[zA hi,zA hi];exact ZR F hfin d hi
theorem fI {e:List qM} (f:ps[l].form=⟨10,⟨#[]⟩,0,[],[],[e]⟩):Step ps zL ls S m (if (zr S m e).2=0 then (if 50<=G m.output then { yT zL m with fin:=6 }else { yT zL m with out:=m.output++[(zr S m e).1],line:=(jc ls (l+1):Nat) })else { yT zL m with fin:=(zr S m e).2 }) (if (zr S m e).2=0 then (if 50<=G m.output then 1 else 2)else 1):=by
 have d:=sI S m e;rw[<-f,<-Yz C h1 h2]at d;have j:=C.len;have h:=C.law.len;by_cases h0:(zr S m e).2=0
 ·rw[zE h0]at d;rw[zE h0,zE h0];by_cases ho:50<=G m.output
  ·rw[zE ho]at d;rw[zE ho,zE ho];exact ZR F hfin d (by simp[ended])
  ·rw[zA ho]at d;rw[zA ho,zA ho];obtain⟨i,n2⟩:=K4 h4 (by rw[Qm h1,f];simp);exact Kx C F hfin h1 h2 h4 d rfl (k:=l+1) (by omega) (by show wrap64 (m.line+1)=_;rw[h2,Xt (by omega)]) i n2 rfl rfl rfl rfl F.taken
 ·rw[zA h0]at d;rw[zA h0,zA h0];exact ZR F hfin d h0
theorem lD (I:G S.input<=100) (f:ps[l].form=⟨11,x,0,[],[],[]⟩):Step ps zL ls S m (if G S.input<=m.taken.toNat then { yT zL m with fin:=4 }else { vV ls (yT zL m) x (S.input.getD m.taken.toNat 0)with read:=m.taken.toNat+1,line:=(jc ls (l+1):Nat) }) (if G S.input<=m.taken.toNat then 1 else 3):=by
 have d:=AH S m x;rw[<-f,<-Yz C h1 h2]at d;have R:=C.len;have j:=C.law.len;have E:=Y4 C F;have O:=F.taken;by_cases h0:G S.input<=m.taken.toNat
 ·rw[zE (by omega)]at d;rw[zE h0,zE h0];exact ZR F hfin d (by simp[ended])
 ·rw[zA (by omega)]at d;rw[zA h0,zA h0];have i:=(Jh C h1 h2 h4).1 (Or.inr (by rw[f]));rw[f]at i;obtain⟨D,n2⟩:=K4 h4 (by rw[Qm h1,f];simp);obtain⟨A,N,M,L,z,y,o⟩:=fT m (vx S m x) ((S.input[m.taken.toNat]?).getD 0);have H:wrap64 (m.taken+1)=m.taken+1:=yC _ (by omega);rw[H]at d;have:=Kx C F hfin h1 h2 h4 d rfl (k:=l+1) (by omega) (by show wrap64 (m.line+1)=_;rw[h2,Xt (by omega)]) D n2 A z y o (by show 0<=m.taken+1/\m.taken+1<=_;omega);have h:=oI E i E.ok.top ((S.input[m.taken.toNat]?).getD 0);have J:yT zL { jN m (vx S m x) ((S.input[m.taken.toNat]?).getD 0)with taken:=m.taken+1 }={ vV ls (yT zL m) x (S.input.getD m.taken.toNat 0)with read:=m.taken.toNat+1 }:=by
   rw[xL,<-h];unfold yT;simp only[Pl.mk.injEq,jH,jJ];omega
  simp only[J]at this;exact this
theorem KK {k:Int} (i:k=5\/k=7) {e:List qM} (o:ps[l].form=⟨k,⟨#[]⟩,0,[],[],[e]⟩):Step ps zL ls S m (if (zr S m e).2=0 then { yT zL m with line:=(jc ls (if (zr S m e).1=0 then other ls l else l+1):Nat) }else { yT zL m with fin:=(zr S m e).2 }) 1:=by
 have d:=oK S m k i e;rw[<-o,<-Yz C h1 h2]at d;have L:=C.len;have x:=C.law.len;have h:kd ps l=5\/kd ps l=7:=by rw[Qm h1,o];exact i
 by_cases h0:(zr S m e).2=0
 ·rw[zE h0]at d;rw[zE h0];by_cases hz:(zr S m e).1=0
  ·rw[zE hz]at d;rw[zE hz];obtain⟨z,y⟩:=oV C.dz C.both C.law.len h1 h;obtain⟨j,J,I,H,G,D⟩:=CP C.dz (by omega) h1 h;have f:other ls l=j+1:=by omega
   exact Kx C F hfin h1 h2 h4 d rfl (k:=other ls l) y (by show ky S.lk m.line=_;rw[h2,C.lk,z]) (by rw[f];exact G) (by rw[f];exact D) rfl rfl rfl rfl F.taken
  ·rw[zA hz]at d;rw[zA hz];obtain⟨A,n2⟩:=K4 h4 (by omega);exact Kx C F hfin h1 h2 h4 d rfl (k:=l+1) (by omega) (by show wrap64 (m.line+1)=_;rw[h2,Xt (by omega)]) A n2 rfl rfl rfl rfl F.taken
 ·rw[zA h0]at d;rw[zA h0];exact ZR F hfin d h0
theorem lE {vs:List (List qM)} (I:ps[l].form=⟨12,x,0,[],[],vs⟩):0 < decl ls x/\decl ls x<=G ls/\Step ps zL ls S m (if (argsI S m vs []).2=0 then (if 6<=G m.zH then { yT zL m with fin:=5 }else { yT zL m with zH:=(yT zL m).zH++[⟨decl ls x,(argsI S m vs []).1,m.line⟩],line:=(jc ls (decl ls x):Nat) })else { yT zL m with fin:=(argsI S m vs []).2 }) 1:=by
 have h:=AJ S m x vs;rw[<-I,<-Yz C h1 h2]at h;have hl:=C.len;have Z:=C.law.len;have E:=Y4 C F;have i:=(Jh C h1 h2 h4).2.2.1 (by rw[I]);rw[I]at i;unfold XF at i;simp only[zy,yS]at i;have L:=az E (x:=x) (by rw[i.1];decide);have O:=Qb ls x;refine⟨L,O,?_⟩;by_cases h0:(argsI S m vs []).2=0
 ·rw[zE h0]at h;rw[zE h0];by_cases h6:6<=G m.zH
  ·rw[zE h6]at h;rw[zE h6];exact ZR F hfin h (by simp[ended])
  ·rw[zA h6]at h;rw[zA h6];have N:xb S.zL x=decl ls x:=by rw[C.Ja,XR,C.both.Xh]
   obtain⟨d,R⟩:∃d,decl ls x=d+1:=⟨decl ls x-1,by omega⟩;have H:d < G ps:=by omega
   have D:d < G ls:=by omega
   have o:kd ps d=3:=by
    have:=i.1;unfold yJ at this;rw[C.both.Xh,R,show ((d+1:Nat):Int)=(d:Int)+1 by omega,Xp C.dz H,<-Qm]at this;exact this
   have y:xu ps (d+1)=[(d+1,3)]:=by rw[opened (Or.inl o),eg C.dz H (by omega),o];rfl
   obtain⟨j,j1,W,j3,V,j5⟩:=C.stop (k:=d+1) (by omega) (by rw[y];simp);have A:((jc ls (d+1):Nat):Int)=(j:Int)+1:=by rw[j1];omega
   have z:kD zL ((jc ls (d+1):Nat):Int)=d+1:=by rw[A,C.kD W V,j5,y];rfl
   have T:(argsI S m vs []).1.length=G vs:=by
    have:=VG S m vs [] h0;simpa using this
   have M:d+1<=G ls:=by omega
   have J:wrap64 ((d+2:Nat):Int)=((d+2:Nat):Int):=ZO (d+2) (by omega);obtain⟨p1,p2⟩:=C.params D o;have U:G m.zH+1<=6:=by omega
   unfold Step;rw[fL hfin h rfl];simp only;rw[N,R,show ((d+1:Nat):Int)+1=((d+2:Nat):Int)from rfl,J,show ((d+2:Nat):Int)=((d+1:Nat):Int)+1 from rfl,C.go M];refine⟨?_,rfl,⟨⟨j,W,A,j3,V⟩,by simp,by simpa using U,?_,?_,F.VH,F.taken⟩⟩
   ·unfold yT;simp only[Pl.mk.injEq,jJ];rw[QX,z]
   ·intro f hm;simp only at hm;rw[QX,z]at hm;rcases zd.mp hm with hm | hm
    ·exact F.Gk f hm
    ·rw[yN.mp hm];refine⟨by simp,by show d+1<=_;omega,by rw[zu];exact p1,?_⟩;rw[zu,<-p2];show (argsI S m vs []).1.length=_;rw[T];have:=i.2;unfold yJ at this;rw[C.both.Xh,R,show ((d+1:Nat):Int)=(d:Int)+1 by omega]at this;exact this.symm
   ·intro f hm;simp only at hm;rw[Zc F.ne]at hm;rcases zd.mp hm with hm | hm
    ·exact F.calls f hm
    ·rw[yN.mp hm];exact⟨l,h1,h2,by rw[Qm h1,I]⟩
 ·rw[zA h0]at h;rw[zA h0];exact ZR F hfin h h0
theorem fJ {k:Int} (Z:k=13\/k=4) (hf:ps[l].form=⟨k,⟨#[]⟩,0,[],[],[]⟩):(G m.zH < 2->Step ps zL ls S m { yT zL m with fin:=1 } 1)/\
  (¬G m.zH < 2->∃c:Nat,c < G ls/\(top (yT zL m)).call=(c:Int)+1/\Step ps zL ls S m { yT zL m with zH:=(yT zL m).zH.dropLast,line:=(jc ls (c+1):Nat) } (1+(top (yT zL m)).args.length)):=by
 have d:=sJ S m k Z;have _:=h4;rw[<-hf,<-Yz C h1 h2]at d;have hl:=C.len;have O:=C.law.len;constructor
 ·intro D;rw[zE D]at d;exact ZR F hfin d (by simp[ended])
 ·intro D;rw[zA D]at d;obtain⟨pre,g,o⟩:∃pre g,m.zH=pre++[g]:=⟨_,_,nK F.ne⟩;have y:m.zH.getLastD Qe=g:=by rw[o,XV]
  have J:m.zH.dropLast=pre:=by rw[o,xo]
  have h:pre≠[]:=by intro e;rw[o,e]at D;simp at D
  obtain⟨c,R,L,c3⟩:=F.calls g (by rw[o,Zc h];simp);have A:=ZA C.dz R (show ¬(kd ps c=0\/kd ps c=1\/kd ps c=2\/kd ps c=3) by omega);obtain⟨T,n2⟩:=K4 A (by omega);obtain⟨j,W,N,V,M,U⟩:=C.stop (k:=c+1) (by omega) T;have x:((jc ls (c+1):Nat):Int)=(j:Int)+1:=by rw[W];omega
  have H:kD zL ((jc ls (c+1):Nat):Int)=kD zL g.call:=by rw[x,C.kD N M,U,n2,L,C.kD R A]
  have i:top (yT zL m)=⟨kD zL m.line,g.params,g.call⟩:=by rw[aO F.ne,y]
  rw[y,J,L,Xt (by omega)]at d;refine⟨c,by omega,by rw[i];exact L,?_⟩;unfold Step;rw[fL hfin d rfl];simp only;rw[C.go (by omega)];have z:frsOf zL m.zH m.line=frsOf zL pre ((jc ls (c+1):Nat):Int)++[⟨kD zL m.line,g.params,g.call⟩]:=by rw[o,QX,gR H]
  refine⟨?_,?_,⟨⟨j,N,x,V,M⟩,h,?_,?_,?_,F.VH,F.taken⟩⟩
  ·unfold yT;simp only[Pl.mk.injEq,jJ];rw[z,xo]
  ·rw[i,yE,qR,Xs]
  ·have:=F.VJ;rw[o]at this;simp at this;show G pre<=6;omega
  ·intro f I;exact F.Gk f (by rw[z];exact zY _ I)
  ·intro f I;refine F.calls f ?_;rw[o,Zc h];exact zY _ I
end
end Rf
theorem Yr (h:r∈yO X p):r.t=3\/r.t=130\/r.t=24:=by
 unfold yO at h;have d:∀(a:List Value) (b:List (List Int)),r∈List.zipWith zz a b->r.t=3:=by
  intro a
  induction a with
  | nil=>intro b hb;simp at hb
  | cons x a ih=>intro b hb;cases b with
   | nil=>simp at hb
   | cons y b=>
    rw[jT]at hb;rcases zw.mp hb with rfl | hb
    ·rfl
    ·exact ih b hb
 rcases zd.mp h with h | h
 ·simp only[zw,qb,Z2]at h;rcases h with rfl | rfl | rfl | rfl
  ·exact Or.inr (Or.inl rfl)
  ·exact Or.inl rfl
  ·exact Or.inr (Or.inr rfl)
  ·exact Or.inl rfl
 ·rcases zd.mp h with h | h
  ·exact Or.inl (d _ _ h)
  ·exact Or.inl (d _ _ h)
theorem vC.apart (h:vC w B P p X) (f:k∈xh (yO X p)):k≠P:=by
 obtain⟨r,hr,i⟩:=ju.mp f;obtain⟨c,d⟩:=yW (h.own.rows r hr) i;rintro rfl;rw[h.block]at d;injection d with d;injection d with _ d;rcases Yr hr with e | e | e <;> rw[e]at d <;> exact absurd d (by decide)
theorem vC.same (h:vC w B P p X) (f:∀k∈xh (yO X p),w'.heap[k]?=w.heap[k]?) (o:w'.heap[P]?=Q (V (jh X.fv X.vv X.cv X.ov p') 72 (0,0))) (d:yO X p'=yO X p) (i:G p'.zH=G p.zH) (j:G p'.cells=G p.cells):vC w' B P p' X:=
 ⟨o,by rw[d];exact⟨fun r hm=>yP (h.own.rows r hm) (fun g hg=>f g (qU hm hg)),h.own.apart⟩,by rw[i];exact h.fl,by rw[j];exact h.cl,by rw[d];exact h.new,h.here⟩
theorem vC.cell (h:vC w B P p X) (i:Nat) (v:Value) (o:(jh X.fv X.vv X.cv X.ov p).setIfInBounds i v=jh X.fv X.vv X.cv X.ov p') (d:yO X p'=yO X p) (f:G p'.zH=G p.zH) (j:G p'.cells=G p.cells):vC (w.setCell ⟨P,i,Z⟩ v) B P p' X/\Below B w (w.setCell ⟨P,i,Z⟩ v):=
 ⟨h.same (fun k hk=>zO w ⟨P,i,Z⟩ _ k (h.apart hk)) (by rw[zf h.block,o]) d f j,yx (zI B w) h.here _ _⟩
theorem vC.Qj (h:vC w B P p X) (n:Int):vC (w.setCell ⟨P,5,Z⟩ (J U n)) B P { p with line:=n } X/\Below B w (w.setCell ⟨P,5,Z⟩ (J U n)):=h.cell 5 _ rfl rfl rfl rfl
theorem vC.EG (h:vC w B P p X) (n:Nat):vC (w.setCell ⟨P,3,Z⟩ (J U n)) B P { p with read:=n } X/\Below B w (w.setCell ⟨P,3,Z⟩ (J U n)):=h.cell 3 _ rfl rfl rfl rfl
theorem vC.store (h:vC w B P p X) {C:List Rw} {l:List Int} {c:Nat} {x:Int} (i:yO X p=A++zz v l::C) (d:yO X p'=A++zz v (l.set c x)::C) (k:v.ownBlock=Q g) (F:jh X.fv X.vv X.cv X.ov p'=jh X.fv X.vv X.cv X.ov p) (y:G p'.zH=G p.zH) (z:G p'.cells=G p.cells):vC (w.setCell ⟨g,c,Z⟩ (J U x)) B P p' X/\Below B w (w.setCell ⟨g,c,Z⟩ (J U x)):=by
 have j:=h.own;have f:g∈xh (yO X p):=by rw[i];exact qU (r:=zz v l) (by simp) k
 rw[i]at j;obtain⟨o,_⟩:=lG j k c x;have D:xh (yO X p')=xh (yO X p):=by
  rw[i,d,jd,jd,ka,ka];rfl
 refine⟨⟨?_,by rw[d];exact o,by rw[y];exact h.fl,by rw[z];exact h.cl,by rw[D];exact h.new,h.here⟩,yx (zI B w) (h.new g f) _ _⟩;rw[zO w ⟨g,c,Z⟩ _ P (xK (h.apart f)),F];exact h.block
theorem vC.Fl (h:vC w B P p X) (f:X.vv.ownBlock=Q g) (d:Nat) (x:Int):vC (w.setCell ⟨g,d,Z⟩ (J U x)) B P { p with vars:=p.vars.set d x } X/\Below B w (w.setCell ⟨g,d,Z⟩ (J U x)):=
 h.store (A:=[jy X.fv X.xg p.zH]) rfl rfl f rfl rfl rfl
theorem vC.setArg (h:vC w B P p X) (k:i < G p.zH) (d:X.xg[i]?=some pv) (o:pv.ownBlock=some g) (c:Nat) (x:Int):vC (w.setCell ⟨g,c,Z⟩ (J U x)) B P { p with zH:=p.zH.modify i (fun f=>⟨f.proc,f.args.set c x,f.call⟩) } X/\Below B w (w.setCell ⟨g,c,Z⟩ (J U x)):=by
 have j:i < G X.xg:=by rw[h.fl];exact k
 have D:X.xg[i].ownBlock=some g:=by
  rw[zJ j]at d;injection d with d;rw[d];exact o
 obtain⟨Q,R,z,y⟩:=JA zz X.xg (p.zH.map Rf.Fr.args) i j (by simpa using k);refine h.store (A:=[jy X.fv X.xg p.zH,zz X.vv p.vars,YF X.cv X.kB (G p.cells),zz X.ov p.out]++Q) (C:=R++List.zipWith zz X.kB p.cells) (l:=(p.zH.map Rf.Fr.args)[i]'(by simpa using k)) ?_ ?_ D rfl (by simp) rfl
 ·unfold yO;rw[z];simp
 ·unfold yO;rw[Cd p.zH i (fun a=>a.set c x),y (fun a=>a.set c x)];simp only[jy,YK,dq X.xg p.zH i (fun a=>a.set c x)];simp
theorem vC.Fo (h:vC w B P p X) (o:i < G p.cells) (d:X.kB[i]?=some pv) (k:pv.ownBlock=some g) (c:Nat) (x:Int):vC (w.setCell ⟨g,c,Z⟩ (J U x)) B P { p with cells:=p.cells.set i (p.cells[i].set c x) } X/\Below B w (w.setCell ⟨g,c,Z⟩ (J U x)):=by
 have f:i < G X.kB:=by rw[h.cl];exact o
 have F:X.kB[i].ownBlock=some g:=by
  rw[zJ f]at d;injection d with d;rw[d];exact k
 obtain⟨Q,R,z,y⟩:=JA zz X.kB p.cells i f o;have D:p.cells.set i (p.cells[i].set c x)=p.cells.modify i (fun a=>a.set c x):=by
  apply qw
  ·simp
  ·intro j I H;rw[Zq,jW];split
   ·next e=>subst e;rfl
   ·rfl
 refine h.store (A:=[jy X.fv X.xg p.zH,zz X.vv p.vars,YF X.cv X.kB (G p.cells),zz X.ov p.out]++(List.zipWith zz X.xg (p.zH.map Rf.Fr.args)++Q)) (C:=R) (l:=p.cells[i]) ?_ ?_ F rfl rfl (by simp)
 ·unfold yO;rw[z];simp
 ·unfold yO;simp only[D,y (fun a=>a.set c x),YK];simp
theorem vC.EK (h:vC w B P p X) (R:B<=w.heap.size) (f:Below w.heap.size w wy) (x:Int) (z:wy.grownBy w1 X.ov.ownBlock) (d:Value) (A:w1.ownsRow 0 3 1 d (G p.out+1) (xR p.out++[J U x])) (M:∀g,d.ownBlock=Q g->X.ov.ownBlock=Q g\/w.heap.size<=g):vC (w1.setCell ⟨P,4,Z⟩ d) B P { p with out:=p.out++[x] } { X with ov:=d }/\Below B w (w1.setCell ⟨P,4,Z⟩ d):=by
 have y:∀k,k < w.heap.size->X.ov.ownBlock≠Q k->w1.heap[k]?=w.heap[k]?:=fun k hk hv=>(z.block k (zX hk f.size) (xK hv)).trans (f.block k hk);have F:X.ov.ownBlock≠Q P:=fun e=>h.apart (qU (r:=zz X.ov p.out) (by simp[yO]) e) rfl;have H:=zQ h.block;have L:w1.heap[P]?=Q (V (jh X.fv X.vv X.cv X.ov p) 72 (0,0)):=(y P H F).trans h.block;have O:=h.own;have j:yO X p=[jy X.fv X.xg p.zH,zz X.vv p.vars,YF X.cv X.kB (G p.cells)]++zz X.ov p.out::(List.zipWith zz X.xg (p.zH.map Rf.Fr.args)++List.zipWith zz X.kB p.cells):=by simp[yO]
 rw[j]at O;have D:zz d (p.out++[x])=⟨3,1,d,G p.out+1,xR p.out++[J U x]⟩:=by simp[zz,xR]
 obtain⟨I,o2⟩:=Own.swap (w':=w1) O (r':=zz d (p.out++[x])) y (by rw[D];exact A) M;have i:yO { X with ov:=d } { p with out:=p.out++[x] }=[jy X.fv X.xg p.zH,zz X.vv p.vars,YF X.cv X.kB (G p.cells)]++zz d (p.out++[x])::(List.zipWith zz X.xg (p.zH.map Rf.Fr.args)++List.zipWith zz X.kB p.cells):=by simp[yO]
 have o:∀k∈xh (yO { X with ov:=d } { p with out:=p.out++[x] }),B<=k:=by
  intro k hk;rw[i]at hk;rcases o2 k hk with hk | hk
  ·rw[<-j]at hk;exact h.new k hk
  ·omega
 have N:∀k∈xh (yO { X with ov:=d } { p with out:=p.out++[x] }),k≠P:=by
  intro k hk;rw[i]at hk;rcases o2 k hk with hk | hk
  ·rw[<-j]at hk;exact h.apart hk
  ·omega
 refine⟨⟨?_,?_,h.fl,h.cl,o,h.here⟩,?_⟩
 ·rw[zf L];rfl
 ·rw[<-i]at I;exact⟨fun r hm=>yP (I.rows r hm) (fun g z=>zO w1 ⟨P,4,Z⟩ _ g (N g (qU hm z))),I.apart⟩
 ·refine yx ?_ h.here _ _;refine⟨z.os.trans f.os,z.tape.trans f.tape,z.output.trans f.output,zi f.size z.size,fun k hk=>y k (by omega) (fun e=>?_)⟩;have:=h.new k (qU (r:=zz X.ov p.out) (by simp[yO]) e);omega
theorem vC.cU (h:vC w B P p X) (hB:B<=w.heap.size) (x:Below w.heap.size w wx) (i:Below wx.heap.size wx wy) (pv:Value) (f:Rf.Fr) (R:wx.ownsRow w.heap.size 3 1 pv (G f.args) (xR f.args)) (hg:wy.grownBy w1 X.fv.ownBlock) (d:Value) (z:w1.ownsRow 0 130 3 d (G p.zH+1) (frCells X.xg p.zH++[J U f.proc,pv,J U f.call])) (W:∀g,d.ownBlock=Q g->X.fv.ownBlock=Q g\/wx.heap.size<=g):vC (w1.setCell ⟨P,0,Z⟩ d) B P { p with zH:=p.zH++[f] } { X with fv:=d,xg:=X.xg++[pv] }/\Below B w (w1.setCell ⟨P,0,Z⟩ d):=by
 have F:∀k,k < wx.heap.size->X.fv.ownBlock≠Q k->w1.heap[k]?=wx.heap[k]?:=fun k hk hv=>(hg.block k (zX hk i.size) (xK hv)).trans (i.block k hk);have j:∀k,k < w.heap.size->X.fv.ownBlock≠Q k->w1.heap[k]?=w.heap[k]?:=fun k hk hv=>(F k (zX hk x.size) hv).trans (x.block k hk);have H:X.fv.ownBlock≠Q P:=fun e=>h.apart (qU (r:=jy X.fv X.xg p.zH) (by simp[yO]) e) rfl;have I:=zQ h.block;have T:w1.heap[P]?=Q (V (jh X.fv X.vv X.cv X.ov p) 72 (0,0)):=(j P I H).trans h.block;have O:=h.own.zP x;have M:∀g,pv.ownBlock=Q g->g∉xh (yO X p):=fun g hg hm=>by
  have h1:=h.own.lt g hm;have h2:=(R.lt g hg).1;omega
 have N:Own wx (([jy X.fv X.xg p.zH,zz X.vv p.vars,YF X.cv X.kB (G p.cells),zz X.ov p.out]++List.zipWith zz X.xg (p.zH.map Rf.Fr.args))++zz pv f.args::List.zipWith zz X.kB p.cells):=
  Own.add (by rw[yK];exact O) (vr R) (fun g hg=>by rw[yK];exact M g hg);have y:([jy X.fv X.xg p.zH,zz X.vv p.vars,YF X.cv X.kB (G p.cells),zz X.ov p.out]++List.zipWith zz X.xg (p.zH.map Rf.Fr.args))++zz pv f.args::List.zipWith zz X.kB p.cells=[]++jy X.fv X.xg p.zH::([zz X.vv p.vars,YF X.cv X.kB (G p.cells),zz X.ov p.out]++(List.zipWith zz X.xg (p.zH.map Rf.Fr.args)++zz pv f.args::List.zipWith zz X.kB p.cells)):=by simp
 have A:=N;rw[y]at A;have D:jy d (X.xg++[pv]) (p.zH++[f])=⟨130,3,d,G p.zH+1,frCells X.xg p.zH++[J U f.proc,pv,J U f.call]⟩:=by
  simp only[jy,Jr _ _ _ _ h.fl,ze,yl]
 obtain⟨L,o2⟩:=Own.swap (w':=w1) A (r':=jy d (X.xg++[pv]) (p.zH++[f])) F (by rw[D];exact z) W;have hz:List.zipWith zz (X.xg++[pv]) ((p.zH++[f]).map Rf.Fr.args)=List.zipWith zz X.xg (p.zH.map Rf.Fr.args)++[zz pv f.args]:=by
  rw[yB,kN (by rw[qR];exact h.fl)];rfl
 have o:yO { X with fv:=d,xg:=X.xg++[pv] } { p with zH:=p.zH++[f] }=[]++jy d (X.xg++[pv]) (p.zH++[f])::([zz X.vv p.vars,YF X.cv X.kB (G p.cells),zz X.ov p.out]++(List.zipWith zz X.xg (p.zH.map Rf.Fr.args)++zz pv f.args::List.zipWith zz X.kB p.cells)):=by
  unfold yO;simp only[hz,yK,yF,xN]
 have hcase:∀k∈xh (yO { X with fv:=d,xg:=X.xg++[pv] } { p with zH:=p.zH++[f] }),k∈xh (yO X p)\/w.heap.size<=k:=by
  intro k hk;rw[o]at hk;rcases o2 k hk with hk | hk
  ·rw[<-y]at hk;rcases Ji hk with hk | hk
   ·rw[yK]at hk;exact Or.inl hk
   ·exact Or.inr (R.lt k hk).1
  ·exact Or.inr (zi x.size hk)
 refine⟨⟨?_,?_,by simp[h.fl],h.cl,fun k hk=>?_,h.here⟩,?_⟩
 ·rw[zf T];rfl
 ·rw[<-o]at L;exact⟨fun r hm=>yP (L.rows r hm) (fun g hg=>zO w1 ⟨P,0,Z⟩ _ g (by
   show g≠P;rcases hcase g (qU hm hg)with hk | hk
   ·exact h.apart hk
   ·omega)),L.apart⟩
 ·rcases hcase k hk with hk | hk
  ·exact h.new k hk
  ·omega
 ·refine yx ?_ h.here _ _;refine⟨hg.os.trans (i.os.trans x.os),hg.tape.trans (i.tape.trans x.tape),hg.output.trans (i.output.trans x.output),zi (zi x.size i.size) hg.size,fun k hk=>j k (by omega) (fun e=>?_)⟩;have:=h.new k (qU (r:=jy X.fv X.xg p.zH) (by simp[yO]) e);omega
theorem vC.CG (h:vC w B P p X) (fs:List Rf.Fr) (f:Rf.Fr) (N:p.zH=fs++[f]) (g cap:Nat) (O:X.fv=I (Q ⟨g,0,Z⟩) (G fs+1) cap):vC (w.setCell ⟨P,0,Z⟩ (I (Q ⟨g,0,Z⟩) (G fs) cap)) B P { p with zH:=fs } { X with fv:=I (Q ⟨g,0,Z⟩) (G fs) cap,xg:=X.xg.dropLast }/\Below B w (w.setCell ⟨P,0,Z⟩ (I (Q ⟨g,0,Z⟩) (G fs) cap)):=by
 have j:=h.fl;rw[N,ze,yl]at j;obtain⟨xg,M,d⟩:∃xg M,X.xg=xg++[M]:=by
  have H:X.xg≠[]:=by intro e;rw[e]at j;simp at j
  exact⟨X.xg.dropLast,X.xg.getLast H,(xj H).symm⟩
 have J:G xg=G fs:=by rw[d]at j;simpa using j
 have L:X.xg.dropLast=xg:=by rw[d,xo]
 have y:w.ownsRow 0 130 3 (I (Q ⟨g,0,Z⟩) (G fs) cap) (G fs) (frCells xg fs):=by
  have R:=h.Jq;rw[N,d,O,Jr _ _ _ _ J]at R;obtain⟨U,q2⟩:=R;rcases q2 with⟨q2,_⟩| ⟨g',cap',cur,e,q3,q4,q5,q6,q7,q8⟩
  ·cases q2
  ·simp only[xJ,zx,Z9,jJ]at e;obtain⟨rfl,V,rfl⟩:=e;refine⟨by rw[Ke _ _ J],Or.inr ⟨g,cap,cur,rfl,q3,q4,by simp at q5;omega,q6,q7,?_⟩⟩;have:=qB (List.take (G fs*3)) q8;rw[Ko,J4 (by rw[Ke _ _ J])]at this;rw[<-this];congr 1;simp
 have A:yO X p=([jy X.fv X.xg p.zH,zz X.vv p.vars,YF X.cv X.kB (G p.cells),zz X.ov p.out]++List.zipWith zz xg (fs.map Rf.Fr.args))++zz M f.args::List.zipWith zz X.kB p.cells:=by
  have:List.zipWith zz X.xg (p.zH.map Rf.Fr.args)=List.zipWith zz xg (fs.map Rf.Fr.args)++[zz M f.args]:=by
   rw[N,d,yB,kN (by rw[qR];exact J)];rfl
  unfold yO;rw[this];simp
 have F:=h.own;rw[A]at F;have D:=F.drop;have z:[jy X.fv X.xg p.zH,zz X.vv p.vars,YF X.cv X.kB (G p.cells),zz X.ov p.out]++List.zipWith zz xg (fs.map Rf.Fr.args)++List.zipWith zz X.kB p.cells=[]++jy X.fv X.xg p.zH::([zz X.vv p.vars,YF X.cv X.kB (G p.cells),zz X.ov p.out]++(List.zipWith zz xg (fs.map Rf.Fr.args)++List.zipWith zz X.kB p.cells)):=by simp
 have x:∀k∈xh ([jy X.fv X.xg p.zH,zz X.vv p.vars,YF X.cv X.kB (G p.cells),zz X.ov p.out]++List.zipWith zz xg (fs.map Rf.Fr.args)++List.zipWith zz X.kB p.cells),k∈xh (yO X p):=fun k hk=>by rw[A];exact mP k hk
 rw[z]at D x;obtain⟨o1,o2⟩:=Own.swap (w':=w) D (r':=jy (I (Q ⟨g,0,Z⟩) (G fs) cap) xg fs) (fun k _ _=>rfl) y (fun k hk=>Or.inl (by show X.fv.ownBlock=Q k;rw[O];exact hk));have i:yO { X with fv:=I (Q ⟨g,0,Z⟩) (G fs) cap,xg:=X.xg.dropLast } { p with zH:=fs }=[]++jy (I (Q ⟨g,0,Z⟩) (G fs) cap) xg fs::([zz X.vv p.vars,YF X.cv X.kB (G p.cells),zz X.ov p.out]++(List.zipWith zz xg (fs.map Rf.Fr.args)++List.zipWith zz X.kB p.cells)):=by
  rw[L];rfl
 have o:∀k∈xh (yO { X with fv:=I (Q ⟨g,0,Z⟩) (G fs) cap,xg:=X.xg.dropLast } { p with zH:=fs }),k∈xh (yO X p):=by
  intro k hk;have T:k < w.heap.size:=by rw[i]at hk;exact o1.lt k hk
  rw[i]at hk;rcases o2 k hk with hk | hk
  ·exact x k hk
  ·omega
 refine⟨⟨?_,?_,by rw[L];exact J,h.cl,fun k hk=>h.new k (o k hk),h.here⟩,yx (zI B w) h.here _ _⟩
 ·rw[zf h.block];rfl
 ·rw[<-i]at o1;exact⟨fun r hm=>yP (o1.rows r hm) (fun g' hg=>zO w ⟨P,0,Z⟩ _ g' (h.apart (o g' (qU hm hg)))),o1.apart⟩
structure JW (w0 w:World) (S g cap:Nat) (ls:List Ib) (P:Nat) (p:Rf.Pl) (X:Qg):Prop where
 src:jA w0 S g cap ls
 iB:Below w0.heap.size w0 w
 pl:vC w w0.heap.size P p X
theorem JW.JZ {S:Nat} (h:JW w0 w S g cap ls P p X):jA w S g cap ls:=h.src.zP h.iB
theorem JW.zP {w0 w w':World} {S g cap:Nat} {ls:List Ib} {P:Nat} {p:Rf.Pl} {X:Qg} (h:JW w0 w S g cap ls P p X) (d:Below w.heap.size w w'):JW w0 w' S g cap ls P p X:=⟨h.src,h.iB.trans (d.mono (B':=w0.heap.size) h.iB.size),h.pl.zP d⟩
theorem JW.to {S:Nat} {X':Qg} (h:JW w0 w S g cap ls P p X) (d:vC w' w0.heap.size P p' X'/\Below w0.heap.size w w'):JW w0 w' S g cap ls P p' X':=⟨h.src,h.iB.trans d.2,d.1⟩
theorem vC.top {w:World} {B P:Nat} {p:Rf.Pl} {X:Qg} (h:vC w B P p X) {n:Nat} (M:G p.zH=n+1):∃b cap pv,X.xg[n]?=Q pv/\X.fv=I (Q ⟨b,0,Z⟩) (n+1) cap/\w.cell? ⟨P,0,Z⟩=Q (I (Q ⟨b,0,Z⟩) (n+1) cap)/\w.cell? ⟨b,n*3,Z⟩=Q (J U (Rf.top p).proc)/\
  w.cell? ⟨b,n*3+1,Z⟩=Q pv/\w.cell? ⟨b,n*3+2,Z⟩=Q (J U (Rf.top p).call)/\w.ownsRow 0 3 1 pv (Rf.top p).args.length (xR (Rf.top p).args):=by
 have i:n < G p.zH:=by omega
 have L:Rf.top p=p.zH[n]:=by
  unfold Rf.top;rw[xL,show (G p.zH)-1=n by omega,zJ (by omega)];rfl
 obtain⟨H,F,D⟩:=YN X.xg p.zH h.fl n i;obtain⟨b,cap,j,_,_,A⟩:=yD h.Jq H;obtain⟨O,x,f,_,_,z⟩:=yD h.Jq F;obtain⟨N,o,d,_,_,y⟩:=yD h.Jq D;have k:w.cell? ⟨P,0,Z⟩=Q X.fv:=zC h.block 0 (by simp[jh]);rw[j]at f d k;injection f with f _ _;injection f with f;injection f with f;injection d with d _ _;injection d with d;injection d with d;subst f d;rw[M]at j k;rw[L];exact⟨b,cap,_,zJ _,j,k,A,z,y,h.Gr n i⟩
theorem pX {S:Nat} (x:Ia) (v:Int) (h:JW w0 w S g cap ls P p X) (hL:Lawful ls) (M:V9 ls p):Calls Tryz.prog 155 #[H (Q ⟨S,0,Z⟩),H (Q ⟨P,0,Z⟩),O x,J U v] w fun e w'=>e=T (E #[])/\JW w0 w' S g cap ls P (Rf.vV ls p x v) X:=by
 obtain⟨n,hn⟩:∃n,G p.zH=n+1:=⟨G p.zH-1,by have:=M.some;omega⟩;have b5:=M.top;have b2:=M.VJ;rw[hn]at b2;have a4:=M.vars;obtain⟨b,cp,f6,L,f4,c0,c1,c2,c3,a1⟩:=h.pl.top hn;have a9:=zD L;obtain⟨fl,fh,f2,fa⟩:=b5;have HV:Hd (Rf.vV ls p x v=_):=zD (by unfold Rf.vV;rfl);have HG:=zD h;have a2:=zD hL;have d7:=zD a1;have HN:=zD hn;have a6:=hL.len;obtain⟨y,a5⟩:∃q,(Rf.top p).proc=q+1:=⟨(Rf.top p).proc-1,by omega⟩;rw[a5]at fl fh f2 fa HV c1;rw[zu]at f2 fa;have k:y < G ls:=by omega
 rw[yq k]at f2 fa;rw[show ((y+1:Nat):Int)=(y:Int)+1 by omega]at c1;have f0:IntKind.i64.wrap (n:Int)=n:=zl _ ⟨by omega,by omega⟩;have f3:(n:Int) < (n:Int)+1:=by omega
 have d4:=zD fa;have d5:=zD f2;have d1:=zD a4;obtain⟨F,o,a0⟩:=zK a1;have a3:=zD a0;rw[a0]at c2;generalize (Rf.top p).call=fcall at *;generalize b6:(Rf.top p).args=farg at *;clear fa f2 a4 a5 fl fh a1 a0 hn;go_enter func155,ntmps155;go_wp2_with fail;go_region_held3 (fun w'=>w'.cell? ⟨P,0,Z⟩=Q (I (Q ⟨b,0,Z⟩) (n+1) cp)/\w'.cell? ⟨b,n*3,Z⟩=Q (J U ((y:Int)+1))/\w'.cell? ⟨b,n*3+1,Z⟩=Q (I F (G farg) o)/\w'.cell? ⟨b,n*3+2,Z⟩=Q (J U fcall)) (go_keep) (fail);have a8:=((zI w.heap.size w).alloc (zB _) (V #[J U ((y:Int)+1),I F (G farg) o,J U fcall] 130)).drew;have a7:(w.alloc (V #[J U ((y:Int)+1),I F (G farg) o,J U fcall] 130)).drew.heap[w.heap.size]?=Q (V #[J U ((y:Int)+1),I F (G farg) o,J U fcall] 130 (0,0)):=zN w _;generalize (w.alloc (V #[J U ((y:Int)+1),I F (G farg) o,J U fcall] 130)).drew=w1 at *;have k0:=zC a7 0 (by simp);simp only[yQ,zv]at k0;have N:=XX (HG.u.zP a8) a7 (yG d7.u a8);go_wp2_with fail;refine(Jd y N.u.1.JZ k a6 d5.u (a2.u.XO k).1).mono ?_;rintro e w2 ⟨pv,rfl,L,W⟩;have f1:(ls[y].drop 2).length<=1000:=by have:=(a2.u.XO k).1;simp;omega
 have A:=XX (N.u.1.zP W) (zU N.u.2.1 W) (yG N.u.2.2 W);have d2:=zD L;obtain⟨d9,d8,rfl,_⟩:=L.form;have b4:=uf (ls[y].drop 2) x;have b0:XZ ls (y+1)=ls[y].drop 2:=by rw[XZ,zu,yq k]
 rw[b0]at HV;have b9:(G farg:Int)=((ls[y].drop 2).length:Int):=by rw[d4.u];simp
 generalize ls[y].drop 2=ps at *;go_wp2_with fail;refine(lr x d2.u (by omega)).mono ?_;rintro e w' ⟨rfl,rfl⟩;have d6:=zD b9;generalize Rf.index ps x=ix at *;have d3:=zD b4;have k1:=zC A.u.2.1 1 (by simp);simp only[yQ,yH,zv]at k1;by_cases hi:0<=ix
 ·rw[zE hi]at HV;obtain⟨i,rfl⟩:=yr hi;have b3:i < G farg:=by have:=d6.u;have:=d3.u;omega
  have b1:n < G p.zH:=by rw[HN.u];omega
  obtain⟨ab,d0,he,_,_,ci⟩:=yD A.u.2.2 (j:=i) (u:=J U farg[i]) (by simp[xR,b3]);rw[a3.u]at he;injection he with e1 _ e2;subst e1 e2;obtain⟨cc,R⟩:=yW A.u.2.2 (g:=ab) (by rw[a3.u];rfl);have z:=zS R i;have HF:=zD (A.u.1.to (A.u.1.pl.setArg b1 a9.u (g:=ab) (by rw[a3.u];rfl) i v));have HR:Hd (Rf.vV ls p x v={ p with zH:=p.zH.modify n (fun f=>⟨f.proc,f.args.set i v,f.call⟩) }):=zD (by rw[HV.u,HN.u];rfl);generalize farg[i]=r at *;go_wp2_with fail;refine zT (v:=E #[]) ?_ rfl ⟨rfl,by rw[HR.u];exact HF.u⟩;simp[results,results155,go_sem]
 ·rw[zA hi]at HV;go_wp2_with fail;refine(qg x A.u.1.JZ a2.u).mono ?_;rintro e w3 ⟨rfl,b8⟩;have D:=A.u.1.zP b8;have f5:=Qb ls x;have b7:Rf.decl ls x < G p.vars:=by have:=d1.u;omega
  obtain⟨vb,vc,he,_,_,ci⟩:=yD D.pl.wJ (j:=Rf.decl ls x) (u:=J U p.vars[Rf.decl ls x]) (by simp[xR,b7]);obtain⟨cc,R⟩:=yW D.pl.wJ (g:=vb) (by rw[he];rfl);have z:=zS R (Rf.decl ls x);have cv:w3.cell? ⟨P,1,Z⟩=Q X.vv:=zC D.pl.block 1 (by simp[jh]);rw[he]at cv;have HF:=zD (D.to (D.pl.Fl (g:=vb) (by rw[he];rfl) (Rf.decl ls x) v));generalize p.vars[Rf.decl ls x]=r at *;generalize Rf.decl ls x=d at *;go_wp2;go_end0;exact⟨rfl,by rw[HV.u];exact HF.u⟩
theorem JW.read {w0 w:World} {S g cap:Nat} {ls:List Ib} {P:Nat} {p:Rf.Pl} {X:Qg} (h:JW w0 w S g cap ls P p X) (d:V9 ls p):Dv w P p:=h.pl.read d.some (by have:=d.cells;omega)
theorem mn {S:Nat} {r:Int×Int} (h:JW w0 w S g cap ls P p X) (D:xA w0 v t) (L:Y8 t) (hL:Lawful ls) (j:V9 ls p) (hk:Rf.behind t=2) (k:3<=G t) (hw:Z5 ls p r (t.drop 3)) (i:p'=if r.2=0 then Rf.vV ls p t[1] r.1 else p):Calls Tryz.prog 96 #[H (Q ⟨S,0,Z⟩),H (Q ⟨P,0,Z⟩),v] w fun e w'=>e=T (J U r.2)/\JW w0 w' S g cap ls P p' X:=by
 have V:=zD h;have M:=zD (D.zP h.iB);have HF:=zD L;have N:=zD hL;have z:=zD j;have HW:=zD hw;have hl:=L.1;obtain⟨ad,cp,rfl,a2⟩:=D.form;obtain⟨tb,d,rfl⟩:=D.qZ (by intro h;rw[h]at k;simp at k);have F:1 < G t:=by omega
 have a1:(1:Int) < (G t:Int):=by omega
 have a0:(3:Int)<=(G t:Int):=by omega
 have HC:Hd (∀w',xA w' (I (Q ⟨tb,d,Z⟩) (G t) cp) t->w'.cell? ⟨tb,d+1,Z⟩=Q (O t[1])):=zD (by
  intro w' h;obtain⟨b',o',cap',he,c0⟩:=h.cell F;simp at he;obtain⟨⟨rfl,rfl⟩,rfl⟩:=he;exact c0)
 have y:=zD i;clear h D L hL j hw i;generalize t[1]=x at *;go_enter func96,ntmps96;go_wp2_with fail;refine(Jw M.u HF.u).mono ?_;rintro e w' ⟨rfl,rfl⟩;rw[hk];clear hk;go_wp2_with fail
 all_goals
  refine(HW.u _ S g cap P _ V.u.JZ (V.u.read z.u) (by first | exact xA.gone (by omega) rfl | exact M.u.drop 3 _ _ rfl (by omega))).mono ?_;rintro e w2 ⟨rfl,f⟩;have A:=zD (V.u.zP f);have ct:=HC.u _ (M.u.zP f);clear f;obtain⟨r1,r2⟩:=r;by_cases hr:r2=0
  ·subst hr;go_wp2_with fail;refine(pX x r1 A.u N.u z.u).mono ?_;rintro e w3 ⟨rfl,o⟩;have R:=zD o;clear o;go_wp2;go_ret;exact⟨rfl,by rw[y.u.trans (zE (by first | rfl | trivial))];exact R.u⟩
  ·have a3:(r2==0)=W:=by simpa using hr
   go_wp2;go_ret;exact⟨rfl,by rw[y.u.trans (zA hr)];exact A.u⟩
theorem vC.bW (h:vC w B P p X) (f:d < G p.cells):∃cb cc pv,X.kB[d]?=Q pv/\w.cell? ⟨P,2,Z⟩=Q (I (Q ⟨cb,0,Z⟩) (G p.cells) cc)/\w.cell? ⟨cb,d,Z⟩=Q pv/\w.ownsRow 0 3 1 pv (p.cells.getD d []).length (xR (p.cells.getD d [])):=by
 obtain⟨cb,cc,k,_,_,x⟩:=yD h.eB (j:=d) (zJ (by rw[h.cl];exact f));have o:w.cell? ⟨P,2,Z⟩=Q X.cv:=zC h.block 2 (by simp[jh]);have i:p.cells.getD d []=p.cells[d]:=by simp[f]
 rw[k]at o;exact⟨cb,cc,_,zJ (by rw[h.cl];exact f),o,x,by rw[i];exact h.Gl d f⟩
theorem vC.EH (h:vC w B P p X) (j:d < G p.cells) (f:X.kB[d]?=Q pv) (i:pv.ownBlock=Q g) (c:Nat) (x:Int):vC (w.setCell ⟨g,c,Z⟩ (J U x)) B P { p with cells:=p.cells.set d ((p.cells.getD d []).set c x) } X/\Below B w (w.setCell ⟨g,c,Z⟩ (J U x)):=by
 have:=h.Fo j f i c x;rw[show p.cells.getD d []=p.cells[d] by simp[j]];exact this
theorem mj {S:Nat} {a r:Int×Int} (h:JW w0 w S g cap ls P p X) (hV:xA w0 v t) (hf:Y8 t) (hL:Lawful ls) (b2:V9 ls p) (hk:Rf.behind t=k) (f5:4<=k) (b3:k < G t) (a9:Z5 ls p a ((t.take (k-1)).drop 3)) (a8:Z5 ls p r (t.drop (k+1))) (b9:1 < G t) (te:Int)  (b0:te=if a.2=0 then (if r.2=0 then (if a.1 < 0\/((p.cells.getD (Rf.decl ls t[1]) []).length:Int)<=a.1 then 3 else 0)else r.2)else a.2) (b1:p'=if a.2=0 then (if r.2=0 then (if a.1 < 0\/((p.cells.getD (Rf.decl ls t[1]) []).length:Int)<=a.1 then p else { p with cells:=p.cells.set (Rf.decl ls t[1]) ((p.cells.getD (Rf.decl ls t[1]) []).set a.1.toNat r.1) })else p)else p):Calls Tryz.prog 96 #[H (Q ⟨S,0,Z⟩),H (Q ⟨P,0,Z⟩),v] w fun e w'=>e=T (J U te)/\JW w0 w' S g cap ls P p' X:=by
 have HI:=zD h;have HV:=zD (hV.zP h.iB);have HF:=zD hf;have b7:=zD hL;have N:=zD b2;have HW:=qG a9 a8;have hl:=hf.1;obtain⟨ad,cp,rfl,f0⟩:=hV.form;obtain⟨tb,f,rfl⟩:=hV.qZ (by intro h;rw[h]at b3;simp at b3);have d5:(1:Int) < (G t:Int):=by omega
 have HC:Hd (∀w',xA w' (I (Q ⟨tb,f,Z⟩) (G t) cp) t->w'.cell? ⟨tb,f+1,Z⟩=Q (O t[1])):=zD (by
  intro w' h;obtain⟨b',o',cap',V,c0⟩:=h.cell b9;simp at V;obtain⟨⟨rfl,rfl⟩,rfl⟩:=V;exact c0)
 have HE:=qG b0 b1;clear h hV hf hL b2 a9 a8 b0 b1;generalize t[1]=x at *;have d6:(k:Int) < (G t:Int):=by omega
 have d7:(4:Int)<=(k:Int):=by omega
 go_enter func96,ntmps96;go_wp2_with fail;refine(Jw HV.u HF.u).mono ?_;rintro e w' ⟨rfl,rfl⟩;rw[hk];have f6:((k:Int)==2)=W:=by rw[zV];omega
 clear hk;go_wp2_with fail;refine(HW.u.1 _ S g cap P _ HI.u.JZ (HI.u.read N.u) (by first | exact HV.u.Ad 3 (k-1) _ _ (by omega) rfl (by omega)| exact HV.u.Ad 3 (k-1) _ _ (by omega) (by omega) (by omega))).mono ?_;rintro e w2 ⟨rfl,a6⟩;have F:=qG (HI.u.zP a6) (HV.u.zP a6);clear a6;obtain⟨a1,a2⟩:=a;obtain⟨r1,r2⟩:=r;by_cases ha:a2=0
 ·subst ha;go_wp2_with fail
  all_goals
   refine(HW.u.2 _ S g cap P _ F.u.1.JZ (F.u.1.read N.u) (by first | exact xA.gone (by omega) rfl | exact F.u.2.drop (k+1) _ _ rfl (by omega))).mono ?_;rintro e w3 ⟨rfl,a5⟩;have M:=qG (F.u.1.zP a5) (F.u.2.zP a5);clear a5;by_cases hr:r2=0
   ·subst hr;have ct:=HC.u _ M.u.2;have d1:=Qb ls x;have a3:Rf.decl ls x < G p.cells:=by have:=N.u.cells;omega
    have f2:G p.cells<=1000:=by have:=N.u.cells;have:=b7.u.len;omega
    have o:=qG (HE.u.1.trans ((zE (by first | rfl | trivial)).trans (zE (by first | rfl | trivial)))) (HE.u.2.trans ((zE (by first | rfl | trivial)).trans (zE (by first | rfl | trivial))));obtain⟨cb,cc,pv,R,c2,cd,y⟩:=M.u.1.pl.bW a3;obtain⟨d,hd⟩:∃d,d=Rf.decl ls x:=⟨_,rfl⟩;have HD:=zD hd;rw[<-hd]at o cd a3 R y;clear hd d1 HE;obtain⟨d2,b6,a0⟩:=zK y;have a7:=XX y R a0;rw[a0]at cd;generalize b4:p.cells.getD d []=cl at *;have d4:=zD b4;clear b4;have d9:(d:Int) < (G p.cells:Int):=by omega
    have f9:(0:Int)<=(d:Int):=by omega
    have HK:=XX c2 ct cd;clear y R a0;go_wp2_with fail;go_region_held3 (fun w'=>w'.cell? ⟨P,2,Z⟩=Q (I (Q ⟨cb,0,Z⟩) (G p.cells) cc)/\w'.cell? ⟨tb,f+1,Z⟩=Q (O x)/\w'.cell? ⟨cb,d,Z⟩=Q (I d2 (G cl) b6)) (first | go_keep | exact⟨cell_later (yh hb4) HK.u.1,cell_later (yh hb4) HK.u.2.1,cell_later (yh hb4) HK.u.2.2⟩) ((go_at_call 84;refine(qg x (M.u.1.JZ.zP (zh _)) b7.u).mono ?_;rintro e w4 ⟨rfl,hb4⟩;rw[<-HD.u]));have a4:=yh hb4;have A:=qG (M.u.1.zP a4) (yG a7.u.1 a4);clear hb4 a4 c2 ct cd;by_cases hlo:a1 < 0\/(G cl:Int)<=a1
    ·by_cases hneg:a1 < 0
     ·go_wp2;go_ret;exact⟨by rw[o.u.1.trans (zE hlo)];rfl,by rw[o.u.2.trans (zE hlo)];exact A.u.1⟩
     ·have f8:(G cl:Int)<=a1:=by omega
      go_wp2;go_ret;exact⟨by rw[o.u.1.trans (zE hlo)];rfl,by rw[o.u.2.trans (zE hlo)];exact A.u.1⟩
    ·obtain⟨i,rfl⟩:=yr (show 0<=a1 by omega);have d0:i < G cl:=by omega
     obtain⟨ib,ic,V,_,_,ci⟩:=yD A.u.2 (j:=i) (u:=J U cl[i]) (by simp[xR,d0]);obtain⟨g1,b5⟩:=yW A.u.2 (g:=ib) (by rw[V];rfl);have z:=zS b5 i;have L:=A.u.1.pl.EH a3 a7.u.2.1 (g:=ib) (by rw[V];rfl) i r1;rw[d4.u]at L;have d3:=zD (A.u.1.to L);rw[a7.u.2.2]at V;injection V with e1 _ e2;subst e1 e2;have b8:=qG (o.u.1.trans (zA hlo)) (o.u.2.trans (zA hlo));have d8:(i:Int) < (G cl:Int):=by omega
     have f7:(0:Int)<=(i:Int):=by omega
     have f3:¬(i:Int) < 0:=by omega
     have f4:¬(G cl:Int)<=(i:Int):=by omega
     clear b5 L hlo;generalize cl[i]=J8 at *;go_wp2;go_ret;exact⟨by rw[b8.u.1];rfl,by rw[b8.u.2];exact d3.u⟩
   ·have f1:(r2 != 0)=D:=by simpa using hr
    go_wp2;go_ret;exact⟨by rw[HE.u.1.trans ((zE (by first | rfl | trivial)).trans (zA hr))];rfl,by rw[HE.u.2.trans ((zE (by first | rfl | trivial)).trans (zA hr))];exact M.u.1⟩
 ·have g0:(a2 != 0)=D:=by simpa using ha
  go_wp2;go_ret;exact⟨by rw[HE.u.1.trans (zA ha)];rfl,by rw[HE.u.2.trans (zA ha)];exact F.u.1⟩
theorem ET {e:TypeId} {size:Nat} {ad:Option Addr} {xs:List Value} (h:w.ownsRow B e size (I ad n cap) n xs):n<=cap:=by
 rcases h.2 with⟨d,_⟩| ⟨g,c,cur,d,_,_,hnc,_⟩
 ·injection d with _ h1 h2;omega
 ·injection d with _ _ h2;omega
theorem nI {S:Nat} (h:JW w0 w S g cap ls P p X) (f:G p.zH=1):Calls Tryz.prog 98 #[H (Q ⟨S,0,Z⟩),H (Q ⟨P,0,Z⟩)] w fun e w'=>e=T (J U 1)/\JW w0 w' S g cap ls P p X:=by
 obtain⟨b,x,k,d,i,D,A,z,y,j⟩:=h.pl.top (n:=0) f;have o:=zD h;go_enter func98,ntmps98;go_wp2;go_ret;exact⟨rfl,o.u⟩
theorem nH {S:Nat} (n c:Nat) (h:JW w0 w S g cap ls P p X) (N:G p.zH=n+1+1) (a1:n<=100) (hc:(Rf.top p).call=(c:Int)+1) (a2:c < G ls) (hL:Lawful ls) (j:Rf.nested ls=0):Calls Tryz.prog 98 #[H (Q ⟨S,0,Z⟩),H (Q ⟨P,0,Z⟩)] w fun e w'=>e=T (J U 0)/\∃X',JW w0 w' S g cap ls P { p with zH:=p.zH.dropLast,line:=(Rf.jc ls (c+1):Nat) } X':=by
 obtain⟨b,cp,a6,a0,A,c0,c1,c2,c3,a3⟩:=h.pl.top (n:=n+1) N;have HI:=zD h;have y:=hL.len;rw[hc]at c3;have R:=h.pl.block;have c5:w.cell? ⟨P,5,Z⟩=Q (J U p.line):=zC R 5 (by simp[jh]);have z:=zS R;have M:=qG N A;have V:n+1+1<=cp:=by have:=h.pl.Jq;rw[A,N]at this;exact ET this
 have k:((n:Int)+1+1==1)=W:=by rw[zV];omega
 have HG:Hd (∀w',jA w' S g cap ls->Calls Tryz.prog 94 #[H (Q ⟨S,0,Z⟩),J U ((c:Int)+1+1)] w' fun e w''=>e=T (J U (Rf.jc ls (c+1)))/\Below w'.heap.size w' w''):=zD (fun w' hG=>by
  have:=ai (c+1) hG (by omega) y j;rw[show ((c+1:Nat):Int)+1=(c:Int)+1+1 by omega]at this;exact this)
 go_enter func98,ntmps98;go_wp2_with fail;refine(HG.u _ HI.u.JZ).mono ?_;rintro e w1 ⟨rfl,O⟩;have x:=HI.u.zP O;have F:=x.to (x.pl.Qj (Rf.jc ls (c+1):Nat));obtain⟨L,f,o⟩:∃L f,p.zH=L++[f]:=by
  have k:p.zH≠[]:=by intro e;have:=M.u.1;rw[e]at this;simp at this
  exact⟨p.zH.dropLast,p.zH.getLast k,(xj k).symm⟩
 have D:G L=n+1:=by have:=M.u.1;rw[o]at this;simp at this;omega
 have d:=F.pl.CG L f o b cp (by rw[D];exact M.u.2);rw[D]at d;have HF:=qG (F.to d) (show p.zH.dropLast=L by rw[o,xo]);have i:=x.pl.block;have a4:w1.cell? ⟨P,5,Z⟩=Q (J U p.line):=zC i 5 (by simp[jh]);have a5:w1.cell? ⟨P,0,Z⟩=Q (I (Q ⟨b,0,Z⟩) (n+1+1) cp):=by have:=zC i 0 (by simp[jh]);rw[this];exact qB Q M.u.2
 have z1:=zS i;go_wp2;go_ret;exact⟨rfl,_,by rw[HF.u.2];exact HF.u.1⟩
end Go.Proofs.YthleadfkfnnadaaGreat
