/- The first place, by both: plain. -/
import Derived.Test.YthleadfkfnnadaaGreatPlH
set_option maxHeartbeats 4000000
set_option maxRecDepth 100000
set_option linter.unusedSimpArgs false
namespace Go.Proofs.YthleadfkfnnadaaGreat
open Go.RowKit
namespace Rf
open Rt
theorem cg (zL:List PL):∀(r:List PL) (n:Nat),nameErr zL (n+1) r=0->∀(i:Nat) (p:PL),r[i]?=some p->qh zL (n+1+i) p=true
 | [],_,_,i,p,h=>by simp at h
 | q::r,n,h,i,p,hp=>by
  rw[nameErr]at h;split at h
  ·next hq=>
   cases i with
   | zero=>simp at hp;subst hp;exact hq
   | succ i=>
    have:=cg zL r (n+1) h i p (by simpa using hp);rw[show n+1+(i+1)=n+1+1+i by omega];exact this
  ·omega
theorem VU (x:ByteArray):∀(r:List PL) (n:Nat),0 < n->Rt.declFrom n r x≠0->∃i p,r[i]?=some p/\isDecl p x=true/\Rt.declFrom n r x=n+i
 | [],_,_,h=>absurd rfl h
 | q::r,n,hn,h=>by
  rw[Rt.declFrom]at h ⊢;split
  ·next hq=>exact⟨0,q,rfl,hq,rfl⟩
  ·next hq=>
   rw[zA hq]at h;obtain⟨i,p,f,d,j⟩:=VU x r (n+1) (by omega) h;exact⟨i+1,p,by simpa using f,d,by omega⟩
theorem DT {s:ByteArray} {zL:List PL} (G:List Int) (h:qx s=(0,0,zL)) (d:Lawful (vP s).2.2):Ctx ((rForms 0 (lines s) [kb]).2.drop 1) zL (vP s).2.2 (Zs s zL G):=by
 obtain⟨N,M,L,F,j⟩:=JG h;have A:=Fw L;have D:ZM zL (vP s).2.2:=by
  have:=(eR s).2.2 (by rw[h]);rw[h]at this;exact this
 refine⟨A,D,rfl,rfl,d,fun n hl=>?_,j,?_⟩
 ·have f:n+1 < zL.length:=by rw[A.len];omega
  have:=cg zL (zL.drop 1) 0 F n zL[n+1] (by rw[vp,Xs,zJ f]);rw[vU,zA (by omega),show ((n:Int)+1).toNat=n+1 by omega,zJ f];rw[show 0+1+n=n+1 by omega]at this;exact this
 ·have J:xb zL xP≠0:=fun e=>by
   rw[yJ,e,D.um]at j;exact absurd j (by decide)
  obtain⟨i,p,o,k,H⟩:=VU xP (zL.drop 1) 1 (by omega) J;have I:yJ zL xP=p.form:=by
   rw[yJ,show xb zL xP=1+i from H,yA,zA (by omega),xS];rw[vp]at o;rw[o];rfl
  have:=cg zL (zL.drop 1) 0 F i p o;rw[I]at j ⊢;unfold qh at this;rw[zA (by omega),zE j,zy]at this;have y:=this.2;unfold QJ at y;rw[zy]at y;have z:p.form.name=xP:=by
   unfold isDecl at k;simp at k;exact k.2
  have x:=y.1;rw[z,show (xP.toList==QN)=true by rw[show xP=⟨[109,97,105,110].toArray⟩from rfl,jl];decide]at x;simp at x;exact x
def Qr (zL:List PL) (k:Nat):Nat:=if (yA zL ((k:Int)+1)).kind=2 then (yA zL ((k:Int)+1)).cells.toNat else 0
def qu (ls:List (List ByteArray)) (D:Nat) (cn:Nat->Nat):Pl:=⟨[⟨D+1,[],0⟩],List.replicate (ls.length+1) 0,[]::(List.range ls.length).map (fun k=>List.replicate (cn k) 0),0,[],(jc ls (D+1):Nat),0⟩
section
variable {ps zL:List PL} {ls:List (List ByteArray)} {S:Rt.Src}
theorem Ctx.F5 (C:Ctx ps zL ls S):∃D:Nat,decl ls Yk=D+1/\D < ls.length/\kd ps D=3/\xu ps (D+1)=[(D+1,3)]/\xb S.zL xP=D+1:=by
 have j:decl ls Yk≠0:=fun e=>by
  have f:=C.main;rw[yJ,C.both.Xh,show decl ls xP=0 from e,C.both.um]at f;exact absurd f (by decide)
 have o:=Qb ls Yk;obtain⟨D,i⟩:∃D,decl ls Yk=D+1:=⟨decl ls Yk-1,by omega⟩;have k:=C.len;have d:D < ps.length:=by omega
 have h:kd ps D=3:=by
  have f:=C.main;rw[yJ,C.both.Xh,show decl ls xP=D+1 from i,show ((D+1:Nat):Int)=(D:Int)+1 from rfl,Xp C.dz d,<-Qm]at f;exact f
 refine⟨D,i,by omega,h,?_,?_⟩
 ·rw[opened (Or.inl h),eg C.dz d (by omega),h];rfl
 ·rw[C.Ja,XR,C.both.Xh];exact i
theorem gU (C:Ctx ps zL ls S):KA ps zL ls S (firstM S)/\∃D,decl ls Yk=D+1/\D < ls.length/\yT zL (firstM S)=qu ls D (Qr zL):=by
 obtain⟨D,O,N,d3,M,d5⟩:=C.F5;have L:=C.law.len;obtain⟨j,V,H,U,G,T⟩:=C.stop (k:=D+1) (by omega) (by rw[M];simp);have J:(firstM S).line=(jc ls (D+1):Nat):=by
  show goOn S.zL S.lk 102 (wrap64 ((xb S.zL xP:Nat)+1))=_;rw[d5,<-C.go (by omega:D+1<=ls.length)];congr 1;exact yC _ (by omega)
 have y:(firstM S).line=(j:Int)+1:=by rw[J,V];omega
 have o:kD zL (firstM S).line=D+1:=by rw[y,C.kD H G,T,M];rfl
 obtain⟨R,F⟩:=C.params N d3;have A:(yA zL ((D:Int)+1)).params=[]:=by
  have:=C.Gf;rw[yJ,C.both.Xh,show decl ls xP=D+1 from O]at this;exact this
 rw[A]at F;have d:(firstM S).values=zL.map (fun p=>ji p.form):=by
  show S.zL.map _=_;rw[C.Ja,Jz];rfl
 have x:=C.both.len;refine⟨⟨⟨j,H,y,U,G⟩,by simp[firstM],by simp[firstM],?_,?_,?_,?_⟩,D,O,N,?_⟩
 ·intro f z;have:f=⟨D+1,[],0⟩:=by
   have:frsOf zL (firstM S).zH (firstM S).line=[⟨kD zL (firstM S).line,[],0⟩]:=rfl;rw[this,o]at z;simpa using z
  rw[this];exact⟨by simp,by show D+1<=_;omega,by rw[zu];exact R,by rw[zu];exact F⟩
 ·intro f z;simp[firstM]at z
 ·rw[d,Jz];rfl
 ·simp[firstM]
 ·unfold yT qu;have I:∀l:Nat,l < zL.length->((firstM S).values[l]?).getD []=ji (yA zL (l:Nat)):=fun l h=>by
   rw[d,yt,zJ h,yA,zA (by omega),xS,zJ h];rfl
  simp only[Pl.mk.injEq];refine⟨?_,?_,?_,rfl,rfl,J,rfl⟩
  ·show [_]=[_];rw[o];rfl
  ·unfold varsOf;apply qw
   ·simp[x]
   ·intro i Z h2;simp only[qc,vn,List.getElem_replicate];split
    ·next hk=>
     rw[I i (by simpa using Z)];unfold ji;rw[zE hk];rfl
    ·rfl
  ·unfold Q8;rw[x,List.range_succ_eq_map,qp,Jz];congr 1
   ·rw[C.both.um];rfl
   ·refine vT (fun k hk=>?_);have W:k < ls.length:=by simpa using hk
    show (if (yA zL ((k+1:Nat):Int)).kind=2 then _ else _)=_;rw[show ((k+1:Nat):Int)=(k:Int)+1 from rfl];unfold Qr;split
    ·next hk2=>
     have:=I (k+1) (by omega);rw[show ((k+1:Nat):Int)=(k:Int)+1 from rfl]at this;show ((firstM S).values[k+1]?).getD []=_;rw[this];unfold ji;rw[zA (by omega)]
    ·rfl
theorem rM (C:Ctx ps zL ls S) {k:Nat} (f:k < ls.length):(((first ls[k]).toList==[97,114,114,97,121])=true->∃h:2 < ls[k].length,worth ls[k][2]=(Qr zL k:Nat)/\Qr zL k<=1000)/\(((first ls[k]).toList==[97,114,114,97,121])=false->Qr zL k=0):=by
 have hf:=C.both.form f;obtain⟨_,_,d,_⟩:=Ya hf;rw[show ((k+1:Nat):Int)=(k:Int)+1 from rfl]at hf d;unfold Qr;generalize ls[k]=t at *;generalize yA zL ((k:Int)+1)=fm at *;rw[d];cases hf with
 | array x n hx hn h1 h2=>exact⟨fun _=>⟨by simp,by simp;omega,by simp;omega⟩,fun h=>by simp[idx]at h⟩
 | _=>exact⟨fun h=>by simp[idx]at h,fun _=>rfl⟩
end
end Rf
end Go.Proofs.YthleadfkfnnadaaGreat
