/- The document's answer: a step from a machine's place, for branches, calls, returns; then for every line. -/
import Derived.Test.YthleadfkfnnadaaGreatRgU
set_option maxHeartbeats 4000000
set_option maxRecDepth 100000
set_option linter.unusedSimpArgs false
namespace Go.Proofs.YthleadfkfnnadaaGreat
open Rt
open Go.RowKit
variable {x y z:ByteArray} {k:Int} {ls:List (List ByteArray)} {t u p q:List ByteArray} {S:Rt.Src} {w:World}
namespace Rf
open Rt
theorem vm (h:Y8 t) (f:u.length<=t.length) (d:∀x∈u,x∈t):Y8 u:=⟨by have:=h.1;omega,fun x hx=>h.2 x (d x hx)⟩
theorem mH (S:Rt.Src) (m:Mc):∀(e:List qM) (st:List Int),(evalI S m e st).2≠0->(evalI S m e st).1=0
 | [],st,h=>absurd rfl h
 | o::r,st,h=>by
  rw[evalI]at h ⊢;split
  ·next h0=>rw[zE h0]at h;exact mH S m r _ h
  ·rfl
theorem Ch (l:List UInt8) (r:List UInt8):((⟨l.toArray⟩:ByteArray).toList==r)=(l==r):=by rw[jl]
theorem fg (h:yg x=true\/xi x=true):(x.toList==[45])=false/\(x.toList==[40])=false:=by
 constructor
 ·rw[ZF,kH];exact Jm h 45 (by decide) (by decide)
 ·rw[ZF,kH];exact Jm h 40 (by decide) (by decide)
theorem EY (h:yg x=true):xi x=false:=by
 cases hn:xi x with
 | false=>rfl
 | true=>
  exfalso;simp[yg]at h;simp[xi]at hn;have f:=h.1.2;have d:=hn.2;simp[qt]at f;simp[jo]at d;omega
theorem BP (p:List ByteArray) (o:ByteArray) (q:List ByteArray):(p++o::q).take p.length=p/\(p++o::q).drop (p.length+1)=q/\∃h:p.length < (p++o::q).length,(p++o::q)[p.length]=o:=by
 refine⟨by simp,?_,by simp,by simp⟩;rw[Zr,zp (by omega),show p.length+1-p.length=1 by omega];rfl
theorem rX:((x::(p++[y])).take ((x::(p++[y])).length-1)).drop 1=p:=by
 rw[show (x::(p++[y])).length-1=p.length+1 by simp,qz,jX,Yf,kG (zB _),Zp]
theorem BM {u:ByteArray}:((x::u::(p++[y])).take ((x::u::(p++[y])).length-1)).drop 2=p:=by
 rw[show (x::u::(p++[y])).length-1=p.length+2 by simp,qz,qz,jX,jX,Yf,kG (zB _),Zp]
section
variable {zL:List PL} {ls:List (List ByteArray)} {S:Rt.Src} {m:Mc}
theorem dI {o:ByteArray} {e f:List qM} (i:Y8 (p++o::q)) (h:split (p++o::q)=p.length) (d:kp vJ o=true\/kp kL o=true\/kp kF o=true) (k:Z5 ls (yT zL m) (zr S m e) p) (j:Z5 ls (yT zL m) (zr S m f) q) (w1:Whole S m e) (w2:Whole S m f):Z5 ls (yT zL m) (zr S m (e++f++[⟨yI o,0,⟨#[]⟩⟩])) (p++o::q):=by
 obtain⟨A,z,y,x⟩:=BP p o q;have:=rb (ls:=ls) (p:=yT zL m) i h y (by rw[A];exact k) (by rw[z];exact j);rw[x,FV d]at this;rw[(eval_bin S m w1 w2 ⟨yI o,0,⟨#[]⟩⟩ (Ky d)).1];exact this
theorem JB (E:Env zL ls S m) {k:Nat} {e:List qM} (h:Cm k t e):Y8 t->ZG (Rt.isVar zL (qJ S m)) (ZW zL (qJ S m)) e=true->Z5 ls (yT zL m) (zr S m e) t:=by
 induction h with
 | num x hx=>
  intro d i;obtain⟨z,n2⟩:=fg (Or.inr hx);have:=ey (p:=yT zL m) E.law E.ok d (QD (.num x hx)) Nat.zero_lt_one (zB 1) z n2 rfl;rw[show ([x]:List ByteArray)[0]=x from rfl,zE hx]at this;rw[(au S m ⟨1,val x,⟨#[]⟩⟩ (val x) (fun st=>by simp[workI])).1,cB];exact this
 | br x hx=>
  intro d i;obtain⟨z,n2⟩:=fg (Or.inl hx);have:=ey (p:=yT zL m) E.law E.ok d (QD (.br x hx)) Nat.zero_lt_one (zB 1) z n2 rfl;have A:Rt.isVar zL (qJ S m) x=true:=by simpa[ZG] using i
  rw[show ([x]:List ByteArray)[0]=x from rfl,zA (by rw[EY hx];simp),Bl E A]at this;rw[(au S m ⟨2,0,x⟩ (ZL m (vx S m x)) (fun st=>by simp[workI])).1];exact this
 | neg p e hp ih=>
  intro d i;rw[jm,zy]at i;have:=rZ (ls:=ls) (p:=yT zL m) d (QD (.neg p hp.is)) (by simp) (Ch [45] [45]) (ih (vm d (by simp) (fun x hx=>by simp[hx])) i.1);rw[(pj S m (XG S m hp)).1];by_cases h0:(zr S m e).2=0
  ·rw[zE h0];rw[h0]at this;exact this
  ·rw[zA h0];have D:(zr S m e).1=0:=mH S m e [] h0;rw[D,show wrap64 (-(0:Int))=0 from yC _ (by omega)]at this;exact this
 | par p e hp ih=>
  intro d i;refine rY (ls:=ls) (p:=yT zL m) d (QD (.par p hp.is)) (by simp) (Ch [40] [45]) (Ch [40] [40]) ?_;rw[rX];exact ih (vm d (by simp;omega) (fun x hx=>by simp[hx])) i
 | rE x p e hx hp ih=>
  intro d i;rw[jm,zy]at i;obtain⟨z,n2⟩:=fg (Or.inl hx);have A:ZW zL (qJ S m) x=true:=by simpa[ZG] using i.2
  have:=ra (ls:=ls) (p:=yT zL m) E.law E.ok d (QD (.rE x p hx hp.is)) (by simp) z n2 (by rw[BM];exact ih (vm d (by simp;omega) (fun y hy=>by simp[hy])) i.1) rfl;rw[(pk S m (XG S m hp) x).1];obtain⟨F,H,G⟩:=GD E A;rw[show (x::qI::(p++[kM]))[0]=x from rfl,F]at this;by_cases h0:(zr S m e).2=0
  ·rw[zE h0];rw[zA (kW h0)]at this;unfold celI Rt.kX Q6 ZL;generalize (zr S m e).1=v at *;by_cases hr:v < 0\/((cellsOf m (xb S.zL x:Nat)).length:Int)<=v
   ·rw[zE hr]at this;rw[zA (by simp only[yS];omega)];exact this
   ·rw[zA hr]at this;rw[zE (by simp only[yS];omega)];simp only;rw[zA (by omega),<-xL];exact this
  ·rw[zA h0];rw[zE h0]at this;exact this
 | t1 p e _ ih=>exact ih
 | t2 p o q e f hp i hq ih1 ih2=>
  intro d j;rw[jm,jm,zy,zy]at j;exact dI d (wT hp.is i hq.is) (Or.inl i) (ih1 (vm d (by simp) (fun x hx=>by simp[hx])) j.1.1) (ih2 (vm d (by simp;omega) (fun x hx=>by simp[hx])) j.1.2) (XG S m hp) (XG S m hq)
 | s1 p e _ ih=>exact ih
 | s2 p o q e f hp i hq ih1 ih2=>
  intro d j;rw[jm,jm,zy,zy]at j;exact dI d (wV hp.is i hq.is) (Or.inr (Or.inl i)) (ih1 (vm d (by simp) (fun x hx=>by simp[hx])) j.1.1) (ih2 (vm d (by simp;omega) (fun x hx=>by simp[hx])) j.1.2) (XG S m hp) (XG S m hq)
 | e1 p e _ ih=>exact ih
 | e2 p o q e f hp i hq ih1 ih2=>
  intro d j;rw[jm,jm,zy,zy]at j;exact dI d (wU hp.is i hq.is) (Or.inr (Or.inr i)) (ih1 (vm d (by simp) (fun x hx=>by simp[hx])) j.1.1) (ih2 (vm d (by simp;omega) (fun x hx=>by simp[hx])) j.1.2) (XG S m hp) (XG S m hq)
end
open Rt
theorem pY (zL:List PL):∀(fs:List Fm) (n:Int),(frsOf zL fs n).map Fr.args=fs.map Fm.params
 | [],_=>rfl
 | [_],_=>rfl
 | a::b::r,n=>by
  show a.params::(frsOf zL (b::r) n).map Fr.args=_;rw[pY zL (b::r) n];rfl
theorem Vo {zL:List PL} {m:Mc} (j:zL.length<=101) (h:XW S m):PlB (yT zL m):=by
 refine⟨?_,fun f hf=>?_,?_,?_,fun c hc=>?_,?_⟩
 ·show (frsOf zL m.zH m.line).length<=1000;rw[XD];have:=h.hi;omega
 ·have:f.args∈m.zH.map Fm.params:=by rw[<-pY zL m.zH m.line];exact xr.mpr ⟨f,hf,rfl⟩
  obtain⟨x,i,e⟩:=xr.mp this;rw[<-e];exact h.Zi.params x i
 ·show (varsOf zL m.values).length<=1000;simp[varsOf];omega
 ·show (Q8 zL m.values).length<=1000;simp[Q8];omega
 ·have d:c∈Q8 zL m.values:=hc;unfold Q8 at d;obtain⟨l,_,e⟩:=xr.mp d;rw[<-e];split
  ·cases hv:m.values[l]? with
   | none=>simp
   | some y=>exact h.Zi.cells y (qF hv)
  ·simp
 ·have:=h.out;show m.output.length<=1000;omega
theorem mD (ls:List (List ByteArray)) (p:Pl) (x:ByteArray) (v:Int):(vV ls p x v).line=p.line/\(vV ls p x v).zH.length=p.zH.length/\(vV ls p x v).cells=p.cells:=by
 unfold vV;split
 ·exact⟨rfl,by simp,rfl⟩
 ·exact⟨rfl,rfl,rfl⟩
end Rf
open Rf Rt
theorem XN {ps zL:List PL} {m:Mc} {p P:Pl} {n:Nat} {N:Int} (h:Rf.Step ps zL ls S m p n) (f:P=p) (i:N=(n:Int)) {e:Ending} {w':World} (d:Y6 P N w e w'):Y6 (yT zL (qd S m).1) ((qd S m).2.length:Nat) w e w':=by
 subst f i;rw[h.1,h.2.1];exact d
theorem vk {r:List UInt8} (l:List UInt8) (h:(l==r)=false):((⟨l.toArray⟩:ByteArray).toList==r)=false:=by rw[jl];exact h
theorem YE (l:List UInt8):((⟨l.toArray⟩:ByteArray).toList==l)=true:=by rw[jl];simp
section
variable {ps zL:List PL} {ls:List (List ByteArray)} {S:Rt.Src} {m:Mc} (C:Ctx ps zL ls S) (F:KA ps zL ls S m) (hfin:m.fin = 0) (hK:XW S m) {l:Nat} (h1:l < ps.length) (h2:m.line = (l:Int) + 1) (h4:xu ps l ≠ [])
  (w:World) (Sb g cap:Nat) (iv fv vv cv ov:Value) (hG:jA w Sb g cap ls) (hv:Bf w fv vv cv ov (yT zL m)) (hi:kA w iv S.input)
include C F hfin hK h1 h2 h4 hG hv hi
theorem DN (z:l < ls.length) {e:List qM} (o:ls[l]=Zz::x::Ym::q) (A:yg x=true) (G:Ex e q) (j:ps[l].form=⟨8,x,0,[],[],[e]⟩):Calls Tryz.prog 55 #[.pointer (some ⟨Sb,0,none⟩),.agg (jh fv vv cv ov (yT zL m)),iv] w (Y6 (yT zL (qd S m).1) ((qd S m).2.length:Nat) w):=by
 have E:=Y4 C F;have h:zL.length<=101:=by have:=C.both.len;have:=C.law.len;omega
 have d:=C.law.XO z;rw[o]at d;have i:=((Jh C h1 h2 h4).2.2.2 (by rw[j];simp)).2 e (by rw[j];simp);have D:=JB E G.2.2 (vm d (by simp;omega) (fun y hy=>by simp[hy])) i;have H:behind (Zz::x::Ym::q)=2:=VE (a:=[Zz,x]) (b:=q) (fun y hy=>by
  simp at hy;rcases hy with rfl | rfl
  ·simp[Zz,Ym]
  ·exact(Vs (Or.inl A)).2)
 have f:=lC C F hfin h1 h2 h4 j;obtain⟨L,J,I⟩:=mD ls (yT zL m) x (zr S m e).1;refine(QC hG hv (Vo h hK) E.ok C.law C.both.nested h2 z o (by simp) (by obtain⟨a,c,e,_⟩:=hi;exact⟨a,_,c,e⟩)
  (fun _=>⟨by show 0 < (vV ls (yT zL m) x (zr S m e).1).zH.length;rw[J];exact E.ok.some,by show 0 < (vV ls (yT zL m) x (zr S m e).1).cells.length;rw[I];have:=E.ok.cells;omega⟩) (Or.inl ⟨YE [115,101,116],rfl,vV ls (yT zL m) x (zr S m e).1,fun _=>by rw[L];exact h2,rfl,fun w0 w' P X tv hI hT=>?_⟩)).mono (fun e' w'' hs=>XN f rfl (by split <;> rfl) hs);refine(mn hI hT d C.law E.ok H (by simp) D rfl).mono ?_;rintro e' w'' ⟨rfl,k⟩;exact⟨rfl,X,k⟩
theorem DM (U:l < ls.length) {i e:List qM} (R:ls[l]=Zz::x::qI::(q++kM::Ym::u)) (W:yg x=true) (T:Ex i q) (Z:Ex e u) (z:ps[l].form=⟨9,x,0,[],i,[e]⟩):Calls Tryz.prog 55 #[.pointer (some ⟨Sb,0,none⟩),.agg (jh fv vv cv ov (yT zL m)),iv] w (Y6 (yT zL (qd S m).1) ((qd S m).2.length:Nat) w):=by
 have E:=Y4 C F;have H:zL.length<=101:=by have:=C.both.len;have:=C.law.len;omega
 have N:0 < (yT zL m).cells.length:=by have:=E.ok.cells;omega
 have J:∃a n c,iv=.slice a n c:=by obtain⟨a,c,e,_⟩:=hi;exact⟨a,_,c,e⟩
 have d:=C.law.XO U;rw[R]at d;have h:=(Jh C h1 h2 h4).2.2.2 (by rw[z];simp);have I:=h.2 e (by rw[z];simp);have j:=h.1;rw[z]at j;have A:=JB E T.2.2 (vm d (by simp;omega) (fun y hy=>by simp[hy])) j;have D:=JB E Z.2.2 (vm d (by simp;omega) (fun y hy=>by simp[hy])) I;have o:Zz::x::qI::(q++kM::Ym::u)=(Zz::x::qI::(q++[kM]))++Ym::u:=by simp
 have hb:behind (Zz::x::qI::(q++kM::Ym::u))=q.length+4:=by
  rw[o,VE (fun y hy=>?_)]
  ·simp
  ·simp only[zw,zd,qb,Z2]at hy;rcases hy with rfl | rfl | rfl | hy | rfl
   ·simp[Zz,Ym]
   ·exact(Vs (Or.inl W)).2
   ·simp[qI,Ym]
   ·exact(K7 T.1 _ hy).2
   ·simp[kM,Ym]
 have M:((Zz::x::qI::(q++kM::Ym::u)).take (q.length+4-1)).drop 3=q:=by
  rw[show q.length+4-1=q.length+3 by omega,qz,qz,qz,jX,jX,jX,Yf,kG (zB _),Zp]
 have V:(Zz::x::qI::(q++kM::Ym::u)).drop (q.length+4+1)=u:=by
  rw[o,Zr,zp (by simp),show q.length+4+1-(Zz::x::qI::(q++[kM])).length=1 by simp];rfl
 have G:=lB C F hfin h1 h2 h4 z;obtain⟨te,f⟩:∃te,te=if (zr S m i).2=0 then (if (zr S m e).2=0 then (if (zr S m i).1 < 0\/(((yT zL m).cells.getD (decl ls x) []).length:Int)<=(zr S m i).1 then 3 else 0)else (zr S m e).2)else (zr S m i).2:=⟨_,rfl⟩
 refine(QC (w:=w) (S:=Sb) (g:=g) (cap:=cap) (L:=l) (ls:=ls) (p:=(yT zL m)) (fv:=fv) (vv:=vv) (cv:=cv) (ov:=ov) (iv:=iv) hG hv (Vo H hK) E.ok C.law C.both.nested h2 U R (by simp) J (te:=te) (nn:=2) (p1:={ yT zL m with cells:=(yT zL m).cells.set (decl ls x) (((yT zL m).cells.getD (decl ls x) []).set (zr S m i).1.toNat (zr S m e).1),line:=(jc ls (l+1):Nat) })
  (fun _=>⟨E.ok.some,by simpa using N⟩) (Or.inl ⟨YE [115,101,116],rfl,{ yT zL m with cells:=(yT zL m).cells.set (decl ls x) (((yT zL m).cells.getD (decl ls x) []).set (zr S m i).1.toNat (zr S m e).1) },fun _=>h2,rfl,fun w0 w' P X tv hI hT=>?_⟩)).mono (fun e' w'' hs=>XN G ?_ ?_ hs)
 ·refine(mj (w0:=w0) (w:=w') (S:=Sb) (g:=g) (cap:=cap) (P:=P) (ls:=ls) (p:=(yT zL m)) (X:=X) (v:=tv) (k:=(q.length+4)) (a:=(zr S m i)) (r:=(zr S m e)) hI hT d C.law E.ok hb (by omega) (by simp;omega) (by rw[M];exact A) (by rw[V];exact D) (by simp) te f rfl).mono ?_;rintro e' w'' ⟨rfl,O⟩;refine⟨rfl,X,?_⟩;have:(if te=0 then ({ yT zL m with cells:=(yT zL m).cells.set (decl ls x) (((yT zL m).cells.getD (decl ls x) []).set (zr S m i).1.toNat (zr S m e).1) }:Pl)else yT zL m)=if (zr S m i).2=0 then (if (zr S m e).2=0 then (if (zr S m i).1 < 0\/(((yT zL m).cells.getD (decl ls x) []).length:Int)<=(zr S m i).1 then yT zL m else { yT zL m with cells:=(yT zL m).cells.set (decl ls x) (((yT zL m).cells.getD (decl ls x) []).set (zr S m i).1.toNat (zr S m e).1) })else yT zL m)else yT zL m:=by
   rw[f];by_cases a1:(zr S m i).2=0
   ·rw[zE a1,zE a1];by_cases a2:(zr S m e).2=0
    ·rw[zE a2,zE a2];by_cases a3:(zr S m i).1 < 0\/(((yT zL m).cells.getD (decl ls x) []).length:Int)<=(zr S m i).1
     ·rw[zE a3,zE a3,zA (by decide)]
     ·rw[zA a3,zA a3,zE rfl]
    ·rw[zA a2,zA a2,zA a2]
   ·rw[zA a1,zA a1,zA a1]
  rw[this];exact O
 ·rw[f];by_cases a1:(zr S m i).2=0
  ·rw[zE a1,zE a1];by_cases a2:(zr S m e).2=0
   ·rw[zE a2,zE a2];by_cases a3:(zr S m i).1 < 0\/(((yT zL m).cells.getD (decl ls x) []).length:Int)<=(zr S m i).1
    ·rw[zE a3,zE a3,zA (by decide)]
    ·rw[zA a3,zA a3,zE rfl]
   ·rw[zA a2,zA a2,zA a2]
  ·rw[zA a1,zA a1,zA a1]
 ·rw[f];by_cases a1:(zr S m i).2=0
  ·rw[zE a1,zE a1];by_cases a2:(zr S m e).2=0
   ·rw[zE a2,zE a2];by_cases a3:(zr S m i).1 < 0\/(((yT zL m).cells.getD (decl ls x) []).length:Int)<=(zr S m i).1
    ·rw[zE a3,zE a3,zA (by decide)];rfl
    ·rw[zA a3,zA a3,zE rfl];rfl
   ·rw[zA a2,zA a2,zA a2];rfl
  ·rw[zA a1,zA a1,zA a1];rfl
theorem BE (o:l < ls.length) {e:List qM} (D:ls[l]=fV::q) (G:Ex e q) (x:ps[l].form=⟨10,⟨#[]⟩,0,[],[],[e]⟩):Calls Tryz.prog 55 #[.pointer (some ⟨Sb,0,none⟩),.agg (jh fv vv cv ov (yT zL m)),iv] w (Y6 (yT zL (qd S m).1) ((qd S m).2.length:Nat) w):=by
 have E:=Y4 C F;have j:zL.length<=101:=by have:=C.both.len;have:=C.law.len;omega
 have z:0 < (yT zL m).cells.length:=by have:=E.ok.cells;omega
 have h:∃a n c,iv=.slice a n c:=by obtain⟨a,c,e,_⟩:=hi;exact⟨a,_,c,e⟩
 have f:=C.law.XO o;rw[D]at f;have k:=((Jh C h1 h2 h4).2.2.2 (by rw[x];simp)).2 e (by rw[x];simp);have H:=JB E G.2.2 (vm f (by simp) (fun y hy=>by simp[hy])) k;have i:=fI C F hfin h1 h2 h4 x;have I:=(kh G.1).ne;obtain⟨te,d⟩:∃te,te=if (zr S m e).2=0 then (if 50<=(yT zL m).out.length then 6 else 0)else (zr S m e).2:=⟨_,rfl⟩
 refine(QC (w:=w) (S:=Sb) (g:=g) (cap:=cap) (L:=l) (ls:=ls) (p:=(yT zL m)) (fv:=fv) (vv:=vv) (cv:=cv) (ov:=ov) (iv:=iv) hG hv (Vo j hK) E.ok C.law C.both.nested h2 o D (by simp) h (te:=te) (nn:=2) (p1:={ yT zL m with out:=(yT zL m).out++[(zr S m e).1],line:=(jc ls (l+1):Nat) })
  (fun _=>⟨E.ok.some,z⟩) (Or.inr ⟨vk [112,114,105,110,116] (by decide),Or.inr ⟨vk [112,114,105,110,116] (by decide),Or.inr ⟨vk [112,114,105,110,116] (by decide),vk [112,114,105,110,116] (by decide),Or.inl ⟨YE [112,114,105,110,116],vk [112,114,105,110,116] (by decide),rfl⟩,fun w0 w' P X tv _ hI hT=>?_⟩⟩⟩)).mono (fun e' w'' hs=>XN i ?_ ?_ hs)
 ·refine(dy (w0:=w0) (w:=w') (S:=Sb) (g:=g) (cap:=cap) (P:=P) l (ls:=ls) (p:=(yT zL m)) (X:=X) (v:=tv) iv (r:=(zr S m e)) hI hT C.law E.ok C.both.nested h2 o hK.out (by simp;omega) (vk [112,114,105,110,116] (by decide)) (YE [112,114,105,110,116]) H h te d rfl).mono ?_;rintro e' w'' ⟨rfl,X',A⟩;refine⟨rfl,X',?_⟩;have:(if te=0 then ({ yT zL m with out:=(yT zL m).out++[(zr S m e).1],line:=(jc ls (l+1):Nat) }:Pl)else yT zL m)=if (zr S m e).2=0 then (if 50<=(yT zL m).out.length then yT zL m else { yT zL m with out:=(yT zL m).out++[(zr S m e).1],line:=(jc ls (l+1):Nat) })else yT zL m:=by
   rw[d];by_cases a1:(zr S m e).2=0
   ·rw[zE a1,zE a1];by_cases a2:50<=(yT zL m).out.length
    ·rw[zE a2,zE a2,zA (by decide)]
    ·rw[zA a2,zA a2,zE rfl]
   ·rw[zA a1,zA a1,zA a1]
  rw[this];exact A
 ·rw[d];show _=if (zr S m e).2=0 then (if 50<=(yT zL m).out.length then _ else _)else _
  by_cases a1:(zr S m e).2=0
  ·rw[zE a1,zE a1];by_cases a2:50<=(yT zL m).out.length
   ·rw[zE a2,zE a2,zA (by decide)]
   ·rw[zA a2,zA a2,zE rfl];rfl
  ·rw[zA a1,zA a1,zA a1]
 ·rw[d];show _=((if (zr S m e).2=0 then (if 50<=(yT zL m).out.length then 1 else 2)else 1:Nat):Int);by_cases a1:(zr S m e).2=0
  ·rw[zE a1,zE a1];by_cases a2:50<=(yT zL m).out.length
   ·rw[zE a2,zE a2,zA (by decide)];rfl
   ·rw[zA a2,zA a2,zE rfl];rfl
  ·rw[zA a1,zA a1,zA a1];rfl
theorem DO (f:S.input.length<=100) (y:l < ls.length) (z:ls[l]=[oF,x]) (A:ps[l].form=⟨11,x,0,[],[],[]⟩):Calls Tryz.prog 55 #[.pointer (some ⟨Sb,0,none⟩),.agg (jh fv vv cv ov (yT zL m)),iv] w (Y6 (yT zL (qd S m).1) ((qd S m).2.length:Nat) w):=by
 have E:=Y4 C F;have i:zL.length<=101:=by have:=C.both.len;have:=C.law.len;omega
 have k:0 < (yT zL m).cells.length:=by have:=E.ok.cells;omega
 have j:∃a n c,iv=.slice a n c:=by obtain⟨a,c,e,_⟩:=hi;exact⟨a,_,c,e⟩
 have h:=lD C F hfin h1 h2 h4 f A;obtain⟨te,d⟩:∃te:Int,te=if S.input.length<=(yT zL m).read then 4 else 0:=⟨_,rfl⟩
 obtain⟨H,G,D⟩:=mD ls (yT zL m) x (S.input.getD (yT zL m).read 0);refine(QC (w:=w) (S:=Sb) (g:=g) (cap:=cap) (L:=l) (ls:=ls) (p:=(yT zL m)) (fv:=fv) (vv:=vv) (cv:=cv) (ov:=ov) (iv:=iv) hG hv (Vo i hK) E.ok C.law C.both.nested h2 y z (by simp) j (te:=te) (nn:=3) (p1:={ vV ls (yT zL m) x (S.input.getD (yT zL m).read 0)with read:=(yT zL m).read+1,line:=(jc ls (l+1):Nat) })
  (fun _=>⟨by show 0 < (vV ls (yT zL m) x (S.input.getD (yT zL m).read 0)).zH.length;rw[G];exact E.ok.some,by show 0 < (vV ls (yT zL m) x (S.input.getD (yT zL m).read 0)).cells.length;rw[D];exact k⟩) (Or.inr ⟨vk [114,101,97,100] (by decide),Or.inr ⟨vk [114,101,97,100] (by decide),Or.inr ⟨vk [114,101,97,100] (by decide),vk [114,101,97,100] (by decide),Or.inr ⟨vk [114,101,97,100] (by decide),Or.inl ⟨YE [114,101,97,100],rfl⟩⟩,fun w0 w' P X tv hb hI hT=>?_⟩⟩⟩)).mono (fun e' w'' hs=>XN h ?_ ?_ hs)
 ·refine(fX (w0:=w0) (w:=w') (S:=Sb) (g:=g) (cap:=cap) (P:=P) l (ls:=ls) (p:=(yT zL m)) (X:=X) (v:=tv) (iv:=iv) (qo:=S.input) hI hT (hi.zP hb) f C.law E.ok C.both.nested h2 y (by simp) (YE [114,101,97,100]) te d rfl).mono ?_;rintro e' w'' ⟨rfl,o⟩;refine⟨rfl,X,?_⟩;have:(if te=0 then ({ vV ls (yT zL m) x (S.input.getD (yT zL m).read 0)with read:=(yT zL m).read+1,line:=(jc ls (l+1):Nat) }:Pl)else yT zL m)=if S.input.length<=(yT zL m).read then yT zL m else { vV ls (yT zL m) x (S.input.getD (yT zL m).read 0)with read:=(yT zL m).read+1,line:=(jc ls (l+1):Nat) }:=by
   rw[d];by_cases a1:S.input.length<=(yT zL m).read
   ·rw[zE a1,zE a1,zA (by decide)]
   ·rw[zA a1,zA a1,zE rfl]
  rw[this];exact o
 ·rw[d];show _=if S.input.length<=(yT zL m).read then _ else _
  by_cases a1:S.input.length<=(yT zL m).read
  ·rw[zE a1,zE a1,zA (by decide)]
  ·rw[zA a1,zA a1,zE rfl];rfl
 ·rw[d];show _=((if S.input.length<=(yT zL m).read then 1 else 3:Nat):Int);by_cases a1:S.input.length<=(yT zL m).read
  ·rw[zE a1,zE a1,zA (by decide)];rfl
  ·rw[zA a1,zA a1,zE rfl];rfl
end
namespace Rf
open Rt
theorem wF (S:Rt.Src) (m:Mc):∀(vs:List (List qM)) (acc:List Int),argsI S m vs acc=argsL (vs.map (zr S m)) acc
 | [],_=>rfl
 | e::r,acc=>by
  rw[argsI,qp,argsL,wF S m r]
theorem pL:∀(args:List (List ByteArray)) (a:List ByteArray),a∈args->∀y∈a,y∈joinC args
 | [],_,h=>by simp at h
 | [b],a,h=>by
  rw[yN.mp h];exact fun y hy=>hy
 | b::c::r,a,h=>fun y hy=>by
  rw[joinC];rcases zw.mp h with rfl | h
  ·exact zY _ hy
  ·exact zb _ (zm _ (pL (c::r) a h y hy))
theorem pM:∀(args:List (List ByteArray)) (a:List ByteArray),a∈args->a.length<=(joinC args).length
 | [],_,h=>by simp at h
 | [b],a,h=>by
  rw[yN.mp h];exact zB _
 | b::c::r,a,h=>by
  rw[joinC,ze,yE];rcases zw.mp h with rfl | h
  ·omega
  ·have:=pM (c::r) a h;omega
theorem gI:∀(args:List (List ByteArray)),(∀a∈args,0 < a.length)->args.length<=(joinC args).length
 | [],_=>by simp
 | [b],h=>by have:=h b (by simp);simp[joinC];omega
 | b::c::r,h=>by
  rw[joinC,ze,yE];have:=gI (c::r) (fun a ha=>h a (by simp at ha ⊢;right;exact ha));simp only[yE]at this ⊢;omega
theorem GB {es:List (List qM)} {ps:List (List ByteArray)} (h:Bg es ps):∀j (h1:j < es.length) (h2:j < ps.length),Ex es[j] ps[j]:=by
 induction h with
 | nil=>intro j h1;simp at h1
 | cons e p es ps he _ ih=>
  intro j h1 h2;cases j with
  | zero=>exact he
  | succ j=>exact ih j (by simpa using h1) (by simpa using h2)
end Rf
open Rf Rt
section
variable {ps zL:List PL} {ls:List (List ByteArray)} {S:Rt.Src} {m:Mc} (C:Ctx ps zL ls S) (F:KA ps zL ls S m) (hfin:m.fin = 0) (hK:XW S m) {l:Nat} (h1:l < ps.length) (h2:m.line = (l:Int) + 1) (h4:xu ps l ≠ [])
  (w:World) (Sb g cap:Nat) (iv fv vv cv ov:Value) (hG:jA w Sb g cap ls) (hv:Bf w fv vv cv ov (yT zL m)) (hi:kA w iv S.input)
include C F hfin hK h1 h2 h4 hG hv hi
theorem gf (D:l < ls.length) {e:List qM} (M:k=5\/k=7) (hz:z=Gi\/z=ez) (J:ls[l]=z::q) (N:Ex e q) (j:ps[l].form=⟨k,⟨#[]⟩,0,[],[],[e]⟩):Calls Tryz.prog 55 #[.pointer (some ⟨Sb,0,none⟩),.agg (jh fv vv cv ov (yT zL m)),iv] w (Y6 (yT zL (qd S m).1) ((qd S m).2.length:Nat) w):=by
 have E:=Y4 C F;have x:zL.length<=101:=by have:=C.both.len;have:=C.law.len;omega
 have H:0 < (yT zL m).cells.length:=by have:=E.ok.cells;omega
 have i:∃a n c,iv=.slice a n c:=by obtain⟨a,c,e,_⟩:=hi;exact⟨a,_,c,e⟩
 have f:=C.law.XO D;rw[J]at f;have A:=((Jh C h1 h2 h4).2.2.2 (by rw[j];simp;omega)).2 e (by rw[j];simp);have R:=JB E N.2.2 (vm f (by simp) (fun y hy=>by simp[hy])) A;have o:=KK C F hfin h1 h2 h4 M j;have T:=(kh N.1).ne;have G:kd ps l=5\/kd ps l=7:=by rw[Qm h1,j];exact M
 obtain⟨U,O⟩:=oV C.dz C.both C.law.len h1 G;have d:∀r:List UInt8,([105,102]==r)=false->([119,104,105,108,101]==r)=false->(z.toList==r)=false:=fun r a b=>by
  rcases hz with rfl | rfl
  ·exact vk [105,102] a
  ·exact vk [119,104,105,108,101] b
 obtain⟨te,h⟩:∃te,te=(zr S m e).2:=⟨_,rfl⟩;refine(QC (w:=w) (S:=Sb) (g:=g) (cap:=cap) (L:=l) (ls:=ls) (p:=(yT zL m)) (fv:=fv) (vv:=vv) (cv:=cv) (ov:=ov) (iv:=iv) hG hv (Vo x hK) E.ok C.law C.both.nested h2 D J (by simp) i (te:=te) (nn:=1) (p1:={ yT zL m with line:=(jc ls (if (zr S m e).1=0 then other ls l else l+1):Nat) })
  (fun _=>⟨E.ok.some,H⟩) (Or.inr ⟨d _ (by decide) (by decide),Or.inr ⟨d _ (by decide) (by decide),Or.inr ⟨d _ (by decide) (by decide),d _ (by decide) (by decide),Or.inr ⟨d _ (by decide) (by decide),Or.inr ⟨d _ (by decide) (by decide),rfl⟩⟩,fun w0 w' P X tv _ hI hT=>?_⟩⟩⟩)).mono (fun e' w'' hs=>XN o ?_ ?_ hs)
 ·refine(cV (w0:=w0) (w:=w') (S:=Sb) (g:=g) (cap:=cap) (P:=P) l (ls:=ls) (p:=(yT zL m)) (X:=X) (v:=tv) iv (r:=(zr S m e)) hI hT C.law E.ok C.both.nested h2 D O (by simp;omega) (d _ (by decide) (by decide)) (d _ (by decide) (by decide)) R i rfl).mono ?_;rintro e' w'' ⟨rfl,I⟩;rw[h];exact⟨rfl,X,I⟩
 ·rw[h]
 ·rw[h];split <;> rfl
theorem DP (Z:l < ls.length) {args:List (List ByteArray)} {vs:List (List qM)} (V:ls[l]=VY::x::joinC args) (H:Bg vs args) (N:ps[l].form=⟨12,x,0,[],[],vs⟩):Calls Tryz.prog 55 #[.pointer (some ⟨Sb,0,none⟩),.agg (jh fv vv cv ov (yT zL m)),iv] w (Y6 (yT zL (qd S m).1) ((qd S m).2.length:Nat) w):=by
 have E:=Y4 C F;have J:zL.length<=101:=by have:=C.both.len;have:=C.law.len;omega
 have O:0 < (yT zL m).cells.length:=by have:=E.ok.cells;omega
 have M:∃a n c,iv=.slice a n c:=by obtain⟨a,c,e,_⟩:=hi;exact⟨a,_,c,e⟩
 have d:=C.law.XO Z;rw[V]at d;have A:=((Jh C h1 h2 h4).2.2.2 (by rw[N];simp)).2;rw[N]at A;obtain⟨d1,d2,h⟩:=lE C F hfin h1 h2 h4 N;rw[wF]at h;obtain⟨D,hD⟩:∃D,decl ls x=D+1:=⟨decl ls x-1,by omega⟩;have o:(yT zL m).zH.length=m.zH.length:=XD ..;have k:parts (List.drop 2 (VY::x::joinC args))=args:=aP args H.is;have G:args.length<=1000:=by
  have h1:=gI args (fun a ha=>(kh (H.is a ha)).ne);have:=d.1;simp at this;omega
 obtain⟨rs,i⟩:∃rs,rs=vs.map (zr S m):=⟨_,rfl⟩;have I:∀j (h1:j < rs.length) (h2:j < (parts (List.drop 2 (VY::x::joinC args))).length),Z5 ls (yT zL m) rs[j] (parts (List.drop 2 (VY::x::joinC args)))[j]:=by
  subst i;rw[k];intro j j1 U;have z:j < vs.length:=by simpa using j1
  rw[qc];have W:=zj U;refine JB E (GB H j z U).2.2 (vm d ?_ ?_) (A _ (zj z))
  ·have:=pM args _ W;simp only[yE];omega
  ·intro y hy;exact zm _ (zm _ (pL args _ W y hy))
 rw[<-i,hD]at h;obtain⟨te,f⟩:∃te,te=if (argsL rs []).2=0 then (if 6<=(yT zL m).zH.length then 5 else 0)else (argsL rs []).2:=⟨_,rfl⟩
 refine(QC (w:=w) (S:=Sb) (g:=g) (cap:=cap) (L:=l) (ls:=ls) (p:=(yT zL m)) (fv:=fv) (vv:=vv) (cv:=cv) (ov:=ov) (iv:=iv) hG hv (Vo J hK) E.ok C.law C.both.nested h2 Z V (by simp) M (te:=te) (nn:=1) (p1:={ yT zL m with zH:=(yT zL m).zH++[⟨D+1,(argsL rs []).1,(yT zL m).line⟩],line:=(jc ls (D+1):Nat) })
  (fun _=>⟨by simp,O⟩) (Or.inr ⟨vk [99,97,108,108] (by decide),Or.inl ⟨YE [99,97,108,108],rfl,fun w0 w' P X tv hI hT=>?_⟩⟩)).mono (fun e' w'' hs=>XN h ?_ ?_ hs)
 ·refine(rF (w0:=w0) (w:=w') (S:=Sb) (g:=g) (cap:=cap) (P:=P) D (ls:=ls) (p:=(yT zL m)) (X:=X) (v:=tv) rs hI hT d C.law E.ok C.both.nested (by simp) (by omega) hD (by rw[o];exact hK.hi) (by rw[k,i,qR];exact H.len) I (by rw[k];exact G) te f rfl).mono ?_;rintro e' w'' ⟨rfl,X',R⟩;refine⟨rfl,X',?_⟩;have:(if te=0 then ({ yT zL m with zH:=(yT zL m).zH++[⟨D+1,(argsL rs []).1,(yT zL m).line⟩],line:=(jc ls (D+1):Nat) }:Pl)else yT zL m)=if (argsL rs []).2=0 then (if 6<=(yT zL m).zH.length then yT zL m else { yT zL m with zH:=(yT zL m).zH++[⟨D+1,(argsL rs []).1,(yT zL m).line⟩],line:=(jc ls (D+1):Nat) })else yT zL m:=by
   rw[f];by_cases a1:(argsL rs []).2=0
   ·rw[zE a1,zE a1];by_cases a2:6<=(yT zL m).zH.length
    ·rw[zE a2,zE a2,zA (by decide)]
    ·rw[zA a2,zA a2,zE rfl]
   ·rw[zA a1,zA a1,zA a1]
  rw[this];exact R
 ·rw[f];by_cases a1:(argsL rs []).2=0
  ·rw[zE a1,zE a1];by_cases a2:6<=(yT zL m).zH.length
   ·have T:6<=m.zH.length:=by rw[<-o];exact a2
    rw[zE a2,zE T,zA (by decide)]
   ·have T:¬6<=m.zH.length:=by rw[<-o];exact a2
    rw[zA a2,zA T,zE rfl];rfl
  ·rw[zA a1,zA a1,zA a1]
 ·split <;> rfl
theorem mJ (M:l < ls.length) (hk:(k=13/\z=aK)\/(k=4/\z=DH)) (I:ls[l]=[z]) (O:ps[l].form=⟨k,⟨#[]⟩,0,[],[],[]⟩):Calls Tryz.prog 55 #[.pointer (some ⟨Sb,0,none⟩),.agg (jh fv vv cv ov (yT zL m)),iv] w (Y6 (yT zL (qd S m).1) ((qd S m).2.length:Nat) w):=by
 have E:=Y4 C F;have x:zL.length<=101:=by have:=C.both.len;have:=C.law.len;omega
 have D:0 < (yT zL m).cells.length:=by have:=E.ok.cells;omega
 have A:∃a n c,iv=.slice a n c:=by obtain⟨a,c,e,_⟩:=hi;exact⟨a,_,c,e⟩
 have o:(yT zL m).zH.length=m.zH.length:=XD ..;have L:=hK.lo;have N:=hK.hi;have i:∀(te:Int) (p1:Pl),(te=0->0 < p1.zH.length/\0 < p1.cells.length)->(∀(w0 w':World) (P:Nat) (X:Qg),JW w0 w' Sb g cap ls P (yT zL m) X->Calls Tryz.prog 98 #[.pointer (some ⟨Sb,0,none⟩),.pointer (some ⟨P,0,none⟩)] w' (rR Sb g cap ls P (yT zL m) te p1 w0))->
   Calls Tryz.prog 55 #[.pointer (some ⟨Sb,0,none⟩),.agg (jh fv vv cv ov (yT zL m)),iv] w (Y6 (if te=0 then p1 else { yT zL m with fin:=te }) (if te=0 then 1+((Rf.top (yT zL m)).args.length:Int)else 1) w):=by
  intro te p1 y j;refine QC hG hv (Vo x hK) E.ok C.law C.both.nested h2 M I (by simp) A y ?_;rcases hk with⟨_,rfl⟩| ⟨_,rfl⟩
  ·exact Or.inr ⟨vk [114,101,116,117,114,110] (by decide),Or.inr ⟨vk [114,101,116,117,114,110] (by decide),Or.inl ⟨Or.inl (YE [114,101,116,117,114,110]),rfl,j⟩⟩⟩
  ·exact Or.inr ⟨vk [101,110,100] (by decide),Or.inr ⟨vk [101,110,100] (by decide),Or.inl ⟨Or.inr ⟨vk [101,110,100] (by decide),YE [101,110,100]⟩,rfl,j⟩⟩⟩
 obtain⟨H,G⟩:=fJ C F hfin h1 h2 h4 (k:=k) (by rcases hk with⟨a,_⟩| ⟨a,_⟩ <;> simp[a]) O;by_cases h0:m.zH.length < 2
 ·have d:=H h0;refine(i 1 (yT zL m) (fun h=>absurd h (by decide)) (fun w0 w' P X hI=>?_)).mono (fun e' w'' hs=>XN d ?_ ?_ hs)
  ·refine(nI hI (by omega)).mono ?_;rintro e' w'' ⟨rfl,f⟩;exact⟨rfl,X,by rw[zA (by decide)];exact f⟩
  ·rw[zA (by decide)]
  ·rw[zA (by decide)];rfl
 ·obtain⟨c,T,R,d⟩:=G h0;obtain⟨n,J⟩:∃n,m.zH.length=n+1+1:=⟨m.zH.length-2,by omega⟩;refine(i 0 { yT zL m with zH:=(yT zL m).zH.dropLast,line:=(jc ls (c+1):Nat) } (fun _=>⟨by rw[XU,o];omega,D⟩) (fun w0 w' P X hI=>?_)).mono (fun e' w'' hs=>XN d ?_ ?_ hs)
  ·refine(nH n c hI (by rw[o];exact J) (by omega) R T C.law C.both.nested).mono ?_;rintro e' w'' ⟨rfl,X',f⟩;exact⟨rfl,X',by rw[zE rfl];exact f⟩
  ·rw[zE rfl]
  ·rw[zE rfl];omega
end
theorem Bw {ps zL:List PL} {m:Mc} (C:Ctx ps zL ls S) (F:KA ps zL ls S m) (d:m.fin=0) (D:XW S m) (L:S.input.length<=100) {Sb g cap:Nat} {iv fv vv cv ov:Value} (G:jA w Sb g cap ls) (o:Bf w fv vv cv ov (yT zL m)) (z:kA w iv S.input):Calls Tryz.prog 55 #[.pointer (some ⟨Sb,0,none⟩),.agg (jh fv vv cv ov (yT zL m)),iv] w (Y6 (yT zL (qd S m).1) ((qd S m).2.length:Nat) w):=by
 obtain⟨l,j,I,J,H⟩:=F.line;have k:l < ls.length:=by rw[<-C.len];exact j
 have hli:=C.both.form k;rw[show ((l+1:Nat):Int)=(l:Int)+1 from rfl,Xp C.dz j]at hli;have h:xy ps[l].form.kind=true\/ps[l].form.kind=4:=by
  unfold xV at J;rw[aa C.dz j]at J;by_cases a:xy ps[l].form.kind=true
  ·exact Or.inl a
  ·rw[zA a]at J;by_cases b:ps[l].form.kind=4
   ·exact Or.inr b
   ·rw[zA b]at J;exact absurd J (by decide)
 generalize y:ls[l]=t at hli;generalize A:ps[l].form=f at hli h;cases hli with
 | empty=>exact absurd h (by decide)
 | var x hx=>exact absurd h (by simp[xy])
 | array x n _ _ _ _=>exact absurd h (by simp[xy])
 | proc x q _ _ _=>exact absurd h (by simp[xy])
 | end_=>exact mJ C F d D j I H w Sb g cap iv fv vv cv ov G o z k (Or.inr ⟨rfl,rfl⟩) y A
 | F8 p e he=>exact gf C F d D j I H w Sb g cap iv fv vv cv ov G o z k (Or.inl rfl) (Or.inl rfl) y he A
 | gb=>exact absurd h (by decide)
 | Vg p e he=>exact gf C F d D j I H w Sb g cap iv fv vv cv ov G o z k (Or.inr rfl) (Or.inr rfl) y he A
 | rl x p e hx he=>exact DN C F d D j I H w Sb g cap iv fv vv cv ov G o z k y hx he A
 | rj x q i p e hx hq he=>exact DM C F d D j I H w Sb g cap iv fv vv cv ov G o z k y hx hq he A
 | print p e he=>exact BE C F d D j I H w Sb g cap iv fv vv cv ov G o z k y he A
 | read x hx=>exact DO C F d D j I H w Sb g cap iv fv vv cv ov G o z L k y A
 | call x args vs hx he=>exact DP C F d D j I H w Sb g cap iv fv vv cv ov G o z k y he A
 | Jb=>exact mJ C F d D j I H w Sb g cap iv fv vv cv ov G o z k (Or.inl ⟨rfl,rfl⟩) y A
end Go.Proofs.YthleadfkfnnadaaGreat
