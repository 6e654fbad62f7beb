/- A step is taken back: a frame comes back, and its parameters. -/
import Derived.Test.YthleadfkfnnadaaGreatPlC
set_option maxHeartbeats 4000000
set_option maxRecDepth 100000
set_option linter.all false
namespace Go.Proofs.YthleadfkfnnadaaGreat
open Value renaming int->J,slice->I,string->O,pointer->H,bool->A,agg->L,tuple->E
open IntKind renaming i64->U
open Option renaming none->Z,some->Q
open Bool renaming false->W,true->D
open List renaming length->G
open Ending renaming returned->T
open Obj renaming cells->V
open Rf Rt Go.Proofs.Tryz
open Go.RowKit
variable {x z:Ia} {k er ln:Int} {ls:List Ib} {q:Ib} {qo:List Int} {zL:List Rt.PL} {tail:List Value} {X:ZK} {Sb g cap N B M:Nat} {S:Rt.Src} {t ty:TypeId} {iv:Value} {w w' w1:World}
namespace Rf
open Rt
theorem pY (zL:List PL):∀(fs:List Fm) (n:Int),(frsOf zL fs n).map Fr.args=fs.map Fm.params
 | [],_=>rfl
 | [_],_=>rfl
 | a::b::r,n=>by
  show a.params::(frsOf zL (b::r) n).map Fr.args=_;rw[pY zL (b::r) n];rfl
theorem Vo {zL:List PL} {m:Mc} (j:G zL<=101) (h:XW S m):PlB (yT zL m):=by
 refine⟨?_,fun f hf=>?_,?_,?_,fun c hc=>?_,?_⟩
 ·show (frsOf zL m.zH m.line).length<=1000;rw[XD];have:=h.hi;omega
 ·have:f.args∈m.zH.map Fm.params:=by rw[<-pY zL m.zH m.line];exact xr.mpr ⟨f,hf,rfl⟩
  obtain⟨x,i,e⟩:=xr.mp this;rw[<-e];exact h.Zi.params x i
 ·show (varsOf zL m.values).length<=1000;simp[varsOf];omega
 ·show (Q8 zL m.values).length<=1000;simp[Q8];omega
 ·have d:c∈Q8 zL m.values:=hc;unfold Q8 at d;obtain⟨l,_,e⟩:=xr.mp d;rw[<-e];split
  ·cases hv:m.values[l]? with
   | none=>simp
   | some y=>exact h.Zi.cells y (qF hv)
  ·simp
 ·have:=h.out;show G m.output<=1000;omega
theorem mD (ls:List Ib) (p:Pl) (x:Ia) (v:Int):(vV ls p x v).line=p.line/\(vV ls p x v).zH.length=G p.zH/\(vV ls p x v).cells=p.cells:=by
 unfold vV;split
 ·exact⟨rfl,by simp,rfl⟩
 ·exact⟨rfl,rfl,rfl⟩
end Rf
open Rf Rt
theorem XN {ps zL:List PL} {m:Mc} {p P:Pl} {n:Nat} {N:Int} (h:Rf.Step ps zL ls S m p n) (f:P=p) (i:N=(n:Int)) {e:Ending} (d:Y6 P N w e w'):Y6 (yT zL (qd S m).1) ((qd S m).2.length:Nat) w e w':=by
 subst f i;rw[h.1,h.2.1];exact d
theorem vk {r:List UInt8} (l:List UInt8) (h:(l==r)=W):((⟨l.toArray⟩:Ia).toList==r)=W:=by rw[jl];exact h
theorem YE (l:List UInt8):((⟨l.toArray⟩:Ia).toList==l)=D:=by rw[jl];simp
section
variable {ps zL:List PL} {ls:List Ib} {S:Rt.Src} {m:Mc} (C:Ctx ps zL ls S) (F:KA ps zL ls S m) (hfin:m.fin = 0) (hK:XW S m) {l:Nat} (h1:l < ps.length) (h2:m.line = (l:Int) + 1) (h4:xu ps l ≠ [])
  (w:World) (Sb g cap:Nat) (iv fv vv cv ov:Value) (hG:jA w Sb g cap ls) (hv:Bf w fv vv cv ov (yT zL m)) (hi:kA w iv S.input)
include C F hfin hK h1 h2 h4 hG hv hi
theorem DN (z:l < G ls) {e:List qM} (o:ls[l]=Zz::x::Ym::q) (A:yg x=D) (J:Ex e q) (j:ps[l].form=⟨8,x,0,[],[],[e]⟩):Calls Tryz.prog 55 #[H (Q ⟨Sb,0,Z⟩),L (jh fv vv cv ov (yT zL m)),iv] w (Y6 (yT zL (qd S m).1) ((qd S m).2.length:Nat) w):=by
 have E:=Y4 C F;have h:G zL<=101:=by have:=C.both.len;have:=C.law.len;omega
 have d:=C.law.XO z;rw[o]at d;have i:=((Jh C h1 h2 h4).2.2.2 (by rw[j];simp)).2 e (by rw[j];simp);have I:=JB E J.2.2 (vm d (by simp;omega) (fun y hy=>by simp[hy])) i;have M:behind (Zz::x::Ym::q)=2:=VE (a:=[Zz,x]) (b:=q) (fun y hy=>by
  simp at hy;rcases hy with rfl | rfl
  ·simp[Zz,Ym]
  ·exact(Vs (Or.inl A)).2)
 have f:=lC C F hfin h1 h2 h4 j;obtain⟨g1,O,N⟩:=mD ls (yT zL m) x (zr S m e).1;refine(QC hG hv (Vo h hK) E.ok C.law C.both.nested h2 z o (by simp) (by obtain⟨a,c,e,_⟩:=hi;exact⟨a,_,c,e⟩)
  (fun _=>⟨by show 0 < (vV ls (yT zL m) x (zr S m e).1).zH.length;rw[O];exact E.ok.some,by show 0 < (vV ls (yT zL m) x (zr S m e).1).cells.length;rw[N];have:=E.ok.cells;omega⟩) (Or.inl ⟨YE [115,101,116],rfl,vV ls (yT zL m) x (zr S m e).1,fun _=>by rw[g1];exact h2,rfl,fun w0 w' P X tv hI hT=>?_⟩)).mono (fun e' w'' hs=>XN f rfl (by split <;> rfl) hs);refine(mn hI hT d C.law E.ok M (by simp) I rfl).mono ?_;rintro e' w'' ⟨rfl,k⟩;exact⟨rfl,X,k⟩
theorem DM (hl:l < G ls) {u:Ib} {i e:List qM} (W:ls[l]=Zz::x::qI::(q++kM::Ym::u)) (hx:yg x=D) (hq:Ex i q) (he:Ex e u) (z:ps[l].form=⟨9,x,0,[],i,[e]⟩):Calls Tryz.prog 55 #[H (Q ⟨Sb,0,Z⟩),.agg (jh fv vv cv ov (yT zL m)),iv] w (Y6 (yT zL (qd S m).1) ((qd S m).2.length:Nat) w):=by
 have E:=Y4 C F;have N:G zL<=101:=by have:=C.both.len;have:=C.law.len;omega
 have U:0 < (yT zL m).cells.length:=by have:=E.ok.cells;omega
 have R:∃a n c,iv=I a n c:=by obtain⟨a,c,e,_⟩:=hi;exact⟨a,_,c,e⟩
 have d:=C.law.XO hl;rw[W]at d;have h:=(Jh C h1 h2 h4).2.2.2 (by rw[z];simp);have O:=h.2 e (by rw[z];simp);have j:=h.1;rw[z]at j;have A:=JB E hq.2.2 (vm d (by simp;omega) (fun y hy=>by simp[hy])) j;have J:=JB E he.2.2 (vm d (by simp;omega) (fun y hy=>by simp[hy])) O;have o:Zz::x::qI::(q++kM::Ym::u)=(Zz::x::qI::(q++[kM]))++Ym::u:=by simp
 have hb:behind (Zz::x::qI::(q++kM::Ym::u))=G q+4:=by
  rw[o,VE (fun y hy=>?_)]
  ·simp
  ·simp only[zw,zd,qb,Z2]at hy;rcases hy with rfl | rfl | rfl | hy | rfl
   ·simp[Zz,Ym]
   ·exact(Vs (Or.inl hx)).2
   ·simp[qI,Ym]
   ·exact(K7 hq.1 _ hy).2
   ·simp[kM,Ym]
 have T:((Zz::x::qI::(q++kM::Ym::u)).take (G q+4-1)).drop 3=q:=by
  rw[show (G q)+4-1=G q+3 by omega,qz,qz,qz,jX,jX,jX,Yf,kG (zB _),Zp]
 have qG:(Zz::x::qI::(q++kM::Ym::u)).drop (G q+4+1)=u:=by
  rw[o,Zr,zp (by simp),show (G q)+4+1-(Zz::x::qI::(q++[kM])).length=1 by simp];rfl
 have M:=lB C F hfin h1 h2 h4 z;obtain⟨te,f⟩:∃te,te=if (zr S m i).2=0 then (if (zr S m e).2=0 then (if (zr S m i).1 < 0\/(((yT zL m).cells.getD (decl ls x) []).length:Int)<=(zr S m i).1 then 3 else 0)else (zr S m e).2)else (zr S m i).2:=⟨_,rfl⟩
 refine(QC (w:=w) (S:=Sb) (g:=g) (cap:=cap) (L:=l) (ls:=ls) (p:=(yT zL m)) (fv:=fv) (vv:=vv) (cv:=cv) (ov:=ov) (iv:=iv) hG hv (Vo N hK) E.ok C.law C.both.nested h2 hl W (by simp) R (te:=te) (nn:=2) (p1:={ yT zL m with cells:=(yT zL m).cells.set (decl ls x) (((yT zL m).cells.getD (decl ls x) []).set (zr S m i).1.toNat (zr S m e).1),line:=(jc ls (l+1):Nat) })
  (fun _=>⟨E.ok.some,by simpa using U⟩) (Or.inl ⟨YE [115,101,116],rfl,{ yT zL m with cells:=(yT zL m).cells.set (decl ls x) (((yT zL m).cells.getD (decl ls x) []).set (zr S m i).1.toNat (zr S m e).1) },fun _=>h2,rfl,fun w0 w' P X tv hI hT=>?_⟩)).mono (fun e' w'' hs=>XN M ?_ ?_ hs)
 ·refine(mj (w0:=w0) (w:=w') (S:=Sb) (g:=g) (cap:=cap) (P:=P) (ls:=ls) (p:=(yT zL m)) (X:=X) (v:=tv) (k:=(G q+4)) (a:=(zr S m i)) (r:=(zr S m e)) hI hT d C.law E.ok hb (by omega) (by simp;omega) (by rw[T];exact A) (by rw[qG];exact J) (by simp) te f rfl).mono ?_;rintro e' w'' ⟨rfl,V⟩;refine⟨rfl,X,?_⟩;have:(if te=0 then ({ yT zL m with cells:=(yT zL m).cells.set (decl ls x) (((yT zL m).cells.getD (decl ls x) []).set (zr S m i).1.toNat (zr S m e).1) }:Pl)else yT zL m)=if (zr S m i).2=0 then (if (zr S m e).2=0 then (if (zr S m i).1 < 0\/(((yT zL m).cells.getD (decl ls x) []).length:Int)<=(zr S m i).1 then yT zL m else { yT zL m with cells:=(yT zL m).cells.set (decl ls x) (((yT zL m).cells.getD (decl ls x) []).set (zr S m i).1.toNat (zr S m e).1) })else yT zL m)else yT zL m:=by
   rw[f];by_cases a1:(zr S m i).2=0
   ·rw[zE a1,zE a1];by_cases a2:(zr S m e).2=0
    ·rw[zE a2,zE a2];by_cases a3:(zr S m i).1 < 0\/(((yT zL m).cells.getD (decl ls x) []).length:Int)<=(zr S m i).1
     ·rw[zE a3,zE a3,zA (by decide)]
     ·rw[zA a3,zA a3,zE rfl]
    ·rw[zA a2,zA a2,zA a2]
   ·rw[zA a1,zA a1,zA a1]
  rw[this];exact V
 ·rw[f];by_cases a1:(zr S m i).2=0
  ·rw[zE a1,zE a1];by_cases a2:(zr S m e).2=0
   ·rw[zE a2,zE a2];by_cases a3:(zr S m i).1 < 0\/(((yT zL m).cells.getD (decl ls x) []).length:Int)<=(zr S m i).1
    ·rw[zE a3,zE a3,zA (by decide)]
    ·rw[zA a3,zA a3,zE rfl]
   ·rw[zA a2,zA a2,zA a2]
  ·rw[zA a1,zA a1,zA a1]
 ·rw[f];by_cases a1:(zr S m i).2=0
  ·rw[zE a1,zE a1];by_cases a2:(zr S m e).2=0
   ·rw[zE a2,zE a2];by_cases a3:(zr S m i).1 < 0\/(((yT zL m).cells.getD (decl ls x) []).length:Int)<=(zr S m i).1
    ·rw[zE a3,zE a3,zA (by decide)];rfl
    ·rw[zA a3,zA a3,zE rfl];rfl
   ·rw[zA a2,zA a2,zA a2];rfl
  ·rw[zA a1,zA a1,zA a1];rfl
theorem BE (o:l < G ls) {e:List qM} (D:ls[l]=fV::q) (J:Ex e q) (x:ps[l].form=⟨10,⟨#[]⟩,0,[],[],[e]⟩):Calls Tryz.prog 55 #[H (Q ⟨Sb,0,Z⟩),.agg (jh fv vv cv ov (yT zL m)),iv] w (Y6 (yT zL (qd S m).1) ((qd S m).2.length:Nat) w):=by
 have E:=Y4 C F;have j:G zL<=101:=by have:=C.both.len;have:=C.law.len;omega
 have z:0 < (yT zL m).cells.length:=by have:=E.ok.cells;omega
 have h:∃a n c,iv=I a n c:=by obtain⟨a,c,e,_⟩:=hi;exact⟨a,_,c,e⟩
 have f:=C.law.XO o;rw[D]at f;have k:=((Jh C h1 h2 h4).2.2.2 (by rw[x];simp)).2 e (by rw[x];simp);have M:=JB E J.2.2 (vm f (by simp) (fun y hy=>by simp[hy])) k;have i:=fI C F hfin h1 h2 h4 x;have N:=(kh J.1).ne;obtain⟨te,d⟩:∃te,te=if (zr S m e).2=0 then (if 50<=(yT zL m).out.length then 6 else 0)else (zr S m e).2:=⟨_,rfl⟩
 refine(QC (w:=w) (S:=Sb) (g:=g) (cap:=cap) (L:=l) (ls:=ls) (p:=(yT zL m)) (fv:=fv) (vv:=vv) (cv:=cv) (ov:=ov) (iv:=iv) hG hv (Vo j hK) E.ok C.law C.both.nested h2 o D (by simp) h (te:=te) (nn:=2) (p1:={ yT zL m with out:=(yT zL m).out++[(zr S m e).1],line:=(jc ls (l+1):Nat) })
  (fun _=>⟨E.ok.some,z⟩) (Or.inr ⟨vk [112,114,105,110,116] (by decide),Or.inr ⟨vk [112,114,105,110,116] (by decide),Or.inr ⟨vk [112,114,105,110,116] (by decide),vk [112,114,105,110,116] (by decide),Or.inl ⟨YE [112,114,105,110,116],vk [112,114,105,110,116] (by decide),rfl⟩,fun w0 w' P X tv _ hI hT=>?_⟩⟩⟩)).mono (fun e' w'' hs=>XN i ?_ ?_ hs)
 ·refine(dy (w0:=w0) (w:=w') (S:=Sb) (g:=g) (cap:=cap) (P:=P) l (ls:=ls) (p:=(yT zL m)) (X:=X) (v:=tv) iv (r:=(zr S m e)) hI hT C.law E.ok C.both.nested h2 o hK.out (by simp;omega) (vk [112,114,105,110,116] (by decide)) (YE [112,114,105,110,116]) M h te d rfl).mono ?_;rintro e' w'' ⟨rfl,X',A⟩;refine⟨rfl,X',?_⟩;have:(if te=0 then ({ yT zL m with out:=(yT zL m).out++[(zr S m e).1],line:=(jc ls (l+1):Nat) }:Pl)else yT zL m)=if (zr S m e).2=0 then (if 50<=(yT zL m).out.length then yT zL m else { yT zL m with out:=(yT zL m).out++[(zr S m e).1],line:=(jc ls (l+1):Nat) })else yT zL m:=by
   rw[d];by_cases a1:(zr S m e).2=0
   ·rw[zE a1,zE a1];by_cases a2:50<=(yT zL m).out.length
    ·rw[zE a2,zE a2,zA (by decide)]
    ·rw[zA a2,zA a2,zE rfl]
   ·rw[zA a1,zA a1,zA a1]
  rw[this];exact A
 ·rw[d];show _=if (zr S m e).2=0 then (if 50<=(yT zL m).out.length then _ else _)else _
  by_cases a1:(zr S m e).2=0
  ·rw[zE a1,zE a1];by_cases a2:50<=(yT zL m).out.length
   ·rw[zE a2,zE a2,zA (by decide)]
   ·rw[zA a2,zA a2,zE rfl];rfl
  ·rw[zA a1,zA a1,zA a1]
 ·rw[d];show _=((if (zr S m e).2=0 then (if 50<=(yT zL m).out.length then 1 else 2)else 1:Nat):Int);by_cases a1:(zr S m e).2=0
  ·rw[zE a1,zE a1];by_cases a2:50<=(yT zL m).out.length
   ·rw[zE a2,zE a2,zA (by decide)];rfl
   ·rw[zA a2,zA a2,zE rfl];rfl
  ·rw[zA a1,zA a1,zA a1];rfl
theorem DO (f:G S.input<=100) (y:l < G ls) (z:ls[l]=[oF,x]) (A:ps[l].form=⟨11,x,0,[],[],[]⟩):Calls Tryz.prog 55 #[H (Q ⟨Sb,0,Z⟩),.agg (jh fv vv cv ov (yT zL m)),iv] w (Y6 (yT zL (qd S m).1) ((qd S m).2.length:Nat) w):=by
 have E:=Y4 C F;have i:G zL<=101:=by have:=C.both.len;have:=C.law.len;omega
 have k:0 < (yT zL m).cells.length:=by have:=E.ok.cells;omega
 have j:∃a n c,iv=I a n c:=by obtain⟨a,c,e,_⟩:=hi;exact⟨a,_,c,e⟩
 have h:=lD C F hfin h1 h2 h4 f A;obtain⟨te,d⟩:∃te:Int,te=if (G S.input)<=(yT zL m).read then 4 else 0:=⟨_,rfl⟩
 obtain⟨g1,J,D⟩:=mD ls (yT zL m) x (S.input.getD (yT zL m).read 0);refine(QC (w:=w) (S:=Sb) (g:=g) (cap:=cap) (L:=l) (ls:=ls) (p:=(yT zL m)) (fv:=fv) (vv:=vv) (cv:=cv) (ov:=ov) (iv:=iv) hG hv (Vo i hK) E.ok C.law C.both.nested h2 y z (by simp) j (te:=te) (nn:=3) (p1:={ vV ls (yT zL m) x (S.input.getD (yT zL m).read 0)with read:=(yT zL m).read+1,line:=(jc ls (l+1):Nat) })
  (fun _=>⟨by show 0 < (vV ls (yT zL m) x (S.input.getD (yT zL m).read 0)).zH.length;rw[J];exact E.ok.some,by show 0 < (vV ls (yT zL m) x (S.input.getD (yT zL m).read 0)).cells.length;rw[D];exact k⟩) (Or.inr ⟨vk [114,101,97,100] (by decide),Or.inr ⟨vk [114,101,97,100] (by decide),Or.inr ⟨vk [114,101,97,100] (by decide),vk [114,101,97,100] (by decide),Or.inr ⟨vk [114,101,97,100] (by decide),Or.inl ⟨YE [114,101,97,100],rfl⟩⟩,fun w0 w' P X tv hb hI hT=>?_⟩⟩⟩)).mono (fun e' w'' hs=>XN h ?_ ?_ hs)
 ·refine(fX (w0:=w0) (w:=w') (S:=Sb) (g:=g) (cap:=cap) (P:=P) l (ls:=ls) (p:=(yT zL m)) (X:=X) (v:=tv) (iv:=iv) (qo:=S.input) hI hT (hi.zP hb) f C.law E.ok C.both.nested h2 y (by simp) (YE [114,101,97,100]) te d rfl).mono ?_;rintro e' w'' ⟨rfl,o⟩;refine⟨rfl,X,?_⟩;have:(if te=0 then ({ vV ls (yT zL m) x (S.input.getD (yT zL m).read 0)with read:=(yT zL m).read+1,line:=(jc ls (l+1):Nat) }:Pl)else yT zL m)=if (G S.input)<=(yT zL m).read then yT zL m else { vV ls (yT zL m) x (S.input.getD (yT zL m).read 0)with read:=(yT zL m).read+1,line:=(jc ls (l+1):Nat) }:=by
   rw[d];by_cases a1:G S.input<=(yT zL m).read
   ·rw[zE a1,zE a1,zA (by decide)]
   ·rw[zA a1,zA a1,zE rfl]
  rw[this];exact o
 ·rw[d];show _=if (G S.input)<=(yT zL m).read then _ else _
  by_cases a1:G S.input<=(yT zL m).read
  ·rw[zE a1,zE a1,zA (by decide)]
  ·rw[zA a1,zA a1,zE rfl];rfl
 ·rw[d];show _=((if G S.input<=(yT zL m).read then 1 else 3:Nat):Int);by_cases a1:G S.input<=(yT zL m).read
  ·rw[zE a1,zE a1,zA (by decide)];rfl
  ·rw[zA a1,zA a1,zE rfl];rfl
end
namespace Rf
open Rt
theorem wF (S:Rt.Src) (m:Mc):∀(vs:List (List qM)) (acc:List Int),argsI S m vs acc=argsL (vs.map (zr S m)) acc
 | [],_=>rfl
 | e::r,acc=>by
  rw[argsI,qp,argsL,wF S m r]
theorem pL:∀(args:List Ib) (a:Ib),a∈args->∀y∈a,y∈joinC args
 | [],_,h=>by simp at h
 | [b],a,h=>by
  rw[yN.mp h];exact fun y hy=>hy
 | b::c::r,a,h=>fun y hy=>by
  rw[joinC];rcases zw.mp h with rfl | h
  ·exact zY _ hy
  ·exact zb _ (zm _ (pL (c::r) a h y hy))
theorem pM:∀(args:List Ib) (a:Ib),a∈args->G a<=(joinC args).length
 | [],_,h=>by simp at h
 | [b],a,h=>by
  rw[yN.mp h];exact zB _
 | b::c::r,a,h=>by
  rw[joinC,ze,yE];rcases zw.mp h with rfl | h
  ·omega
  ·have:=pM (c::r) a h;omega
theorem gI:∀(args:List Ib),(∀a∈args,0 < G a)->G args<=(joinC args).length
 | [],_=>by simp
 | [b],h=>by have:=h b (by simp);simp[joinC];omega
 | b::c::r,h=>by
  rw[joinC,ze,yE];have:=gI (c::r) (fun a ha=>h a (by simp at ha ⊢;right;exact ha));simp only[yE]at this ⊢;omega
theorem GB {es:List (List qM)} {ps:List Ib} (h:Bg es ps):∀j (h1:j < G es) (h2:j < G ps),Ex es[j] ps[j]:=by
 induction h with
 | nil=>intro j h1;simp at h1
 | cons e p es ps he _ ih=>
  intro j h1 h2;cases j with
  | zero=>exact he
  | succ j=>exact ih j (by simpa using h1) (by simpa using h2)
end Rf
open Rf Rt
section
variable {ps zL:List PL} {ls:List Ib} {S:Rt.Src} {m:Mc} (C:Ctx ps zL ls S) (F:KA ps zL ls S m) (hfin:m.fin = 0) (hK:XW S m) {l:Nat} (h1:l < ps.length) (h2:m.line = (l:Int) + 1) (h4:xu ps l ≠ [])
  (w:World) (Sb g cap:Nat) (iv fv vv cv ov:Value) (hG:jA w Sb g cap ls) (hv:Bf w fv vv cv ov (yT zL m)) (hi:kA w iv S.input)
include C F hfin hK h1 h2 h4 hG hv hi
theorem gf (D:l < G ls) {e:List qM} (R:k=5\/k=7) (hz:z=Gi\/z=ez) (O:ls[l]=z::q) (T:Ex e q) (j:ps[l].form=⟨k,⟨#[]⟩,0,[],[],[e]⟩):Calls Tryz.prog 55 #[H (Q ⟨Sb,0,Z⟩),.agg (jh fv vv cv ov (yT zL m)),iv] w (Y6 (yT zL (qd S m).1) ((qd S m).2.length:Nat) w):=by
 have E:=Y4 C F;have x:G zL<=101:=by have:=C.both.len;have:=C.law.len;omega
 have M:0 < (yT zL m).cells.length:=by have:=E.ok.cells;omega
 have i:∃a n c,iv=I a n c:=by obtain⟨a,c,e,_⟩:=hi;exact⟨a,_,c,e⟩
 have f:=C.law.XO D;rw[O]at f;have A:=((Jh C h1 h2 h4).2.2.2 (by rw[j];simp;omega)).2 e (by rw[j];simp);have V:=JB E T.2.2 (vm f (by simp) (fun y hy=>by simp[hy])) A;have o:=KK C F hfin h1 h2 h4 R j;have a0:=(kh T.1).ne;have J:kd ps l=5\/kd ps l=7:=by rw[Qm h1,j];exact R
 obtain⟨o1,U⟩:=oV C.dz C.both C.law.len h1 J;have d:∀r:List UInt8,([105,102]==r)=W->([119,104,105,108,101]==r)=W->(z.toList==r)=W:=fun r a b=>by
  rcases hz with rfl | rfl
  ·exact vk [105,102] a
  ·exact vk [119,104,105,108,101] b
 obtain⟨te,h⟩:∃te,te=(zr S m e).2:=⟨_,rfl⟩;refine(QC (w:=w) (S:=Sb) (g:=g) (cap:=cap) (L:=l) (ls:=ls) (p:=(yT zL m)) (fv:=fv) (vv:=vv) (cv:=cv) (ov:=ov) (iv:=iv) hG hv (Vo x hK) E.ok C.law C.both.nested h2 D O (by simp) i (te:=te) (nn:=1) (p1:={ yT zL m with line:=(jc ls (if (zr S m e).1=0 then other ls l else l+1):Nat) })
  (fun _=>⟨E.ok.some,M⟩) (Or.inr ⟨d _ (by decide) (by decide),Or.inr ⟨d _ (by decide) (by decide),Or.inr ⟨d _ (by decide) (by decide),d _ (by decide) (by decide),Or.inr ⟨d _ (by decide) (by decide),Or.inr ⟨d _ (by decide) (by decide),rfl⟩⟩,fun w0 w' P X tv _ hI hT=>?_⟩⟩⟩)).mono (fun e' w'' hs=>XN o ?_ ?_ hs)
 ·refine(cV (w0:=w0) (w:=w') (S:=Sb) (g:=g) (cap:=cap) (P:=P) l (ls:=ls) (p:=(yT zL m)) (X:=X) (v:=tv) iv (r:=(zr S m e)) hI hT C.law E.ok C.both.nested h2 D U (by simp;omega) (d _ (by decide) (by decide)) (d _ (by decide) (by decide)) V i rfl).mono ?_;rintro e' w'' ⟨rfl,N⟩;rw[h];exact⟨rfl,X,N⟩
 ·rw[h]
 ·rw[h];split <;> rfl
theorem DP (hl:l < G ls) {args:List Ib} {vs:List (List qM)} (ht:ls[l]=VY::x::joinC args) (M:Bg vs args) (T:ps[l].form=⟨12,x,0,[],[],vs⟩):Calls Tryz.prog 55 #[H (Q ⟨Sb,0,Z⟩),.agg (jh fv vv cv ov (yT zL m)),iv] w (Y6 (yT zL (qd S m).1) ((qd S m).2.length:Nat) w):=by
 have E:=Y4 C F;have O:G zL<=101:=by have:=C.both.len;have:=C.law.len;omega
 have U:0 < (yT zL m).cells.length:=by have:=E.ok.cells;omega
 have R:∃a n c,iv=I a n c:=by obtain⟨a,c,e,_⟩:=hi;exact⟨a,_,c,e⟩
 have d:=C.law.XO hl;rw[ht]at d;have A:=((Jh C h1 h2 h4).2.2.2 (by rw[T];simp)).2;rw[T]at A;obtain⟨d1,d2,h⟩:=lE C F hfin h1 h2 h4 T;rw[wF]at h;obtain⟨D,hD⟩:∃D,decl ls x=D+1:=⟨decl ls x-1,by omega⟩;have o:(yT zL m).zH.length=G m.zH:=XD ..;have k:parts (List.drop 2 (VY::x::joinC args))=args:=aP args M.is;have J:G args<=1000:=by
  have h1:=gI args (fun a ha=>(kh (M.is a ha)).ne);have:=d.1;simp at this;omega
 obtain⟨rs,i⟩:∃rs,rs=vs.map (zr S m):=⟨_,rfl⟩;have N:∀j (h1:j < G rs) (h2:j < (parts (List.drop 2 (VY::x::joinC args))).length),Z5 ls (yT zL m) rs[j] (parts (List.drop 2 (VY::x::joinC args)))[j]:=by
  subst i;rw[k];intro j j1 j2;have z:j < G vs:=by simpa using j1
  rw[qc];have hm:=zj j2;refine JB E (GB M j z j2).2.2 (vm d ?_ ?_) (A _ (zj z))
  ·have:=pM args _ hm;simp only[yE];omega
  ·intro y hy;exact zm _ (zm _ (pL args _ hm y hy))
 rw[<-i,hD]at h;obtain⟨te,f⟩:∃te,te=if (argsL rs []).2=0 then (if 6<=(yT zL m).zH.length then 5 else 0)else (argsL rs []).2:=⟨_,rfl⟩
 refine(QC (w:=w) (S:=Sb) (g:=g) (cap:=cap) (L:=l) (ls:=ls) (p:=(yT zL m)) (fv:=fv) (vv:=vv) (cv:=cv) (ov:=ov) (iv:=iv) hG hv (Vo O hK) E.ok C.law C.both.nested h2 hl ht (by simp) R (te:=te) (nn:=1) (p1:={ yT zL m with zH:=(yT zL m).zH++[⟨D+1,(argsL rs []).1,(yT zL m).line⟩],line:=(jc ls (D+1):Nat) })
  (fun _=>⟨by simp,U⟩) (Or.inr ⟨vk [99,97,108,108] (by decide),Or.inl ⟨YE [99,97,108,108],rfl,fun w0 w' P X tv hI hT=>?_⟩⟩)).mono (fun e' w'' hs=>XN h ?_ ?_ hs)
 ·refine(rF (w0:=w0) (w:=w') (S:=Sb) (g:=g) (cap:=cap) (P:=P) D (ls:=ls) (p:=(yT zL m)) (X:=X) (v:=tv) rs hI hT d C.law E.ok C.both.nested (by simp) (by omega) hD (by rw[o];exact hK.hi) (by rw[k,i,qR];exact M.len) N (by rw[k];exact J) te f rfl).mono ?_;rintro e' w'' ⟨rfl,X',V⟩;refine⟨rfl,X',?_⟩;have:(if te=0 then ({ yT zL m with zH:=(yT zL m).zH++[⟨D+1,(argsL rs []).1,(yT zL m).line⟩],line:=(jc ls (D+1):Nat) }:Pl)else yT zL m)=if (argsL rs []).2=0 then (if 6<=(yT zL m).zH.length then yT zL m else { yT zL m with zH:=(yT zL m).zH++[⟨D+1,(argsL rs []).1,(yT zL m).line⟩],line:=(jc ls (D+1):Nat) })else yT zL m:=by
   rw[f];by_cases a1:(argsL rs []).2=0
   ·rw[zE a1,zE a1];by_cases a2:6<=(yT zL m).zH.length
    ·rw[zE a2,zE a2,zA (by decide)]
    ·rw[zA a2,zA a2,zE rfl]
   ·rw[zA a1,zA a1,zA a1]
  rw[this];exact V
 ·rw[f];by_cases a1:(argsL rs []).2=0
  ·rw[zE a1,zE a1];by_cases a2:6<=(yT zL m).zH.length
   ·have W:6<=G m.zH:=by rw[<-o];exact a2
    rw[zE a2,zE W,zA (by decide)]
   ·have W:¬6<=G m.zH:=by rw[<-o];exact a2
    rw[zA a2,zA W,zE rfl];rfl
  ·rw[zA a1,zA a1,zA a1]
 ·split <;> rfl
theorem mJ (T:l < G ls) (hk:(k=13/\z=aK)\/(k=4/\z=DH)) (N:ls[l]=[z]) (V:ps[l].form=⟨k,⟨#[]⟩,0,[],[],[]⟩):Calls Tryz.prog 55 #[H (Q ⟨Sb,0,Z⟩),L (jh fv vv cv ov (yT zL m)),iv] w (Y6 (yT zL (qd S m).1) ((qd S m).2.length:Nat) w):=by
 have E:=Y4 C F;have x:G zL<=101:=by have:=C.both.len;have:=C.law.len;omega
 have D:0 < (yT zL m).cells.length:=by have:=E.ok.cells;omega
 have A:∃a n c,iv=I a n c:=by obtain⟨a,c,e,_⟩:=hi;exact⟨a,_,c,e⟩
 have o:(yT zL m).zH.length=G m.zH:=XD ..;have R:=hK.lo;have U:=hK.hi;have i:∀(te:Int) (p1:Pl),(te=0->0 < G p1.zH/\0 < G p1.cells)->(∀(w0 w':World) (P:Nat) (X:Qg),JW w0 w' Sb g cap ls P (yT zL m) X->Calls Tryz.prog 98 #[H (Q ⟨Sb,0,Z⟩),H (Q ⟨P,0,Z⟩)] w' (rR Sb g cap ls P (yT zL m) te p1 w0))->
   Calls Tryz.prog 55 #[H (Q ⟨Sb,0,Z⟩),L (jh fv vv cv ov (yT zL m)),iv] w (Y6 (if te=0 then p1 else { yT zL m with fin:=te }) (if te=0 then 1+((Rf.top (yT zL m)).args.length:Int)else 1) w):=by
  intro te p1 y j;refine QC hG hv (Vo x hK) E.ok C.law C.both.nested h2 T N (by simp) A y ?_;rcases hk with⟨_,rfl⟩| ⟨_,rfl⟩
  ·exact Or.inr ⟨vk [114,101,116,117,114,110] (by decide),Or.inr ⟨vk [114,101,116,117,114,110] (by decide),Or.inl ⟨Or.inl (YE [114,101,116,117,114,110]),rfl,j⟩⟩⟩
  ·exact Or.inr ⟨vk [101,110,100] (by decide),Or.inr ⟨vk [101,110,100] (by decide),Or.inl ⟨Or.inr ⟨vk [101,110,100] (by decide),YE [101,110,100]⟩,rfl,j⟩⟩⟩
 obtain⟨M,J⟩:=fJ C F hfin h1 h2 h4 (k:=k) (by rcases hk with⟨a,_⟩| ⟨a,_⟩ <;> simp[a]) V;by_cases h0:G m.zH < 2
 ·have d:=M h0;refine(i 1 (yT zL m) (fun h=>absurd h (by decide)) (fun w0 w' P X hI=>?_)).mono (fun e' w'' hs=>XN d ?_ ?_ hs)
  ·refine(nI hI (by omega)).mono ?_;rintro e' w'' ⟨rfl,f⟩;exact⟨rfl,X,by rw[zA (by decide)];exact f⟩
  ·rw[zA (by decide)]
  ·rw[zA (by decide)];rfl
 ·obtain⟨c,c1,W,d⟩:=J h0;obtain⟨n,O⟩:∃n,G m.zH=n+1+1:=⟨G m.zH-2,by omega⟩;refine(i 0 { yT zL m with zH:=(yT zL m).zH.dropLast,line:=(jc ls (c+1):Nat) } (fun _=>⟨by rw[XU,o];omega,D⟩) (fun w0 w' P X hI=>?_)).mono (fun e' w'' hs=>XN d ?_ ?_ hs)
  ·refine(nH n c hI (by rw[o];exact O) (by omega) W c1 C.law C.both.nested).mono ?_;rintro e' w'' ⟨rfl,X',f⟩;exact⟨rfl,X',by rw[zE rfl];exact f⟩
  ·rw[zE rfl]
  ·rw[zE rfl];omega
end
theorem Bw {ps zL:List PL} {m:Mc} (C:Ctx ps zL ls S) (F:KA ps zL ls S m) (d:m.fin=0) (I:XW S m) (R:G S.input<=100) {fv vv cv ov:Value} (J:jA w Sb g cap ls) (o:Bf w fv vv cv ov (yT zL m)) (z:kA w iv S.input):Calls Tryz.prog 55 #[H (Q ⟨Sb,0,Z⟩),L (jh fv vv cv ov (yT zL m)),iv] w (Y6 (yT zL (qd S m).1) ((qd S m).2.length:Nat) w):=by
 obtain⟨l,j,N,O,M⟩:=F.line;have k:l < G ls:=by rw[<-C.len];exact j
 have hli:=C.both.form k;rw[show ((l+1:Nat):Int)=(l:Int)+1 from rfl,Xp C.dz j]at hli;have h:xy ps[l].form.kind=D\/ps[l].form.kind=4:=by
  unfold xV at O;rw[aa C.dz j]at O;by_cases a:xy ps[l].form.kind=D
  ·exact Or.inl a
  ·rw[zA a]at O;by_cases b:ps[l].form.kind=4
   ·exact Or.inr b
   ·rw[zA b]at O;exact absurd O (by decide)
 generalize y:ls[l]=t at hli;generalize A:ps[l].form=f at hli h;cases hli with
 | empty=>exact absurd h (by decide)
 | var x hx=>exact absurd h (by simp[xy])
 | array x n _ _ _ _=>exact absurd h (by simp[xy])
 | proc x q _ _ _=>exact absurd h (by simp[xy])
 | end_=>exact mJ C F d I j N M w Sb g cap iv fv vv cv ov J o z k (Or.inr ⟨rfl,rfl⟩) y A
 | F8 p e he=>exact gf C F d I j N M w Sb g cap iv fv vv cv ov J o z k (Or.inl rfl) (Or.inl rfl) y he A
 | gb=>exact absurd h (by decide)
 | Vg p e he=>exact gf C F d I j N M w Sb g cap iv fv vv cv ov J o z k (Or.inr rfl) (Or.inr rfl) y he A
 | set1 x p e hx he=>exact DN C F d I j N M w Sb g cap iv fv vv cv ov J o z k y hx he A
 | rj x q i p e hx hq he=>exact DM C F d I j N M w Sb g cap iv fv vv cv ov J o z k y hx hq he A
 | print p e he=>exact BE C F d I j N M w Sb g cap iv fv vv cv ov J o z k y he A
 | read x hx=>exact DO C F d I j N M w Sb g cap iv fv vv cv ov J o z R k y A
 | call x args vs hx he=>exact DP C F d I j N M w Sb g cap iv fv vv cv ov J o z k y he A
 | Jb=>exact mJ C F d I j N M w Sb g cap iv fv vv cv ov J o z k (Or.inl ⟨rfl,rfl⟩) y A
section
attribute [local go_sem ↓] Go.wp_at_zero Go.wp_at_succ
theorem run_right (s:Ia) (fuel:Nat) (hs:s.size<=maxLen) (hi:kA w iv qo) (hR:Rt.qx s=(0,0,zL)) (hl:G qo<=100) (b9:fuel<=1000):Calls Tryz.prog 25 #[O s,iv,J U fuel] w (RunP (Zs s zL qo) fuel w):=by
 have a5:=tQ hR;have hS:=ui hR hl;have HI:=zD hi;obtain⟨b7,b6,rfl,_⟩:=hi;go_enter func25,ntmps25;go_wp2_with fail;have a7:=(zI w.heap.size w).alloc (zB _) (V zRes 52);refine(nC s hs (HI.u.zP a7) (fun p hp=>by rw[hR]at hp;injection hp with _ hp;injection hp with _ hp;rw[<-hp];exact a5)).mono ?_;rintro e w1 ⟨a6,hcase⟩;have a8:Below w.heap.size w w1:=a7.trans (a6.mono (by simp));have a9:=zU (zN w (V zRes 52)) a6;rcases hcase with⟨hlt,_⟩| ⟨_,er,ln,b5,F,hc⟩
 ·exact absurd hlt (by omega)
 rw[hR]at F;injection F with e1 F;injection F with e2 e3;subst e1 e2 e3;rcases hc with⟨h0,_⟩| ⟨_,_,hlen,M0,X,rfl,hM0,hblk,hmc⟩
 ·exact absurd rfl h0
 have T:=ph hS;obtain⟨la,lc,ia,ic,fa,fc,va,vc,oa,oc,q1,q2,q3,q4,q5⟩:=hmc.shape;generalize b2:Rt.firstM (Zs s zL qo)=m0 at *;have j:xC X m0 []=#[I la (G zL) lc,I ia (G qo) ic,I fa (G m0.zH) fc,I va (G m0.values) vc,J U m0.taken,I oa (G m0.output) oc,J U m0.line,J U m0.fin]:=by
  simp only[xC,q1,q2,q3,q4,q5,Zs,qR];rfl
 rw[j];have A:=(zI w1.heap.size w1).alloc (zB _) (V (xC X m0 []) 90);have a3:=hmc.Gg A (zN w1 (V (xC X m0 []) 90)) (by unfold FE;decide);rw[j]at A a3;have H2:=XX a3 (a8.trans (A.mono (B':=w.heap.size) a8.size)) (zU a9 A);have b0:=zD (fun k hk=>zi (show w.heap.size<=_ by simp) (hblk k hk));have R:=zQ a9;have HK:=zD T;have HS:=zD hS;have H:=zD b2;go_wp2_with fail;generalize (Zs s zL qo)=S at *;generalize (w1.alloc (V #[I la (G zL) lc,I ia (G qo) ic,I fa (G m0.zH) fc,I va (G m0.values) vc,J U m0.taken,I oa (G m0.output) oc,J U m0.line,J U m0.fin] 90))=w2 at *;have b8:w1.heap.size < w2.heap.size:=zQ H2.u.1.block;generalize w1.heap.size=M at *;generalize (w.alloc (V zRes 52)).heap.size=B at *;go_loopw [12] (fun i wr=>∃(k:Nat) (m:Rt.Mc) (X':ZK),k<=fuel/\i=J U k/\Z8 M B 90 [] S X X' m w2 wr/\XW S m/\Rt.runM S fuel m0=((Rt.runM S (fuel-k) m).1,(Rt.runM S (fuel-k) m).2+k))
  (fun i _=>fuel+1-(intOf i).toNat)
 case atStart=>exact⟨0,m0,X,zo _,rfl,Z8.start H2.u.1 (zI _ _),HK.u,rfl⟩
 case round=>
  obtain⟨k,m,X',hk,rfl,hA,b3,a2⟩:=hrel;have o:=zD hA;have N:=zD b3;have y:=zD a2;by_cases hlt:k < fuel
  ·have a4:(k:Int) < (fuel:Int):=by omega
   by_cases hz:m.fin=0
   ·have b1:(m.fin==0)=D:=by simpa using hz
    go_wp2_with fail;refine(ur o.u.mc).mono ?_;rintro e w3 ⟨rfl,rfl⟩;go_wp2_with fail;refine(Bx o.u.mc N.u.Zi (HS.u.small _) HS.u.fwd).mono ?_;rintro e w4 ⟨rv,c0,rfl,a0,_⟩;have b4:=o.u.more a0.mc a0.vz a0.grow;have HF:=qG b4 (fK HS.u N.u);have HN:=zD (show Rt.runM S fuel m0=((Rt.runM S (fuel-(k+1)) (Rt.qd S m).1).1,(Rt.runM S (fuel-(k+1)) (Rt.qd S m).1).2+(k+1)) by
     rw[y.u,show fuel-k=(fuel-(k+1))+1 by omega,Rt.runM,zE hz];simp only[yZ,jH];omega)
    go_wp2;go_roundw
    ·exact⟨k+1,_,_,by omega,by go_num,HF.u.1,HF.u.2,HN.u⟩
    ·simp[intOf];omega
   ·have b1:(m.fin==0)=W:=by simpa using hz
    have HE:=zD (show Rt.runM S fuel m0=(m,k) by
     rw[y.u,show fuel-k=(fuel-k-1)+1 by omega,Rt.runM,zA hz];simp)
    go_wp2_with fail;refine(ur o.u.mc).mono ?_;rintro e w3 ⟨rfl,rfl⟩;go_wp2_with fail;refine(IW o.u.mc (zi N.u.out (by omega))).mono ?_;rintro e w5 ⟨h,v,rfl,d⟩;have hB:=run_frame o.u H2.u.2.1 R b0.u;have bR:=zU (Z8.keeps H2.u.1 o.u H2.u.2.2 (by omega) (by decide)) h;have x:=o.u.mc.zP h;have Z:=hB.trans (h.mono (B':=w.heap.size) hB.size);have f:=yn d hB.size;obtain⟨ad,cap,rfl⟩:=zK d;obtain⟨r0,r1,r2⟩:=yb bR;have z:=zS bR;have HF:Hd (∀a b c,Below w.heap.size w (W3 w5 w.heap.size a b c)/\(W3 w5 w.heap.size a b c).ownsRow w.heap.size 3 1 (I ad (G m.output) cap) (G m.output) (xR m.output)):=zD (fun a b c=>⟨yx (yx (yx Z (zB _) _ _) (zB _) _ _) (zB _) _ _,yP f (fun g hg=>iF (by have:=(d.lt g hg).1;have:=o.u.vz.size;omega))⟩);have a1:=zD x;go_wp2_with fail;refine(ur a1.u).mono ?_;rintro e w6 ⟨rfl,rfl⟩;go_wp2_with fail;refine zT (v:=E #[L #[J U m.fin,J U k,I ad (G m.output) cap],J U 0,J U 0]) ?_ rfl ⟨(HF.u _ _ _).1,I ad (G m.output) cap,by rw[H.u,HE.u],by rw[H.u,HE.u];exact(HF.u _ _ _).2⟩;simp[results,results25,go_sem,r0,r1,r2]
  ·have a4:¬(k:Int) < (fuel:Int):=by omega
   have HE:=zD (show Rt.runM S fuel m0=(m,k) by
     rw[y.u,show fuel-k=0 by omega,Rt.runM];simp)
   go_wp2_with fail;refine(IW o.u.mc (zi N.u.out (by omega))).mono ?_;rintro e w5 ⟨h,v,rfl,d⟩;have hB:=run_frame o.u H2.u.2.1 R b0.u;have bR:=zU (Z8.keeps H2.u.1 o.u H2.u.2.2 (by omega) (by decide)) h;have x:=o.u.mc.zP h;have Z:=hB.trans (h.mono (B':=w.heap.size) hB.size);have f:=yn d hB.size;obtain⟨ad,cap,rfl⟩:=zK d;obtain⟨r0,r1,r2⟩:=yb bR;have z:=zS bR;have HF:Hd (∀a b c,Below w.heap.size w (W3 w5 w.heap.size a b c)/\(W3 w5 w.heap.size a b c).ownsRow w.heap.size 3 1 (I ad (G m.output) cap) (G m.output) (xR m.output)):=zD (fun a b c=>⟨yx (yx (yx Z (zB _) _ _) (zB _) _ _) (zB _) _ _,yP f (fun g hg=>iF (by have:=(d.lt g hg).1;have:=o.u.vz.size;omega))⟩);have a1:=zD x;go_wp2_with fail;refine(ur a1.u).mono ?_;rintro e w6 ⟨rfl,rfl⟩;go_wp2_with fail;refine zT (v:=E #[L #[J U m.fin,J U k,I ad (G m.output) cap],J U 0,J U 0]) ?_ rfl ⟨(HF.u _ _ _).1,I ad (G m.output) cap,by rw[H.u,HE.u],by rw[H.u,HE.u];exact(HF.u _ _ _).2⟩;simp[results,results25,go_sem,r0,r1,r2]
theorem Rt.uS {s:Ia} (h:(Rt.qx s).1=0):Rt.qx s=(0,0,(Rt.qx s).2.2):=by
 refine Z6 h (Z6 ?_ rfl);unfold Rt.qx Rt.Yq Rt.vH Rt.jV at h ⊢
 repeat' split
 all_goals first | rfl | (exfalso;simp_all)
noncomputable def IZ (s:ByteArray) (qo:List Int) (fuel:Int):RunA:=
 if 100 < qo.length then ⟨0,0,[],1,0⟩
 else if ¬(Rt.qx s).1=0 then ⟨0,0,[],(Rt.qx s).1,(Rt.qx s).2.1⟩
 else if fuel < 0\/1000 < fuel then ⟨0,0,[],5,0⟩
 else ⟨(Rt.runM (Zs s (Rt.qx s).2.2 qo) fuel.toNat (Rt.firstM (Zs s (Rt.qx s).2.2 qo))).1.fin,(Rt.runM (Zs s (Rt.qx s).2.2 qo) fuel.toNat (Rt.firstM (Zs s (Rt.qx s).2.2 qo))).2,(Rt.runM (Zs s (Rt.qx s).2.2 qo) fuel.toNat (Rt.firstM (Zs s (Rt.qx s).2.2 qo))).1.output,0,0⟩
theorem IQ.refused {r:RunA} {e:Ending} (d:r=⟨0,0,[],er,ln⟩) (h:Below w.heap.size w w') (f:e=T (E #[L zRes,J U er,J U ln])):IQ r w e w':=by
 subst d f;exact⟨h,_,rfl,zW _ _ _ _⟩
theorem run_refused (s:Ia) (x:Int) (hs:s.size<=maxLen) (M:kA w iv qo) (r:RunA) (er ln:Int) (hr:r=⟨0,0,[],er,ln⟩) (h:(100 < G qo/\er=1/\ln=0)\/(G qo<=100/\¬er=0/\∃zL,Rt.qx s=(er,ln,zL))):Calls Tryz.prog 25 #[O s,iv,J U x] w (IQ r w):=by
 have HI:=zD M;obtain⟨W,H,rfl,_⟩:=M;have HR:=zD hr;have a0:(er != 0)=D:=by rcases h with⟨_,rfl,_⟩| ⟨_,h,_⟩ <;> simp_all
 have HH:=zD h;go_enter func25,ntmps25;go_wp2_with fail;have j:=(zI w.heap.size w).alloc (zB _) (V zRes 52);refine(nC s hs (HI.u.zP j) (fun p hp=>tQ hp)).mono ?_;rintro e w1 ⟨i,hcase⟩;have y:Below w.heap.size w w1:=j.trans (i.mono (by simp));have d:=zU (zN w (V zRes 52)) i;have he:e=T (E #[L KC,J U er,J U ln]):=by
  rcases HH.u with⟨h1,h2,h3⟩| ⟨h1,h2,p,h3⟩
  ·subst h2 h3;rcases hcase with⟨_,he⟩| ⟨h,_⟩
   ·exact he
   ·omega
  ·rcases hcase with⟨h,_⟩| ⟨_,a1,R,F,hR,hc⟩
   ·omega
   ·rw[h3]at hR;injection hR with e1 hR;injection hR with e2 _;subst e1 e2;rcases hc with⟨_,he⟩| ⟨h0,_⟩
    ·exact he
    ·exact absurd h0 h2
 subst he;have N:=zQ d;obtain⟨r0,r1,r2⟩:=yb d;have z:=zS d;have f:=zf (zf (zf d 0 (J U 0)) 1 (J U 0)) 2 (I Z 0 0);have E0:=fun o=>(yb (yR f o)).1;have E1:=fun o=>(yb (yR f o)).2.1;have E2:=fun o=>(yb (yR f o)).2.2;have A:=XX E0 E1 E2;have k:=yx (yx (yx y (zB _) 0 (J U 0)) (zB _) 1 (J U 0)) (zB _) 2 (I Z 0 0);have HB:=zD (k.alloc k.size (V KC 90));go_wp2_with fail;refine zT (v:=E #[L zRes,J U er,J U ln]) ?_ rfl (IQ.refused HR.u HB.u rfl);simp[results,results25,go_sem,A.u.1,A.u.2.1,A.u.2.2]
theorem run_fuel (s:Ia) (fuel:Int) (hs:s.size<=maxLen) (H:kA w iv qo) (hR:Rt.qx s=(0,0,zL)) (hl:G qo<=100) (a2:fuel < 0\/1000 < fuel) (r:RunA) (hr:r=⟨0,0,[],5,0⟩):Calls Tryz.prog 25 #[O s,iv,J U fuel] w (IQ r w):=by
 have HI:=zD H;obtain⟨a0,F,rfl,_⟩:=H;have N:=zD hr;go_enter func25,ntmps25;go_wp2_with fail;have x:=(zI w.heap.size w).alloc (zB _) (V zRes 52);refine(nC s hs (HI.u.zP x) (fun p hp=>tQ hp)).mono ?_;rintro e w1 ⟨k,hcase⟩;have A:Below w.heap.size w w1:=x.trans (k.mono (by simp));have h:=zU (zN w (V zRes 52)) k;rcases hcase with⟨hlt,_⟩| ⟨_,er,ln,D,f,hc⟩
 ·exact absurd hlt (by omega)
 rw[hR]at f;injection f with e1 f;injection f with e2 e3;subst e1 e2 e3;rcases hc with⟨h0,_⟩| ⟨_,_,hlen,M0,X,rfl,hM0,hblk,hmc⟩
 ·exact absurd rfl h0
 obtain⟨la,lc,ia,ic,fa,fc,W,T,oa,oc,q1,q2,q3,q4,q5⟩:=hmc.shape;generalize Rt.firstM (Zs s zL qo)=m0 at *;have d:xC X m0 []=#[I la (G zL) lc,I ia (G qo) ic,I fa (G m0.zH) fc,I W (G m0.values) T,J U m0.taken,I oa (G m0.output) oc,J U m0.line,J U m0.fin]:=by
  simp only[xC,q1,q2,q3,q4,q5,Zs,qR];rfl
 rw[d];have M:=zQ h;obtain⟨r0,r1,r2⟩:=yb h;have z:=zS h;have i:=zf (zf (zf h 0 (J U 0)) 1 (J U 0)) 2 (I Z 0 0);have E0:=fun o=>(yb (yR i o)).1;have E1:=fun o=>(yb (yR i o)).2.1;have E2:=fun o=>(yb (yR i o)).2.2;have j:=XX E0 E1 E2;have y:=yx (yx (yx A (zB _) 0 (J U 0)) (zB _) 1 (J U 0)) (zB _) 2 (I Z 0 0);have R:=zD (fun o=>y.alloc y.size o);by_cases hz:fuel < 0
 ·go_wp2_with fail;refine zT (v:=E #[L zRes,J U 5,J U 0]) ?_ rfl (IQ.refused N.u (R.u _) rfl);simp[results,results25,go_sem,j.u.1,j.u.2.1,j.u.2.2]
 ·have a1:1000 < fuel:=by omega
  go_wp2_with fail;refine zT (v:=E #[L zRes,J U 5,J U 0]) ?_ rfl (IQ.refused N.u (R.u _) rfl);simp[results,results25,go_sem,j.u.1,j.u.2.1,j.u.2.2]
theorem run_all (s:Ia) (fuel:Int) (d:s.size<=maxLen) (f:kA w iv qo):Calls Tryz.prog 25 #[O s,iv,J U fuel] w (IQ (IZ s qo fuel) w):=by
 by_cases hl:100 < G qo
 ·exact run_refused s fuel d f _ 1 0 (by unfold IZ;rw[zE hl]) (Or.inl ⟨hl,rfl,rfl⟩)
 ·by_cases h0:(Rt.qx s).1=0
  ·have h:=Rt.uS h0;by_cases hf:fuel < 0\/1000 < fuel
   ·exact run_fuel s fuel d f h (by omega) hf _ (by unfold IZ;rw[zA hl,zA (kW h0),zE hf])
   ·obtain⟨n,j⟩:∃n:Nat,fuel=(n:Int):=⟨fuel.toNat,by omega⟩;subst j;refine(run_right s n d f h (by omega) (by omega)).mono ?_;rintro e w' ⟨o,v,k,i⟩;have x:IZ s qo (n:Int)=⟨(Rt.runM (Zs s (Rt.qx s).2.2 qo) n (Rt.firstM (Zs s (Rt.qx s).2.2 qo))).1.fin,(Rt.runM (Zs s (Rt.qx s).2.2 qo) n (Rt.firstM (Zs s (Rt.qx s).2.2 qo))).2,(Rt.runM (Zs s (Rt.qx s).2.2 qo) n (Rt.firstM (Zs s (Rt.qx s).2.2 qo))).1.output,0,0⟩:=by
     unfold IZ;rw[zA hl,zA (kW h0),zA hf,xS]
    rw[x];exact⟨o,v,k,i⟩
  ·exact run_refused s fuel d f _ (Rt.qx s).1 (Rt.qx s).2.1 (by unfold IZ;rw[zA hl,zE h0]) (Or.inr ⟨by omega,h0,(Rt.qx s).2.2,rfl⟩)
end
namespace Rf
open Rt
theorem A9 {ps zL:List PL} {m:Mc} (C:Ctx ps zL ls S) (F:KA ps zL ls S m) (d:m.fin=0) (I:G S.input<=100):KA ps zL ls S (qd S m).1:=by
 suffices h:∃p n,Step ps zL ls S m p n by
  obtain⟨p,n,h⟩:=h;exact h.2.2
 obtain⟨l,y,A,H,z⟩:=F.line;have N:l < G ls:=by rw[<-C.len];exact y
 have hli:=C.both.form N;rw[show ((l+1:Nat):Int)=(l:Int)+1 from rfl,Xp C.dz y]at hli;have o:xy ps[l].form.kind=D\/ps[l].form.kind=4:=by
  unfold xV at H;rw[aa C.dz y]at H;by_cases a:xy ps[l].form.kind=D
  ·exact Or.inl a
  ·rw[zA a]at H;by_cases b:ps[l].form.kind=4
   ·exact Or.inr b
   ·rw[zA b]at H;exact absurd H (by decide)
 have j:∀k:Int,(k=13\/k=4)->ps[l].form=⟨k,⟨#[]⟩,0,[],[],[]⟩->∃p n,Step ps zL ls S m p n:=fun k hk hf=>by
  obtain⟨L,J⟩:=fJ C F d y A z hk hf;by_cases h0:G m.zH < 2
  ·exact⟨_,_,L h0⟩
  ·obtain⟨c,_,_,M⟩:=J h0;exact⟨_,_,M⟩
 generalize ls[l]=t at hli;generalize hf:ps[l].form=f at hli o j;cases hli with
 | empty=>exact absurd o (by decide)
 | var x hx=>exact absurd o (by simp[xy])
 | array x n _ _ _ _=>exact absurd o (by simp[xy])
 | proc x q _ _ _=>exact absurd o (by simp[xy])
 | end_=>exact j 4 (Or.inr rfl) rfl
 | F8 p e he=>exact⟨_,_,KK C F d y A z (Or.inl rfl) hf⟩
 | gb=>exact absurd o (by decide)
 | Vg p e he=>exact⟨_,_,KK C F d y A z (Or.inr rfl) hf⟩
 | set1 x p e hx he=>exact⟨_,_,lC C F d y A z hf⟩
 | rj x q i p e hx hq he=>exact⟨_,_,lB C F d y A z hf⟩
 | print p e he=>exact⟨_,_,fI C F d y A z hf⟩
 | read x hx=>exact⟨_,_,lD C F d y A z I hf⟩
 | call x args vs hx he=>exact⟨_,_,(lE C F d y A z hf).2.2⟩
 | Jb=>exact j 13 (Or.inl rfl) rfl
end Rf
theorem dB (s:Ia) (k:s.size<=maxLen) (o:kA w iv qo):Calls Tryz.prog 53 #[O s,iv] w fun e w'=>(100 < G qo/\e=T (E #[H Z,J U 1,J U 0])/\w'=w)\/(G qo<=100/\Dn s w e w'):=by
 obtain⟨j,h,rfl⟩:=o.form;by_cases hl:100 < G qo
 ·have d:(100:Int) < (G qo:Int):=by omega
  go_enter func53,ntmps53;go_wp2;go_ret3;exact Or.inl ⟨hl,rfl,rfl⟩
 ·have d:¬(100:Int) < (G qo:Int):=by omega
  go_enter func53,ntmps53;go_wp2_with fail;refine(Dm s k).mono ?_;rintro e w1 ⟨i,(⟨f,rfl⟩| ⟨f,D,A,z,y,S,g,cap,rfl,x⟩)⟩
  ·go_wp2;go_ret3;exact Or.inr ⟨by omega,i,Or.inl ⟨f,rfl⟩⟩
  ·go_wp2;go_ret3;exact Or.inr ⟨by omega,i,Or.inr ⟨f,D,A,z,y,S,g,cap,rfl,x⟩⟩
theorem W7_block {R:Nat} {x0 x1 x2 x3 x4 x5 x6:Value} (h:w.heap[R]?=Q (V #[x0,x1,x2,x3,x4,x5,x6] t (0,0))) (a b c d e f g:Value):(W7 w R a b c d e f g).heap[R]?=Q (V #[a,b,c,d,e,f,g] t (0,0)):=by
 have:=zf (zf (zf (zf (zf (zf (zf h 0 a) 1 b) 2 c) 3 d) 4 e) 5 f) 6 g;simpa using this
theorem W7_other (w:World) (R k:Nat) (a b c d e f g:Value) (h:k≠R):(W7 w R a b c d e f g).heap[k]?=w.heap[k]?:=by
 unfold W7;rw[zO _ ⟨R,6,Z⟩ _ k h,zO _ ⟨R,5,Z⟩ _ k h,zO _ ⟨R,4,Z⟩ _ k h,zO _ ⟨R,3,Z⟩ _ k h,zO _ ⟨R,2,Z⟩ _ k h,zO _ ⟨R,1,Z⟩ _ k h,zO _ ⟨R,0,Z⟩ _ k h]
theorem jA.aside7 {S:Nat} {x:Array Value} (h:jA w S g cap ls) (j:w.heap[N]?=Q (V x 72 (0,0))) (a b c d e f i:Value):jA (W7 w N a b c d e f i) S g cap ls:=
 h.stay (fun k t ht hk=>W7_other w N k a b c d e f i (fun e=>by
  have:=hk.ne (qm.intro j) (by rcases ht with rfl | rfl | rfl <;> decide);exact this e))
theorem IG.refused {r:RunA} {e:Ending} (d:r=⟨0,0,[],er,ln⟩) (h:Below w.heap.size w w') (f:e=T (E #[J U 0,J U 0,I Z 0 0,J U er,J U ln])):IG r w e w':=by
 subst d f;exact⟨h,_,rfl,Z,0,rfl,Or.inl rfl⟩
theorem IE (s:Ia) (i:Int) (x:s.size<=maxLen) (k:kA w iv qo) (r:RunA) (d f:Int) (y:r=⟨0,0,[],d,f⟩) (h:(100 < G qo/\d=1/\f=0)\/(G qo<=100/\¬d=0/\(vP s).1=d/\(vP s).2.1=f)):Calls Tryz.prog 27 #[O s,iv,J U i] w (IG r w):=by
 have F:=zD k;obtain⟨o,j,rfl⟩:=k.form;have A:=zD y;have z:(d != 0)=D:=by rcases h with⟨_,rfl,_⟩| ⟨_,h,_⟩ <;> simp_all
 have HH:=zD h;go_enter func27,ntmps27;go_wp2_with fail;refine(dB s x F.u).mono ?_;rintro e w1 hcase;have he:e=T (E #[H Z,J U d,J U f])/\Below w.heap.size w w1:=by
  rcases HH.u with⟨h1,h2,h3⟩| ⟨h1,h2,h3,h4⟩
  ·subst h2 h3;rcases hcase with⟨_,he,rfl⟩| ⟨h,_⟩
   ·exact⟨he,zI _ _⟩
   ·omega
  ·rcases hcase with⟨h,_⟩| ⟨_,hb,hc⟩
   ·omega
   ·rw[h3,h4]at hc;rcases hc with⟨_,he⟩| ⟨h0,_⟩
    ·exact⟨he,hb⟩
    ·exact absurd h0 h2
 obtain⟨rfl,hb⟩:=he;go_wp2_with fail;refine zT (v:=E #[J U 0,J U 0,I Z 0 0,J U d,J U f]) ?_ rfl (IG.refused A.u hb rfl);simp[results,results27,go_sem]
theorem docRun_fuel (s:Ia) (fuel:Int) (x:s.size<=maxLen) (f:kA w iv qo) (A:(vP s).1=0) (H:G qo<=100) (z:fuel < 0\/1000 < fuel) (r:RunA) (y:r=⟨0,0,[],5,0⟩):Calls Tryz.prog 27 #[O s,iv,J U fuel] w (IG r w):=by
 have F:=zD f;obtain⟨k,d,rfl⟩:=f.form;have j:=zD y;go_enter func27,ntmps27;go_wp2_with fail;refine(dB s x F.u).mono ?_;rintro e w1 (⟨h,_⟩| ⟨_,i,(⟨D,_⟩| ⟨_,_,_,_,_,S,g,cap,rfl,_⟩)⟩)
 ·omega
 ·exact absurd A D
 by_cases hz:fuel < 0
 ·go_wp2_with fail;refine zT (v:=E #[J U 0,J U 0,I Z 0 0,J U 5,J U 0]) ?_ rfl (IG.refused j.u i rfl);simp[results,results27,go_sem]
 ·have o:1000 < fuel:=by omega
  go_wp2_with fail;refine zT (v:=E #[J U 0,J U 0,I Z 0 0,J U 5,J U 0]) ?_ rfl (IG.refused j.u i rfl);simp[results,results27,go_sem]
theorem docRun_right (s:Ia) (fuel:Nat) (hs:s.size<=maxLen) (hi:kA w iv qo) (hR:Rt.qx s=(0,0,zL)) (hl:G qo<=100) (g8:fuel<=1000) (r:RunA) (hr:r=⟨(Rt.runM (Zs s zL qo) fuel (Rt.firstM (Zs s zL qo))).1.fin,(Rt.runM (Zs s zL qo) fuel (Rt.firstM (Zs s zL qo))).2,(Rt.runM (Zs s zL qo) fuel (Rt.firstM (Zs s zL qo))).1.output,0,0⟩):Calls Tryz.prog 27 #[O s,iv,J U fuel] w (IG r w):=by
 have HI:=zD hi;obtain⟨g7,g0,rfl⟩:=hi.form;have HR:=zD hr;have d8:(vP s).1=0:=by rw[<-(eR s).1,hR]
 have hS:=ui (qo:=qo) hR hl;have f0:=ph hS;go_enter func27,ntmps27;go_wp2_with fail;refine(dB s hs HI.u).mono ?_;rintro e w1 (⟨h,_⟩| ⟨_,d7,(⟨h0,_⟩| ⟨_,_,b4,_,a4,Sb,g,cap,rfl,hG⟩)⟩)
 ·omega
 ·exact absurd d8 h0
 have hC:=DT qo hR (b4.lawful a4);generalize (vP s).2.2=ls at *;generalize (Rt.rForms 0 (Rt.lines s) [Rt.kb]).2.drop 1=ps at *;obtain⟨f6,D,hD,f7,d0⟩:=gU hC;have d:=zD hC;have HG:=qG hG d7;have HK:=XX hS f6 f0;have a5:(Zs s zL qo).input=qo:=rfl;generalize Zs s zL qo=S at *;go_wp2_with fail;refine(A6 D (Qr zL) HG.u.1 d.u.law d.u.both.nested hD f7 (fun k hk=>(rM d.u hk).1) (fun k hk=>(rM d.u hk).2)).mono ?_;rintro e w2 ⟨a8,fv,vv,cv,ov,rfl,b7⟩;rw[<-d0]at b7 ⊢;obtain⟨_,_,xg,kB,a9⟩:=b7;obtain⟨xa,xc,ya,yc,za,zc,oa,T,f1,f2,f3,f4⟩:=a9.ZX;simp only at f1 f2 f3 f4;subst f1 f2 f3 f4;have a1:=HG.u.2.size;have f:=HG.u.2.trans (a8.mono (B':=w.heap.size) a1);have HQ2:=qG (a9.mono (B':=w.heap.size) a1) f;have d1:=HG.u.1.zP a8;have HG2:=qG d1 f;have a0:=f.size;clear a8 a9 f d1 d0 hD;unfold jh;generalize Rt.firstM S=m0 at *;have d6:=(zI w2.heap.size w2).alloc (zB _) (V (jh (I xa (Rf.yT zL m0).zH.length xc) (I ya (Rf.yT zL m0).vars.length yc) (I za (Rf.yT zL m0).cells.length zc) (I oa (Rf.yT zL m0).out.length T) (Rf.yT zL m0)) 72);have d5:=zN w2 (V (jh (I xa (Rf.yT zL m0).zH.length xc) (I ya (Rf.yT zL m0).vars.length yc) (I za (Rf.yT zL m0).cells.length zc) (I oa (Rf.yT zL m0).out.length T) (Rf.yT zL m0)) 72);have HB3:=XX d6 d5 a0;unfold jh at HB3;go_wp2_with fail;generalize (w2.alloc (V #[I xa (Rf.yT zL m0).zH.length xc,I ya (Rf.yT zL m0).vars.length yc,I za (Rf.yT zL m0).cells.length zc,J U (Rf.yT zL m0).read,I oa (Rf.yT zL m0).out.length T,J U (Rf.yT zL m0).line,J U (Rf.yT zL m0).fin] 72))=w3 at *;obtain⟨P,hP⟩:∃P,P=w2.heap.size:=⟨_,rfl⟩;have d4:w.heap.size<=P:=by omega
 rw[<-hP];have b0:=HB3.u.2.1;rw[<-hP]at b0;have HB3:=XX HB3.u.1 b0 a0;clear hP b0;go_loopw [15] (fun i wr=>∃(k:Nat) (m:Rt.Mc) (X:Qg),k<=fuel/\i=J U k/\jA wr Sb g cap ls/\Xd wr w.heap.size (Rf.yT zL m) X/\wr.heap[P]?=Q (V (jh X.fv X.vv X.cv X.ov (Rf.yT zL m)) 72 (0,0))/\Below w.heap.size w wr/\Rf.KA ps zL ls S m/\XW S m/\Rt.runM S fuel m0=((Rt.runM S (fuel-k) m).1,(Rt.runM S (fuel-k) m).2+k))
  (fun i _=>fuel+1-(intOf i).toNat)
 case atStart=>exact⟨0,m0,_,zo _,rfl,HG2.u.1.zP HB3.u.1,HQ2.u.1.zP HB3.u.1,HB3.u.2.1,HQ2.u.2.trans (HB3.u.1.mono (B':=w.heap.size) HB3.u.2.2),HK.u.2.1,HK.u.2.2,rfl⟩
 case round=>
  obtain⟨k,m,X,hk,rfl,hG,hQ,j,b6,hF,b5,x⟩:=hrel;obtain⟨xa,xc,ya,yc,za,zc,oa,T,f1,f2,f3,f4⟩:=hQ.ZX;have b1:jh X.fv X.vv X.cv X.ov (Rf.yT zL m)=#[I xa (Rf.yT zL m).zH.length xc,I ya (Rf.yT zL m).vars.length yc,I za (Rf.yT zL m).cells.length zc,J U (Rf.yT zL m).read,I oa (Rf.yT zL m).out.length T,J U m.line,J U m.fin]:=by rw[f1,f2,f3,f4];rfl
  rw[b1]at j;have a3:=Rf.Y4 d.u hF;have hV:=hQ.val a3.ok.some (by have:=a3.ok.cells;omega);have b2:=hV.out;rw[f4]at b2;obtain⟨q0,q1,q2,q3,q4,q5,q6⟩:=seven j;have zq:=zS j;have o:=DA b6 j b2 hF b5;by_cases hlt:k < fuel
  ·have b3:(k:Int) < (fuel:Int):=by omega
   by_cases hz:m.fin=0
   ·have d3:(m.fin==0)=true:=by simpa using hz
    have HN:=zD (show Rt.runM S fuel m0=((Rt.runM S (fuel-(k+1)) (Rt.qd S m).1).1,(Rt.runM S (fuel-(k+1)) (Rt.qd S m).1).2+(k+1)) by
     rw[x,show fuel-k=(fuel-(k+1))+1 by omega,Rt.runM,zE hz];simp only[yZ,jH];omega)
    have b8:=Bw d.u hF hz b5 (by rw[a5];exact hl) hG hV (by rw[a5];exact HI.u.zP b6);rw[b1,hz]at b8;have f8:=zD b8;have f9:=zD hG;go_wp2_with fail;refine f8.u.mono ?_;rintro e w4 ⟨a7,fv,vv,cv,ov,rfl,_,_,xg,kB,c0⟩;obtain⟨R,M,N,L,H,F,A,z,f1,f2,f3,f4⟩:=c0.ZX;simp only at f1 f2 f3 f4;subst f1 f2 f3 f4;have y:=zU o.u.2.1 a7;have b9:=c0.mono (B':=w.heap.size) o.u.1.size;have a2:=Xd.w7 (w0:=w) b9 y (o.u.1.trans (a7.mono (B':=w.heap.size) o.u.1.size)) d4 (I R (Rf.yT zL (Rt.qd S m).1).zH.length M) (I N (Rf.yT zL (Rt.qd S m).1).vars.length L) (I H (Rf.yT zL (Rt.qd S m).1).cells.length F) (J U (Rf.yT zL (Rt.qd S m).1).read) (I A (Rf.yT zL (Rt.qd S m).1).out.length z) (J U (Rf.yT zL (Rt.qd S m).1).line) (J U (Rf.yT zL (Rt.qd S m).1).fin);have a6:=W7_block y (I R (Rf.yT zL (Rt.qd S m).1).zH.length M) (I N (Rf.yT zL (Rt.qd S m).1).vars.length L) (I H (Rf.yT zL (Rt.qd S m).1).cells.length F) (J U (Rf.yT zL (Rt.qd S m).1).read) (I A (Rf.yT zL (Rt.qd S m).1).out.length z) (J U (Rf.yT zL (Rt.qd S m).1).line) (J U (Rf.yT zL (Rt.qd S m).1).fin);have f5:=(f9.u.zP a7).aside7 y (I R (Rf.yT zL (Rt.qd S m).1).zH.length M) (I N (Rf.yT zL (Rt.qd S m).1).vars.length L) (I H (Rf.yT zL (Rt.qd S m).1).cells.length F) (J U (Rf.yT zL (Rt.qd S m).1).read) (I A (Rf.yT zL (Rt.qd S m).1).out.length z) (J U (Rf.yT zL (Rt.qd S m).1).line) (J U (Rf.yT zL (Rt.qd S m).1).fin);have HF:=GW f5 a2.1 a6 a2.2 (A9 d.u o.u.2.2.2.1 hz (by rw[a5];exact hl)) (fK HK.u.1 o.u.2.2.2.2);obtain⟨q0,q1,q2,q3,q4,q5,q6⟩:=seven y;have zq:=zS y;unfold jh;generalize d9:Rf.yT zL (Rt.qd S m).1=P1 at *;have d2:=zD d9;go_wp2;go_roundw
    ·obtain⟨g1,g2,g3,g4,g5,g6⟩:=HF.u;exact⟨k+1,(Rt.qd S m).1,⟨I R (G P1.zH) M,I N (G P1.vars) L,I H (G P1.cells) F,I A (G P1.out) z,xg,kB⟩,by omega,by go_num,g1,by rw[d2.u];exact g2,by rw[d2.u];exact g3,g4,g5,g6,HN.u⟩
    ·simp[intOf];omega
   ·have d3:(m.fin==0)=W:=by simpa using hz
    have HE:=zD (show Rt.runM S fuel m0=(m,k) by
     rw[x,show fuel-k=(fuel-k-1)+1 by omega,Rt.runM,zA hz];simp)
    go_wp2_with fail;go_region_held3 (fun w'=>w'.cell? ⟨P,6,Z⟩=Q (J U m.fin)/\w'.cell? ⟨P,4,Z⟩=Q (I oa (Rf.yT zL m).out.length T)) (go_keep) (fail);go_wp2_with fail;refine zT (v:=E #[J U m.fin,J U k,I oa (Rf.yT zL m).out.length T,J U 0,J U 0]) ?_ rfl ?_
    ·simp[results,results27,go_sem]
    ·rw[HR.u,HE.u];exact⟨o.u.1.trans ((zh _).mono o.u.1.size),_,rfl,o.u.2.2.1.zP (zh _)⟩
  ·have b3:¬(k:Int) < (fuel:Int):=by omega
   have HE:=zD (show Rt.runM S fuel m0=(m,k) by
    rw[x,show fuel-k=0 by omega,Rt.runM];simp)
   go_wp2_with fail;go_region_held3 (fun w'=>w'.cell? ⟨P,6,Z⟩=Q (J U m.fin)/\w'.cell? ⟨P,4,Z⟩=Q (I oa (Rf.yT zL m).out.length T)) (go_keep) (fail);go_wp2_with fail;refine zT (v:=E #[J U m.fin,J U k,I oa (Rf.yT zL m).out.length T,J U 0,J U 0]) ?_ rfl ?_
   ·simp[results,results27,go_sem]
   ·rw[HR.u,HE.u];exact⟨o.u.1.trans ((zh _).mono o.u.1.size),_,rfl,o.u.2.2.1.zP (zh _)⟩
theorem Run_ref (s:Ia) (fuel:Int) (d:s.size<=maxLen) (f:kA w iv qo):Calls Tryz.prog 27 #[O s,iv,J U fuel] w (IG (IZ s qo fuel) w):=by
 obtain⟨h,k,_⟩:=eR s;by_cases hl:100 < G qo
 ·exact IE s fuel d f _ 1 0 (by unfold IZ;rw[zE hl]) (Or.inl ⟨hl,rfl,rfl⟩)
 ·by_cases h0:(Rt.qx s).1=0
  ·have j:=Rt.uS h0;by_cases hf:fuel < 0\/1000 < fuel
   ·exact docRun_fuel s fuel d f (by rw[<-h];exact h0) (by omega) hf _ (by unfold IZ;rw[zA hl,zA (kW h0),zE hf])
   ·obtain⟨n,i⟩:∃n:Nat,fuel=(n:Int):=⟨fuel.toNat,by omega⟩;subst i;exact docRun_right s n d f j (by omega) (by omega) _ (by unfold IZ;rw[zA hl,zA (kW h0),zA hf,xS])
  ·exact IE s fuel d f _ (Rt.qx s).1 (Rt.qx s).2.1 (by unfold IZ;rw[zA hl,zE h0]) (Or.inr ⟨by omega,h0,h.symm,k.symm⟩)
section
attribute [local go_sem ↓] Go.wp_at_zero Go.wp_at_succ
noncomputable def CX (s:ByteArray) (qo:List Int) (cap:Int):Int×Int:=
 if 100 < qo.length then (1,0)else if ¬(Rt.qx s).1=0 then ((Rt.qx s).1,(Rt.qx s).2.1)else if cap < 5\/500 < cap then (6,0)else (0,0)
theorem bL (s:Ia) (cap:Int) (o:s.size<=maxLen) (i:kA w iv qo) (d f:Int) (h:(100 < G qo/\d=1/\f=0)\/(G qo<=100/\¬d=0/\(vP s).1=d/\(vP s).2.1=f)):Calls Tryz.prog 31 #[O s,iv,J U cap] w fun e w'=>e=T (E #[H Z,J U d,J U f])/\Below w.heap.size w w':=by
 have y:=zD i;obtain⟨k,j,rfl⟩:=i.form;have x:(d != 0)=D:=by rcases h with⟨_,rfl,_⟩| ⟨_,h,_⟩ <;> simp_all
 have HH:=zD h;clear h i;go_enter func31,ntmps31;go_wp2_with fail;refine(dB s o y.u).mono ?_;rintro e w1 hcase;have he:e=T (E #[H Z,J U d,J U f])/\Below w.heap.size w w1:=by
  rcases HH.u with⟨h1,h2,h3⟩| ⟨h1,h2,h3,h4⟩
  ·subst h2 h3;rcases hcase with⟨_,he,rfl⟩| ⟨h,_⟩
   ·exact⟨he,zI _ _⟩
   ·omega
  ·rcases hcase with⟨h,_⟩| ⟨_,hb,hc⟩
   ·omega
   ·rw[h3,h4]at hc;rcases hc with⟨_,he⟩| ⟨h0,_⟩
    ·exact⟨he,hb⟩
    ·exact absurd h0 h2
 obtain⟨rfl,hb⟩:=he;clear hcase;go_wp2;go_ret3;exact⟨rfl,hb⟩
theorem DW (s:Ia) (cap:Int) (o:s.size<=maxLen) (d:kA w iv qo) (x:(vP s).1=0) (A:G qo<=100) (D:cap < 5\/500 < cap):Calls Tryz.prog 31 #[O s,iv,J U cap] w fun e w'=>e=T (E #[H Z,J U 6,J U 0])/\Below w.heap.size w w':=by
 have z:=zD d;obtain⟨j,f,rfl⟩:=d.form;clear d;go_enter func31,ntmps31;go_wp2_with fail;refine(dB s o z.u).mono ?_;rintro e w1 (⟨h,_⟩| ⟨_,i,(⟨y,_⟩| ⟨_,_,_,_,_,S,g,F,rfl,_⟩)⟩)
 ·omega
 ·exact absurd x y
 by_cases hz:cap < 5
 ·go_wp2;go_ret3;exact⟨rfl,i⟩
 ·have k:500 < cap:=by omega
  go_wp2;go_ret3;exact⟨rfl,i⟩
theorem jA.aside {S i:Nat} (h:jA w S g cap ls) (f:qm w N t) (d:¬FG t) (v:Value):jA (w.setCell ⟨N,i,Z⟩ v) S g cap ls:=
 h.stay (fun k _ hu hk=>zO w ⟨N,i,Z⟩ v k (fun e=>hk.ne f (fun e2=>d (e2▸hu)) e))
theorem sw (w:World) (n:Nat) (d:n<=1000):(w.alloc (V (madeCells #[A W] n) 4)).ownsRow w.heap.size 4 1 (I (Q ⟨w.heap.size,0,Z⟩) n n) n ((List.replicate n W).map Value.bool):=by
 rw[List.map_replicate,<-gA];exact⟨by simp[madeCells],Or.inr ⟨_,_,_,rfl,zB _,zN w _,zB _,by unfold maxLen;omega,by simp[madeCells],by rw[yw (by simp[madeCells])]⟩⟩
theorem DS {w6:World} {C gcap:Nat} {cap:Int} {X:Qg} {tv:Value} (M:w6.heap[C]?=Q (V #[H (Q ⟨Sb,0,Z⟩),iv,J U cap,I Z 0 0,I Z 0 0,J U 0,J U 0,I Z 0 0] 109 (0,0))) (hG:jA w6 Sb g gcap ls) (T:w6.ownsRow B 3 1 iv (G S.input) (xR S.input)) (F:Xd w6 B (ZN zL S 0) X) (R:w6.ownsRow B 72 7 tv 1 (jh X.fv X.vv X.cv X.ov (ZN zL S 0)).toList) (hb:Below B w w6) (D:B<=C) (hl:G ls<=100):vg (((w6.setCell ⟨C,3,Z⟩ tv).setCell ⟨C,7,Z⟩ (I (Q ⟨w6.heap.size,0,Z⟩) (G ls+1) (G ls+1))).alloc (V (madeCells #[A W] (G ls+1)) 4)) C zL ls S cap 0 0 0 (List.replicate (G ls+1) W) ⟨Sb,g,gcap,iv,tv,I Z 0 0,I (Q ⟨w6.heap.size,0,Z⟩) (G ls+1) (G ls+1),[X]⟩/\
  Below B w (((w6.setCell ⟨C,3,Z⟩ tv).setCell ⟨C,7,Z⟩ (I (Q ⟨w6.heap.size,0,Z⟩) (G ls+1) (G ls+1))).alloc (V (madeCells #[A W] (G ls+1)) 4))/\∀k∈Dt zL S C ⟨Sb,g,gcap,iv,tv,I Z 0 0,I (Q ⟨w6.heap.size,0,Z⟩) (G ls+1) (G ls+1),[X]⟩,B<=k:=by
 have a2:=zQ M;have O:=yx (yx hb D 3 tv) D 7 (I (Q ⟨w6.heap.size,0,Z⟩) (G ls+1) (G ls+1));have a1:=zf (zf M 3 tv) 7 (I (Q ⟨w6.heap.size,0,Z⟩) (G ls+1) (G ls+1));have a0:=(hG.aside (i:=3) (qm.intro M) (by unfold FG;decide) tv).aside (i:=7) (qm.intro (zf M 3 tv)) (by unfold FG;decide) (I (Q ⟨w6.heap.size,0,Z⟩) (G ls+1) (G ls+1));have x:∀k,k≠C->((w6.setCell ⟨C,3,Z⟩ tv).setCell ⟨C,7,Z⟩ (I (Q ⟨w6.heap.size,0,Z⟩) (G ls+1) (G ls+1))).heap[k]?=w6.heap[k]?:=fun k hk=>(zO _ ⟨C,7,Z⟩ _ k hk).trans (zO _ ⟨C,3,Z⟩ _ k hk);have L:((w6.setCell ⟨C,3,Z⟩ tv).setCell ⟨C,7,Z⟩ (I (Q ⟨w6.heap.size,0,Z⟩) (G ls+1) (G ls+1))).heap.size=w6.heap.size:=by simp[World.setCell]
 have y:∀{B:Nat} {t:TypeId} {z m:Nat} {v:Value} {xs:List Value},w6.ownsRow B t z v m xs->t≠109->∀q,v.ownBlock=Q q->q≠C:=fun hr ht q hq e=>by
  obtain⟨cc,d⟩:=yW hr hq;rw[e,M]at d;injection d with d;injection d with _ d;exact ht d.symm
 generalize (w6.setCell ⟨C,3,Z⟩ tv).setCell ⟨C,7,Z⟩ (I (Q ⟨w6.heap.size,0,Z⟩) (G ls+1) (G ls+1))=w8 at *;have h:=sw w8 (G ls+1) (by omega);have f:=(zI w8.heap.size w8).alloc (zB _) (V (madeCells #[A W] (G ls+1)) 4);rw[L]at h;refine⟨⟨by have:=zU a1 f;simpa[Du] using this,a0.zP f,vr (yG (yP T (fun q hq=>x q (y T (by decide) q hq))) f),?_,rfl,fun i hi=>?_,zW _ _ _ _,by rw[qN];exact vr h,fun q hq=>by simp[Value.ownBlock]at hq⟩,O.trans (f.mono (by rw[L];omega)),?_⟩
 ·have:=vr (yG (yP R (fun q hq=>x q (y R (by decide) q hq))) f);simpa[trC] using this
 ·have h0:i=0:=by simp at hi;omega
  subst h0;refine Xd.zP (w:=w8) ⟨⟨fun r hr=>yP (F.own.rows r hr) (fun q hq=>x q (y (F.own.rows r hr) (by rcases Yr hr with e | e | e <;> rw[e] <;> decide) q hq)),F.own.apart⟩,F.fl,F.cl,fun _ _=>zo _⟩ f
 ·intro k hk;have N:∀{o:Option Nat} {g:Nat},g∈o.toList->o=Q g:=fun hg=>by simpa using hg
  rcases zd.mp hk with hk | hk
  ·rcases zw.mp hk with rfl | hk
   ·exact D
   ·rcases zd.mp hk with hk | hk
    ·rcases zd.mp hk with hk | hk
     ·exact(R.lt k (N hk)).1
     ·simp[Value.ownBlock]at hk
    ·have:=N hk;simp[Value.ownBlock]at this;omega
  ·rcases zd.mp hk with hk | hk
   ·exact(T.lt k (N hk)).1
   ·obtain⟨j,hj,hg⟩:=nM hk;have h0:j=0:=by simp at hj;omega
    subst h0;exact F.new k hg
theorem lq:(Tryz.prog.info? 72).map (fun i=>(i.zero,i.size,i.bytes))=Q (Q (L #[I Z 0 0,I Z 0 0,I Z 0 0,J U 0,I Z 0 0,J U 0,J U 0]),7,120):=by kernel_rfl
theorem A1:(Tryz.prog.info? 4).map (fun i=>(i.zero,i.size,i.bytes))=Q (Q (A W),1,1):=by kernel_rfl
abbrev zCu (S:Nat) (cap:Int):Array Value:=#[H (Q ⟨S,0,Z⟩),I Z 0 0,J U cap,I Z 0 0,I Z 0 0,J U 0,J U 0,I Z 0 0]
theorem tf (s:Ia) (cap:Int) (hs:s.size<=maxLen) (hi:kA w iv qo) (hR:Rt.qx s=(0,0,zL)) (hl:G qo<=100) (hc:5<=cap/\cap<=500) (b1:(vP s).2.2=ls) (hS:Zs s zL qo=S):Calls Tryz.prog 31 #[O s,iv,J U cap] w fun e w'=>Below w.heap.size w w'/\∃C Y,e=T (E #[H (Q ⟨C,0,Z⟩),J U 0,J U 0])/\vg w' C zL ls S cap 0 0 0 (List.replicate (G ls+1) false) Y/\Lawful ls/\∀k∈Dt zL S C Y,w.heap.size<=k:=by
 have HI:=zD hi;obtain⟨h5,g6,rfl⟩:=hi.form;have d1:(vP s).1=0:=by rw[<-(eR s).1,hR]
 have h9:¬cap < 5:=by omega
 have h8:¬500 < cap:=by omega
 clear hi;go_enter func31,ntmps31;go_wp2_with fail;refine(dB s hs HI.u).mono ?_;rintro e w1 (⟨h,_⟩| ⟨_,d0,(⟨h0,_⟩| ⟨_,_,a7,_,a2,Sb,g,g9,rfl,hG⟩)⟩)
 ·omega
 ·exact absurd d1 h0
 have hC:=DT qo hR (a7.lawful a2);rw[b1]at hG a2;rw[b1,hS]at hC;generalize (Rt.rForms 0 (Rt.lines s) [Rt.kb]).2.drop 1=ps at *;obtain⟨g4,D,hD,g5,d2⟩:=gU hC;have a6:=zD hC;have g0:S.input=qo:=by rw[<-hS];rfl
 clear b1 hS;have b9:=(zI w1.heap.size w1).alloc (zB _) (V (zCu Sb cap) 109);have b6:=zN w1 (V (zCu Sb cap) 109);have HG:=gN hG d0 b9 b6;clear hG d0 hC a7 g4 d1 hR b9 b6;go_wp2_with fail;refine(Kd (HI.u.zP (HG.u.2.1.trans (HG.u.2.2.1.mono (B':=w.heap.size) HG.u.2.1.size))) (by omega)).mono ?_;generalize w1.alloc (V (zCu Sb cap) 109)=wa at *;rintro e w2 ⟨b3,h4,rfl,o⟩;obtain⟨z,y,rfl⟩:=zK o;have f6:=HG.u.2.2.1.size;have a3:=HG.u.2.2.1.trans (b3.mono (B':=w1.heap.size) f6);have a0:=zU HG.u.2.2.2 b3;have g8:=zQ a0;have d4:=HG.u.1.zP a3;obtain⟨c0,c1,c2,c3,c4,c5,c6,c7⟩:=xH a0;have z2:=zS a0;have a4:=zf a0 1 (I z (G qo) y);have F:=d4.aside (N:=w1.heap.size) (i:=1) (qm.intro a0) (by unfold FG;decide) (I z (G qo) y);have L:=yx a3 (zB _) 1 (I z (G qo) y);have f:=yP (w':=w2.setCell ⟨w1.heap.size,1,Z⟩ (I z (G qo) y)) o (fun q hq=>zO w2 ⟨w1.heap.size,1,Z⟩ _ q (by
  show q≠w1.heap.size;have h1:=(o.lt q hq).1;have h2:=zQ HG.u.2.2.2;omega))
 have h6:(w2.setCell ⟨w1.heap.size,1,Z⟩ (I z (G qo) y)).heap.size=w2.heap.size:=by simp[World.setCell]
 have b4:=gN a4 F L f;have d5:=zC a4 3 (by simp);simp at d5;clear b3 o a3 a0 d4 a4 F L f;obtain⟨j0,f9,d8,d7,d6⟩:=yi lq;obtain⟨b0,g2,f5,f0,d9⟩:=yi A1;go_wp2_with fail;generalize w2.setCell ⟨w1.heap.size,1,Z⟩ (I z (G qo) y)=w3 at *;clear c0 c1 c2 c3 c4 c5 c6 c7 z2;go_region_law (first
  | (refine step_append_lies _ (by rfl) _ _ _ (by rfl) 0 72 j0 _ 7 120 underlying106 f9 d8 d7 d6 rfl (by decide) _ 0 [] (by rfl) (zW _ _ _ _) ⟨w4.heap.size,0,Z⟩ 1 1 [I xa (qu ls D (Qr zL)).zH.length xc,I ya (qu ls D (Qr zL)).vars.length yc,I za (qu ls D (Qr zL)).cells.length zc,J U (qu ls D (Qr zL)).read,I oa (qu ls D (Qr zL)).out.length oc,J U (qu ls D (Qr zL)).line,J U (qu ls D (Qr zL)).fin] (by rfl) (by rfl) (World.news_of_block (fr:=(0,0)) (zN w4 _)) (by simp[Value.oneCell']) (by omega) (by unfold maxLen;omega) (by omega) (zo _) (w4.heap.size+1) (by simp) ?_;intro g' cap' w6 a1 d hat b7;have bC:=(d.block w1.heap.size (by have:=zQ HX4.u.2.2;simp;omega) (by simp[Value.ownBlock])).trans (yR HX4.u.2.2 _);have d3:w6.cell? ⟨w1.heap.size,3,Z⟩=Q (I Z 0 0):=(by have:=zC bC 3 (by simp);simpa using this);have e3:=zS bC 3)
  | (go_simp;go_wp2_with (go_at_call 54;refine(A6 D (Qr zL) (b4.u.2.1.zP (zh _)) a6.u.law a6.u.both.nested hD g5 (fun k hk=>(rM a6.u hk).1) (fun k hk=>(rM a6.u hk).2)).mono ?_;rintro e w4 ⟨a9,fv,vv,cv,ov,rfl,g3⟩;have x:=yh a9;obtain⟨_,_,xg,kB,M⟩:=g3;obtain⟨xa,xc,ya,yc,za,zc,oa,oc,f1,f2,f3,f4⟩:=M.ZX;simp only at f1 f2 f3 f4;subst f1 f2 f3 f4;have c4:=cell_later x d5;have R:=zU b4.u.1 x;have z4:=zS R;have l4:=zQ R;have n4:¬w1.heap.size=w4.heap.size:=(by omega);have HX4:=XX x M R;clear a9 x M R;unfold jh)))
 all_goals
  obtain⟨x,M,R⟩:=HX4.u;obtain⟨a4,F,L,f⟩:=b4.u;have b2:Below w4.heap.size w4 w6:=⟨d.os,d.tape,d.output,zi (by simp) d.size,fun k hk=>(d.block k (by simp;omega) (by simp[Value.ownBlock])).trans (G4 _ _ hk)⟩;have g1:g'=w4.heap.size+1:=by rcases hat with h | h;simp[Value.ownBlock]at h;exact h
  have b5:=HG.u.2.1.size;have f7:=x.size;have g7:=L.size;have j:=x.trans (b2.mono (B':=w3.heap.size) f7);have b8:Below w.heap.size w w6:=HG.u.2.1.trans ((L.mono (B':=w.heap.size) b5).trans (j.mono (B':=w.heap.size) (by omega)));have a8:=DS (zL:=zL) (S:=S) (B:=w.heap.size) (w:=w) (cap:=cap) (C:=w1.heap.size) (iv:=I z (G qo) y) (tv:=I (Q ⟨g',0,Z⟩) 1 cap') (X:=⟨_,_,_,_,xg,kB⟩) (by simpa using bC) (F.zP j) (by rw[g0];exact yn (yG f j) (by omega)) (by have:=(M.zP b2).mono (B':=w.heap.size) (by show w.heap.size<=w3.heap.size;omega);rw[<-d2]at this;exact this) (by have:=Je a1 (b':=w.heap.size) (fun q hq=>by simp[Value.ownBlock]at hq;omega);rw[<-d2]at this;exact this) b8 b5 (by omega);have cS:=(F.zP j).top;have nS:=(qm.intro bC).ne (F.zP j).ty.1 (by decide);have h3:=xK nS;have c7:w6.cell? ⟨w1.heap.size,7,Z⟩=Q (I Z 0 0):=by have:=zC bC 7 (by simp);simpa using this
  have e7:=zS bC 7;have l6:=zQ bC;have n6:¬w1.heap.size=w6.heap.size:=by omega
  have f8:=fun W=>run_make_row (P:=Tryz.prog) 107 4 b0 (A false) underlying107 g2 f5 f0 rfl U U (G ls+1) (by rw[d9];omega) (by omega) W;rw[show ((G ls+1:Nat):Int)=(G ls:Int)+1 from rfl]at f8;have h7:IntKind.i64.wrap ((G ls:Int)+1)=(G ls:Int)+1:=zl _ ⟨by omega,by omega⟩;have a5:=zD a8;clear x M R a4 F L f b2 g1 j b8 a8 d hat b7 a1 bC d3 e3 c4 z4 l4 n4 HX4;go_wp2;go_ret3;exact⟨a5.u.2.1,_,_,rfl,a5.u.1,a6.u.law,a5.u.2.2⟩
theorem sf (s:Ia) (qo:List Int) (cap:Int):(100 < G qo/\CX s qo cap=(1,0))\/(G qo<=100/\¬(Rt.qx s).1=0/\CX s qo cap=((Rt.qx s).1,(Rt.qx s).2.1))\/(G qo<=100/\Rt.qx s=(0,0,(Rt.qx s).2.2)/\(cap < 5\/500 < cap)/\CX s qo cap=(6,0))\/(G qo<=100/\Rt.qx s=(0,0,(Rt.qx s).2.2)/\(5<=cap/\cap<=500)/\CX s qo cap=(0,0)):=by
 unfold CX;by_cases hl:100 < G qo
 ·exact Or.inl ⟨hl,zE hl⟩
 ·rw[zA hl];by_cases h0:(Rt.qx s).1=0
  ·rw[zA (kW h0)];by_cases hc:cap < 5\/500 < cap
   ·exact Or.inr (Or.inr (Or.inl ⟨by omega,Rt.uS h0,hc,zE hc⟩))
   ·exact Or.inr (Or.inr (Or.inr ⟨by omega,Rt.uS h0,by omega,zA hc⟩))
  ·exact Or.inr (Or.inl ⟨by omega,h0,zE h0⟩)
namespace Rt
def uQ (S:Src):Se:=⟨firstM S,[],0,0,List.replicate 101 W⟩
end Rt
def Gw (S:Rt.Src) (cap:Int) (w:World) (e:Ending) (w':World):Prop:=
 Below w.heap.size w w'/\∃P B X,e=T (E #[H (Q ⟨P,0,Z⟩),J U 0,J U 0])/\w.heap.size<=P/\(∀k∈Z4 X,w.heap.size<=k)/\Zv w' P B S cap (uQ S) X (I Z 0 0)
theorem Cq (cap:Int):Calls Tryz.prog 57 #[J U cap] w fun e w'=>e=T (L #[J U cap,I Z 0 0,J U 0])/\Below w.heap.size w w':=by
 go_enter func57,ntmps57;go_wp2_with fail;have E:=yb (zN w (V #[J U cap,I Z 0 0,J U 0] 101));refine zT (v:=L #[J U cap,I Z 0 0,J U 0]) ?_ rfl ⟨rfl,(zI _ _).alloc (zB _) _⟩;revert E;generalize w.alloc (V #[J U cap,I Z 0 0,J U 0] 101)=wz;intro E;simp[results,results57,go_sem,E.1,E.2.1,E.2.2]
theorem wg {v0 v1 v2 v3 v4 v5 v6 v7 v8 v9 v10:Value}:(((((((((((Tryz.zeroCells105.setIfInBounds 0 v0).setIfInBounds 1 v1).setIfInBounds 2 v2).setIfInBounds 3 v3).setIfInBounds 4 v4).setIfInBounds 5 v5).setIfInBounds 6 v6).setIfInBounds 7 v7).setIfInBounds 8 v8).setIfInBounds 9 v9).setIfInBounds 10 v10)=(#[v0,v1,v2,v3,v4,v5,v6,v7]++([v8,v9,v10,J U 0]++(List.replicate 101 W).map Value.bool).toArray:Array Value):=by kernel_rfl
theorem snew_any (s:Ia) (cap:Int) (zL:List Rt.PL) (hs:s.size<=maxLen) (hi:kA w iv qo) (hR:Rt.qx s=(0,0,zL)) (hl:G qo<=100) (hc:5<=cap/\cap<=500):Calls Tryz.prog 30 #[O s,iv,J U cap] w (Gw (Zs s zL qo) cap w):=by
 have k:=tQ hR;have HI:=zD hi;obtain⟨a7,a5,rfl,_⟩:=hi;go_enter func30,ntmps30;go_wp2_with fail;refine(nC s hs HI.u (fun p hp=>by rw[hR]at hp;injection hp with _ hp;injection hp with _ hp;rw[<-hp];exact k)).mono ?_;rintro e w1 ⟨f,hcase⟩;rcases hcase with⟨hlt,_⟩| ⟨_,er,ln,a4,h,hcc⟩
 ·exact absurd hlt (by omega)
 rw[hR]at h;injection h with e1 h;injection h with e2 e3;subst e1 e2 e3;rcases hcc with⟨h0,_⟩| ⟨_,_,hlen,M0,X,rfl,hM0,hblk,hmc⟩
 ·exact absurd rfl h0
 obtain⟨L,F,N,M,T,R,z,y,D,A,q1,q2,q3,q4,q5⟩:=hmc.shape;generalize i:Rt.firstM (Zs s zL qo)=m0 at *;have d:xC X m0 []=#[I L (G zL) F,I N (G qo) M,I T (G m0.zH) R,I z (G m0.values) y,J U m0.taken,I D (G m0.output) A,J U m0.line,J U m0.fin]:=by
  simp only[xC,q1,q2,q3,q4,q5,Zs,qR];rfl
 rw[d];have HX:=DA f hblk hmc d i;go_wp2_with fail;have a2:=(zI w1.heap.size w1).alloc (zB _) (V #[I L (G zL) F,I N (G qo) M,I T (G m0.zH) R,I z (G m0.values) y,J U m0.taken,I D (G m0.output) A,J U m0.line,J U m0.fin] 90);refine(Cq cap).mono ?_;rintro e w2 ⟨rfl,x⟩;have bm:=zU (zN w1 (V #[I L (G zL) F,I N (G qo) M,I T (G m0.zH) R,I z (G m0.values) y,J U m0.taken,I D (G m0.output) A,J U m0.line,J U m0.fin] 90)) x;obtain⟨y0,y1,y2,y3,y4,y5,y6,y7⟩:=xH bm;have a6:=zQ bm;have j:=zD (a2.trans (x.mono (B':=w1.heap.size) (by simp)));go_wp2_with fail;have a1:(((((((((((Tryz.zeroCells105.setIfInBounds 0 (I L (G zL) F)).setIfInBounds 1 (I N (G qo) M)).setIfInBounds 2 (I T (G m0.zH) R)).setIfInBounds 3 (I z (G m0.values) y)).setIfInBounds 4 (J U m0.taken)).setIfInBounds 5 (I D (G m0.output) A)).setIfInBounds 6 (J U m0.line)).setIfInBounds 7 (J U m0.fin)).setIfInBounds 8 (J U cap)).setIfInBounds 9 (I Z 0 0)).setIfInBounds 10 (J U 0))=xC X m0 (vF cap (I Z 0 0) 0 0 (List.replicate 101 W)):=by
  rw[wg];have:=HX.u.2.2.2.1;have e:(xC X m0 (vF cap (I Z 0 0) 0 0 (List.replicate 101 W)))=xC X m0 []++(vF cap (I Z 0 0) 0 0 (List.replicate 101 W)).toArray:=by
   unfold xC;rw[yX,List.append_toArray]
  rw[e,this];simp[vF]
 rw[a1];obtain⟨f,hblk,hmc,_,i⟩:=HX.u;have a3:=((zI w2.heap.size w2).alloc (zB _) (V #[J U cap,I Z 0 0,J U 0] 101)).alloc (by simp) (V (xC X m0 (vF cap (I Z 0 0) 0 0 (List.replicate 101 W))) 105);have bS:=qD w2 (V #[J U cap,I Z 0 0,J U 0] 101) (V (xC X m0 (vF cap (I Z 0 0) 0 0 (List.replicate 101 W))) 105);have o:=j.u.trans (a3.mono (B':=w1.heap.size) j.u.size);have a0:=hmc.Gg o bS (by unfold FE;decide);refine zT (v:=E #[H (Q ⟨w2.heap.size+1,0,Z⟩),J U 0,J U 0]) ?_ rfl ⟨f.trans (o.mono (B':=w.heap.size) f.size),_,_,X,rfl,by have:=j.u.size;have:=f.size;omega,hblk,⟨by rw[uQ,i];exact a0,zW _ _ _ _⟩⟩;simp[results,results30,go_sem]
theorem jz.outPop {m:Rt.Mc} (h:jz w M B ty tail S m X) (o:List Int) (x:Int) (H:m.output=o++[x]) (g cap:Nat) (A:X.ov=I (Q ⟨g,0,Z⟩) (G o+1) cap) (i:Below w.heap.size w w1):jz (w1.setCell ⟨M,5,Z⟩ (I (Q ⟨g,0,Z⟩) (G o) cap)) M B ty tail S { m with output:=o } { X with ov:=I (Q ⟨g,0,Z⟩) (G o) cap }/\VM w (w1.setCell ⟨M,5,Z⟩ (I (Q ⟨g,0,Z⟩) (G o) cap)) (M::Z4 X)/\vd w (Z4 X) (Z4 { X with ov:=I (Q ⟨g,0,Z⟩) (G o) cap }):=by
 have z:∀(k:Nat) (x:Obj),w.heap[k]?=Q x->(∃c t,x=Obj.cells c t (0,0)/\Xe t)->w1.heap[k]?=Q x:=fun k x hx _=>(i.block k (zQ hx)).trans hx;have j:w1.ownsRow 0 3 1 (I (Q ⟨g,0,Z⟩) (G o) cap) (G o) (xR o):=by
  have D:=yG h.out i;rw[H,A,ze,yl,xR,yB]at D;exact ES D (by omega) (by simp[xR])
 have f:rowsOf S.input X m=[zz X.iv S.input,⟨153,2,X.fv,G m.zH,fCells X.xg m.zH⟩,⟨24,1,X.vv,G m.values,X.YR⟩]++zz X.ov m.output::(List.zipWith zz X.xg (m.zH.map Rt.Fm.params)++List.zipWith zz X.YR m.values):=rfl;have d:=h.own.zP i;rw[f]at d;obtain⟨F,o2⟩:=Own.swap (w':=w1) d (r':=zz (I (Q ⟨g,0,Z⟩) (G o) cap) o) (fun _ _ _=>rfl) j (fun k z=>Or.inl (by show X.ov.ownBlock=Q k;rw[A];exact z));have y:=h.step (w1:=w1) (m':={ m with output:=o }) (X':={ X with ov:=I (Q ⟨g,0,Z⟩) (G o) cap }) i.size (i.block M (zQ h.block)) z 5 (I (Q ⟨g,0,Z⟩) (G o) cap) (by simp[xC]) F rfl rfl h.fl h.vl;refine⟨y,VM.B5 (VM.jQ _ i) _ _,?_⟩;rw[<-h.xh,<-y.xh];intro k hk3;rcases o2 k hk3 with hk4 | hk4
 ·exact Or.inl hk4
 ·exact Or.inr (zi i.size hk4)
theorem dropPrinted_any {m:Rt.Mc} (h:jz w M B ty tail S m X) (i:G m.output<=1000):Calls Tryz.prog 211 #[H (Q ⟨M,0,Z⟩)] w fun e w'=>e=T (E #[])/\∃X',Z8 M B ty tail S X X' { m with output:=m.output.dropLast } w w':=by
 by_cases h0:m.output=[]
 ·have y:=h.c5;obtain⟨F,A,d⟩:=zK h.out;rw[d,h0]at y;have z:=zD (show Z8 M B ty tail S X X { m with output:=m.output.dropLast } w w by
   have e:m.output.dropLast=m.output:=by rw[h0];rfl
   rw[e];exact Z8.start h (zI _ _))
  go_enter func211,ntmps211;go_wp2;go_end0;exact⟨rfl,_,z.u⟩
 ·obtain⟨o,x,k⟩:∃o x,m.output=o++[x]:=⟨m.output.dropLast,m.output.getLast h0,(xj h0).symm⟩;obtain⟨g,cap,d,D⟩:∃g cap,X.ov=I (Q ⟨g,0,Z⟩) (G o+1) cap/\G o+1<=cap:=by
   have h1:=h.out;rw[k,ze,yl]at h1;rcases h1.2 with⟨e,e2⟩| ⟨g,cap,cur,e,_,_,e3,_⟩
   ·simp at e2
   ·exact⟨g,cap,e,e3⟩
  have y:=h.c5;rw[d]at y;have O:=h.fz 5;have N:G o+1<=1000:=by rw[k]at i;simpa using i
  have J:IntKind.i64.wrap (G o:Int)=(G o:Int):=by rw[yv,yC _ (by omega)]
  have L:(G o:Int)<=(cap:Int):=by omega
  have j:=zQ h.block;have f:=h.outPop (w1:=w.drew) o x k g cap d (zh w);have z:=zD (show Z8 M B ty tail S X _ { m with output:=m.output.dropLast } w _ from⟨by rw[k,xo];exact f.1,f.2.1,f.2.2,j⟩);go_enter func211,ntmps211;go_wp2_with fail;go_region_law (fail)
  all_goals
   go_wp2;go_end0;exact⟨rfl,_,z.u⟩
theorem fCells_set (h:List Value) (d:List Rt.Fm) (v j:Value) (f k:Rt.Fm) (i:G h=G d) (o:k.call=f.call):(fCells (h++[v]) (d++[f])).set (G d*2) j=fCells (h++[j]) (d++[k]):=by
 rw[Kf _ _ _ _ i,Kf _ _ _ _ i,o];have x:=V3 h d i;rw[qe _ _ (by omega),x,jC];rfl
theorem jz.parPush {wx:World} {m:Rt.Mc} (h:jz w M B ty tail S m X) (fs:List Rt.Fm) (f:Rt.Fm) (hf:m.zH=fs++[f]) (g cap:Nat) (A:X.fv=I (Q ⟨g,0,Z⟩) (G fs+1) cap) (xg:List Value) (pv:Value) (z:X.xg=xg++[pv]) (L:Below w.heap.size w wx) (U:wx.grownBy w1 pv.ownBlock) (x:Int) (pv':Value) (a2:w1.ownsRow 0 3 1 pv' (G f.params+1) (xR (f.params++[x]))) (a7:∀k,pv'.ownBlock=Q k->pv.ownBlock=Q k\/w.heap.size<=k):jz (w1.setCell ⟨g,G fs*2,Z⟩ pv') M B ty tail S { m with zH:=fs++[⟨f.params++[x],f.call⟩] } { X with xg:=xg++[pv'] }/\VM w (w1.setCell ⟨g,G fs*2,Z⟩ pv') (M::Z4 X)/\vd w (Z4 X) (Z4 { X with xg:=xg++[pv'] })/\w1.cell? ⟨g,G fs*2,Z⟩=Q pv/\w1.frozen? ⟨g,G fs*2,Z⟩=W/\w1.heap[M]?=w.heap[M]?:=by
 have T:G xg=G fs:=by
  have:=h.fl;rw[hf,z]at this;simpa using this
 have hkeep:∀k,k < w.heap.size->pv.ownBlock≠Q k->w1.heap[k]?=w.heap[k]?:=fun k hk A=>(U.block k (zX hk L.size) (xK A)).trans (L.block k hk);have a0:List.zipWith zz X.xg (m.zH.map Rt.Fm.params)=List.zipWith zz xg (fs.map Rt.Fm.params)++[zz pv f.params]:=by
  rw[hf,z,yB,kN (by rw[qR];exact T)];rfl
 have R:rowsOf S.input X m=([zz X.iv S.input,XM X m,⟨24,1,X.vv,G m.values,X.YR⟩,zz X.ov m.output]++List.zipWith zz xg (fs.map Rt.Fm.params))++zz pv f.params::List.zipWith zz X.YR m.values:=by
  rw[fP,a0];simp
 have D:=h.own;rw[R]at D;obtain⟨o1,o2⟩:=Own.swap (w':=w1) D (r':=zz pv' (f.params++[x])) hkeep (by show World.ownsRow _ 0 3 1 _ (f.params++[x]).length _;rw[ze];exact a2) a7;have H:([zz X.iv S.input,XM X m,⟨24,1,X.vv,G m.values,X.YR⟩,zz X.ov m.output]++List.zipWith zz xg (fs.map Rt.Fm.params))++zz pv' (f.params++[x])::List.zipWith zz X.YR m.values=[zz X.iv S.input]++XM X m::([⟨24,1,X.vv,G m.values,X.YR⟩,zz X.ov m.output]++(List.zipWith zz xg (fs.map Rt.Fm.params)++zz pv' (f.params++[x])::List.zipWith zz X.YR m.values)):=by simp
 have N:=o1;rw[H]at N;have d:w1.ownsRow 0 153 2 (I (Q ⟨g,0,Z⟩) (G fs+1) cap) (G fs+1) (fCells (xg++[pv]) (fs++[f])):=by
  have:=N.rows (XM X m) (by simp);have e:(XM X m)=⟨153,2,I (Q ⟨g,0,Z⟩) (G fs+1) cap,G fs+1,fCells (xg++[pv]) (fs++[f])⟩:=by
   unfold XM;rw[A,hf,z,ze,yl]
  rw[e]at this;exact this
 have a1:=(d.stored (G fs*2) pv').1;rw[fCells_set xg fs pv pv' f ⟨f.params++[x],f.call⟩ T rfl]at a1;obtain⟨p1,p2⟩:=Own.swap (w':=w1.setCell ⟨g,G fs*2,Z⟩ pv') N (r':=⟨153,2,I (Q ⟨g,0,Z⟩) (G fs+1) cap,G fs+1,fCells (xg++[pv']) (fs++[⟨f.params++[x],f.call⟩])⟩) (fun k _ hk=>zO w1 ⟨g,G fs*2,Z⟩ pv' k (fun e=>hk (by show X.fv.ownBlock=Q k;rw[A,show k=g from e];rfl))) a1 (fun k hk=>Or.inl (by show X.fv.ownBlock=Q k;rw[A];exact hk));have o:rowsOf S.input { X with xg:=xg++[pv'] } { m with zH:=fs++[⟨f.params++[x],f.call⟩] }=[zz X.iv S.input]++⟨153,2,I (Q ⟨g,0,Z⟩) (G fs+1) cap,G fs+1,fCells (xg++[pv']) (fs++[⟨f.params++[x],f.call⟩])⟩::([⟨24,1,X.vv,G m.values,X.YR⟩,zz X.ov m.output]++(List.zipWith zz xg (fs.map Rt.Fm.params)++zz pv' (f.params++[x])::List.zipWith zz X.YR m.values)):=by
  unfold rowsOf;have e:List.zipWith zz (xg++[pv']) ((fs++[(⟨f.params++[x],f.call⟩:Rt.Fm)]).map Rt.Fm.params)=List.zipWith zz xg (fs.map Rt.Fm.params)++[zz pv' (f.params++[x])]:=by
   rw[yB,kN (by rw[qR];exact T)];rfl
  simp only[e,A,ze,yl];simp
 have hMg:M≠g:=fun e=>h.uk (by rw[A,e];rfl);have hMp:pv.ownBlock≠Q M:=fun e=>by
  have:=D.rows (zz pv f.params) (by simp);obtain⟨c,i⟩:=yW this e;rw[h.block]at i;injection i with i;injection i with _ i;exact h.ty.1 i
 have a5:∃c,w.heap[g]?=Q (V c 153 (0,0)):=yW h.zH (by rw[A];rfl);have hot:∀k,k≠g->(w1.setCell ⟨g,G fs*2,Z⟩ pv').heap[k]?=w1.heap[k]?:=fun k hk=>zO w1 ⟨g,G fs*2,Z⟩ pv' k hk;have a3:=h.next (w':=w1.setCell ⟨g,G fs*2,Z⟩ pv') (tail':=tail) (m':={ m with zH:=fs++[⟨f.params++[x],f.call⟩] }) (X':={ X with xg:=xg++[pv'] }) (by rw[hot M hMg,hkeep M (zQ h.block) hMp];exact h.block) (zi (zi L.size U.size) (by simp[World.setCell])) (by
  intro k y O a8 J;have a4:k≠g:=fun e=>by
   obtain⟨c,i⟩:=a5;rw[e,i]at O;injection O with O;obtain⟨c',t',F,J⟩:=J;rw[<-O]at F;injection F with _ F;rw[<-F]at J;exact absurd J (by unfold Xe;decide)
  rw[hot k a4,hkeep k (zQ O) (fun e=>by
   have:=D.rows (zz pv f.params) (by simp);obtain⟨c,i⟩:=yW this e;rw[O]at i;injection i with i;obtain⟨c',t',F,J⟩:=J;rw[i]at F;injection F with _ F;have e3:(zz pv f.params).t=3:=rfl;rw[<-F,e3]at J;exact absurd J (by unfold Xe;decide))]
  exact O) (by rw[o];exact p1) rfl rfl (by simp[T]) h.vl
 have a6:g∈Z4 X:=by rw[<-h.xh];exact qU (r:=XM X m) (by rw[fP];simp) (by show X.fv.ownBlock=Q g;rw[A];rfl)
 refine⟨a3,⟨U.os.trans L.os,U.tape.trans L.tape,U.output.trans L.output,zi (zi L.size U.size) (by simp[World.setCell]),fun k hk hn=>?_⟩,?_,?_,d.frozenAt _,hkeep M (zQ h.block) hMp⟩
 ·rw[hot k (fun e=>hn (zm _ (by rw[e];exact a6)))];exact hkeep k hk (fun e=>hn (zm _ (by rw[<-h.xh,R];exact qU (r:=zz pv f.params) (by simp) e)))
 ·rw[<-h.xh,<-a3.xh,o];intro k hk3;rcases p2 k hk3 with hk4 | hk4
  ·rw[<-H]at hk4;rcases o2 k hk4 with hk5 | hk5
   ·rw[R];exact Or.inl hk5
   ·exact Or.inr hk5
  ·exact Or.inr (zi (zi L.size U.size) hk4)
 ·obtain⟨g',c',he,_,_,i⟩:=yD d (j:=G fs*2) (u:=pv) (by rw[Kf _ _ _ _ T,yU (Nat.le_of_eq (V3 _ _ T)),V3 _ _ T,jC];rfl);simp at he;obtain⟨rfl,rfl⟩:=he;exact i
theorem addParam_any {m:Rt.Mc} (h:jz w M B ty tail S m X) (hm:dL S m) (x:Int) (fs:List Rt.Fm) (f:Rt.Fm) (hf:m.zH=fs++[f]) (a9:G f.params<=900):Calls Tryz.prog 212 #[H (Q ⟨M,0,Z⟩),J U x] w fun e w'=>e=T (E #[])/\∃X',Z8 M B ty tail S X X' { m with zH:=fs++[⟨f.params++[x],f.call⟩] } w w':=by
 obtain⟨i0,a3,a2,a1,a0⟩:=yi XL;have a4:=hm.zH;have j:G m.zH=G fs+1:=by rw[hf];simp
 obtain⟨g,cap,z,a5⟩:∃g cap,X.fv=I (Q ⟨g,0,Z⟩) (G fs+1) cap/\G fs+1<=cap:=by
  have h1:=h.zH;rw[j]at h1;rcases h1.2 with⟨e,e2⟩| ⟨g,cap,cur,e,_,_,e3,_⟩
  ·simp at e2
  ·exact⟨g,cap,e,e3⟩
 obtain⟨xg,pv,d⟩:∃xg pv,X.xg=xg++[pv]:=by
  have L:X.xg≠[]:=by intro e;have:=h.fl;rw[e,j]at this;simp at this
  exact⟨X.xg.dropLast,X.xg.getLast L,(xj L).symm⟩
 have hl:G xg=G fs:=by have:=h.fl;rw[j,d]at this;simpa using this
 have i:=h.sR (G fs) (by omega);have R:m.zH[G fs]'(by omega)=f:=by simp[hf]
 have D:X.xg[G fs]'(by rw[d];simp[hl])=pv:=by simp[d,<-hl]
 rw[R,D]at i;obtain⟨F,A,rfl⟩:=zK i;have k0:w.cell? ⟨g,G fs*2,Z⟩=Q (I F (G f.params) A):=by
  obtain⟨g',c',he,_,_,hc⟩:=yD h.zH (Js X.xg m.zH h.fl (G fs) (by omega)).1;rw[z]at he;simp at he;obtain⟨rfl,_⟩:=he;rw[D]at hc;exact hc
 have O:g < w.heap.size:=by
  have:=(h.zH.lt g (by rw[z];rfl)).2;exact this
 have a6:(w.alloc (Obj.cells #[J U x] 3)).cell? ⟨g,G fs*2,Z⟩=Q (I F (G f.params) A):=(World.cell?_alloc_past _ _ _ O).trans k0;have c2:=h.c2;rw[z]at c2;have V:=zQ h.block;have a8:IntKind.i64.wrap ((G fs:Int)+1-1)=(G fs:Int):=by rw[yv,yC _ (by omega)];omega
 have a7:IntKind.i64.wrap (G fs:Int)=(G fs:Int):=by rw[yv,yC _ (by omega)]
 have i1:(0:Int)<=(G fs:Int):=by omega
 have i2:(G fs:Int) < (G fs:Int)+1:=by omega
 have i3:¬(G fs:Int) < 0:=by omega
 have W:=DA h i z d hf;clear h z d hf i D R hm a4 j;go_enter func212,ntmps212;go_wp2_with fail;go_region_law
     ((refine step_append_lies _ (by rfl) _ _ _ (by rfl) 0 3 i0 _ 1 8 underlying24 a3 a2 a1 a0 rfl (by omega) _ (G f.params) (xR f.params) (by rfl) ((W.u.2.1.alloc _).drew) ⟨w.heap.size,0,Z⟩ 1 1 [J U x] (by rfl) (by rfl) (World.news_of_block (cs:=#[J U x]) (t:=3) (fr:=(0,0)) (zN w _)) (by simp[Value.oneCell']) (by omega) (by unfold maxLen;omega) (by omega) (zo _) (w.heap.size+1) (by simp) ?_;intro g' cap' w4 o y hat N;obtain⟨q1,q2,q3,q4,q5,q6⟩:=W.u.1.parPush fs f W.u.2.2.2.2 g cap W.u.2.2.1 xg _ W.u.2.2.2.1 (((zI _ w).alloc (zB _) _).drew) y x (I (Q ⟨g',0,Z⟩) (G f.params+1) cap') (by rw[xR,yB];exact o) (fun k hk=>by simp[Value.ownBlock]at hk;subst hk;rcases hat with e | e;exact Or.inl e;exact Or.inr (by omega));have HF:=XX q1 q2 q3;have b0:w4.cell? ⟨M,2,Z⟩=Q (I (Q ⟨g,0,Z⟩) (G fs+1) cap):=(xG (a:=⟨M,2,Z⟩) q6).trans c2;clear q1 q2 q3 q6 o y hat N))
 all_goals
  go_wp2;go_end0;exact⟨rfl,_,⟨HF.u.1,HF.u.2.1,HF.u.2.2,V⟩⟩
end
end Go.Proofs.YthleadfkfnnadaaGreat
