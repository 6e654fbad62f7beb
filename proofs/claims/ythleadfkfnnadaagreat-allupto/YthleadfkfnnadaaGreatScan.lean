/- The walks of package scan. -/
import Derived.Test.YthleadfkfnnadaaGreatRtDefs
import Derived.Deep.AppendSrc
import Derived.Laws.CopyOwn
import Derived.OwnWalk
set_option maxHeartbeats 4000000
set_option maxRecDepth 100000
set_option linter.all false
namespace Go.Proofs.YthleadfkfnnadaaGreat
open Value renaming int->J,slice->I,string->O,pointer->H,bool->A,agg->L,tuple->E
open IntKind renaming i64->U
open Option renaming none->Z,some->Q
open Bool renaming false->W,true->D
open List renaming length->G
open Ending renaming returned->T
open Obj renaming cells->V
open Rf Rt Go.Proofs.Tryz
open Go.RowKit
variable {s:Ia} {m b:Int} {ls:List Ib} {t:Ib} {l:List Int} {F F1 op:List Nat} {xs vs:List Value} {B size n g S k i cap j c:Nat} {row:Option Nat} {e:TypeId} {v lv lv' pv:Value} {w w' w1 w2:World}
namespace Rf
theorem K9 (ls:List Ib) (n:Nat) (h:0 < home ls n):0 < home ls (n+1):=by
 rw[Xy];split <;> omega
theorem Xv {ls:List Ib}:∀(f k:Nat) (op sp:List Nat),G ls-k=f->nestFrom ls (ls.drop k) k op sp=0->(0 < G op->0 < home ls k)->
  ∀l (hl:l < G ls),k<=l->Xl ls[l]=W->((first ls[l]).toList==[])=W->0 < home ls (l+1)
 | 0,k,op,sp,hf,_,_,l,hl,hkl,_,_=>by omega
 | f+1,k,op,sp,hf,h,ho,l,hl,hkl,ht,he=>by
  have j:k < G ls:=by omega
  obtain⟨i,A,o⟩:=YG (first ls[k]);rw[Vt j o]at h;obtain⟨f0,z,y,x,I,H,F,D⟩:=o;by_cases hlk:l=k
  ·subst hlk;have i0:¬i=0:=by intro e;rw[e]at f0;rw[he]at f0;cases f0
   have i3:¬(i=1\/i=2\/i=3):=by
    rintro (e | e | e) <;> subst e <;> unfold Xl at ht
    ·rw[z]at ht;simp at ht
    ·rw[y]at ht;simp at ht
    ·rw[x]at ht;simp at ht
   rw[zA i0]at h;by_cases h0:G op=0
   ·rw[zE (by simp[i3,h0])]at h;omega
   ·exact K9 ls l (ho (by omega))
  ·have d:k+1<=l:=by omega
   by_cases i0:i=0
   ·rw[zE i0]at h;exact Xv f (k+1) op sp (by omega) h (fun h'=>K9 ls k (ho h')) l hl d ht he
   rw[zA i0]at h;by_cases hc:decide (i=1\/i=2\/i=3)=!decide (G op=0)
   ·rw[zE hc]at h;omega
   rw[zA hc]at h;by_cases i3:i=3\/i=4\/i=5
   ·rw[zE i3]at h;refine Xv f (k+1) _ sp (by omega) h (fun _=>?_) l hl d ht he;by_cases e3:i=3
    ·rw[Xy,yq j,zE (by rw[x];simp[e3])];omega
    ·have:¬G op=0:=by
      intro h0;apply hc;have:¬(i=1\/i=2\/i=3):=by omega
      simp[this,h0]
     exact K9 ls k (ho (by omega))
   rw[zA i3]at h;by_cases i6:i=6
   ·rw[zE i6]at h;split at h
    ·omega
    ·exact Xv f (k+1) op _ (by omega) h (fun h'=>K9 ls k (ho h')) l hl d ht he
   rw[zA i6]at h;by_cases i7:i=7
   ·rw[zE i7]at h;refine Xv f (k+1) _ _ (by omega) h (fun h'=>K9 ls k (ho ?_)) l hl d ht he;rw[XU]at h';omega
   rw[zA i7]at h;exact Xv f (k+1) op sp (by omega) h (fun h'=>K9 ls k (ho h')) l hl d ht he
theorem dc (h:nested ls=0) {l:Nat} (f:l < G ls) (d:Xl ls[l]=W) (i:((first ls[l]).toList==[])=W):0 < home ls (l+1):=
 Xv (G ls) 0 [] [] (by omega) h (by simp) l f (by omega) d i
def formsFrom:Nat->Ib->List Ib->Nat×List Ib
 | _,[],acc=>(0,acc)
 | i,s::r,acc=>
  match Rt.yY s with
  | none=>(i+1,acc)
  | some ts=>if xM (tx ts)=true then formsFrom (i+1) r (acc++[tx ts])else (i+1,acc)
def rightFrom (ls:List Ib):Nat->Nat->Nat
 | 0,_=>0
 | f+1,k=>if jZ ls k (xU ls k)=true then rightFrom ls f (k+1)else k+1
def Yk:Ia:=⟨#[109,97,105,110]⟩
def jV (ls:List Ib):Int×Int×List Ib:=
 if decl ls Yk=0 then (4,0,[])
 else if ((first (xU ls (decl ls Yk-1))).toList==[112,114,111,99])=W then (4,0,[])
 else (0,0,ls)
def Xu (ls:List Ib):Int×Int×List Ib:=
 if ¬nested ls=0 then (3,nested ls,[])
 else if ¬rightFrom ls (G ls) 0=0 then (4,rightFrom ls (G ls) 0,[])
 else jV ls
def vP (s:Ia):Int×Int×List Ib:=
 if 40000 < s.size then (1,0,[])
 else if 100 < (Rt.lines s).length then (1,0,[])
 else if ¬(formsFrom 0 (Rt.lines s) []).1=0 then (2,(formsFrom 0 (Rt.lines s) []).1,[])
 else Xu (formsFrom 0 (Rt.lines s) []).2
end Rf
theorem GA {ts:List Rt.Tk} (f:s.size<=40000) (h:Rt.yY s=Q ts):Y8 (Rf.tx ts):=by
 obtain⟨j,i⟩:=Rt.JY f h;refine⟨by simp[Rf.tx];omega,fun x hx=>?_⟩;simp[Rf.tx]at hx;obtain⟨t,d,rfl⟩:=hx;exact i t d
structure bo (ls:List Ib):Prop where
 VJ:∀t∈ls,Y8 t
 line:∀t∈ls,xM t=true
theorem bo.lawful (h:bo ls) (d:G ls<=100):Lawful ls:=⟨d,h.VJ,fun t ht htop=>D3 (h.line t ht) htop⟩
theorem bo.snoc (h:bo ls) (f:Y8 t) (d:xM t=D):bo (ls++[t]):=
 ⟨fun u hu=>by simp at hu;rcases hu with hu | rfl;exact h.VJ u hu;exact f,fun u hu=>by simp at hu;rcases hu with hu | rfl;exact h.line u hu;exact d⟩
theorem bo.F6 (h:bo ls) (f:Rf.nested ls=0) (l:Nat) (hl:l < G ls):nh ls l hl:=by
 refine⟨fun ht i hi _=>dc f hl ht ?_,fun hc=>Da (h.line _ (zj hl)) hc⟩;cases he:((Rf.first ls[l]).toList==[])with
 | false=>rfl
 | true=>
  exfalso;rw[gT (by omega),xw]at he;have d:=h.line _ (zj hl);rw[QT (by omega),gT (by omega),he]at d;simp[Rf.isKind]at d
structure Rw where
 t:TypeId
 size:Nat
 v:Value
 n:Nat
 xs:List Value
def Rw.FR (r:Rw):Option Nat:=r.v.ownBlock
def xh (R:List Rw):List Nat:=R.filterMap Rw.FR
structure Own (w:World) (R:List Rw):Prop where
 rows:∀r∈R,w.ownsRow 0 r.t r.size r.v r.n r.xs
 apart:(xh R).Nodup
structure VM (w w':World) (F:List Nat):Prop where
 os:w'.os=w.os
 tape:w'.tape=w.tape
 output:w'.output=w.output
 size:w.heap.size<=w'.heap.size
 block:∀k,k < w.heap.size->k∉F->w'.heap[k]?=w.heap[k]?
theorem VM.jQ (F:List Nat) (h:Below w.heap.size w w'):VM w w' F:=⟨h.os,h.tape,h.output,h.size,fun k hk _=>h.block k hk⟩
def vd (w:World) (F F':List Nat):Prop:=∀k∈F',k∈F\/w.heap.size<=k
theorem VM.trans {w w1 w2:World} {F F1:List Nat} (h:VM w w1 F) (d:VM w1 w2 F1) (hg:vd w F F1):VM w w2 F:=
 ⟨d.os.trans h.os,d.tape.trans h.tape,d.output.trans h.output,zi h.size d.size,fun k hk hn=>(d.block k (zX hk h.size) (fun hf=>by rcases hg k hf with f | f;exact hn f;omega)).trans (h.block k hk hn)⟩
theorem vd.refl (w:World) (F:List Nat):vd w F F:=fun _ h=>Or.inl h
theorem vd.trans {F2:List Nat} (h:vd w F F1) (h2:vd w1 F1 F2) (f:w.heap.size<=w1.heap.size):vd w F F2:=fun k hk=>by
 rcases h2 k hk with d | d
 ·exact h k d
 ·exact Or.inr (zi f d)
theorem yW (h:w.ownsRow B e size v n xs) (hg:v.ownBlock=Q g):∃c,w.heap[g]?=Q (V c e (0,0)):=by
 rcases h.2 with⟨d,_⟩| ⟨g',_,cur,d,_,hh,_⟩
 ·rw[d]at hg;cases hg
 ·rw[d]at hg;simp[Value.ownBlock]at hg;subst hg;exact⟨_,hh⟩
theorem own_base {B':Nat} (h:w.ownsRow B e size v n xs) (d:∀g,v.ownBlock=Q g->B'<=g):w.ownsRow B' e size v n xs:=Je h d
theorem vr (h:w.ownsRow B e size v n xs):w.ownsRow 0 e size v n xs:=yn h (zo _)
theorem yP (h:w.ownsRow B e size v n xs) (d:∀g,v.ownBlock=Q g->w'.heap[g]?=w.heap[g]?):w'.ownsRow B e size v n xs:=by
 obtain⟨f,h2⟩:=h;refine⟨f,?_⟩;rcases h2 with h2 | ⟨g,cap,cur,hv,hg,hh,r⟩
 ·exact Or.inl h2
 ·exact Or.inr ⟨g,cap,cur,hv,hg,by rw[d g (by rw[hv];rfl)];exact hh,r⟩
theorem qU {R:List Rw} {r:Rw} (h:r∈R) (d:r.v.ownBlock=Q g):g∈xh R:=ju.mpr ⟨r,h,d⟩
theorem jd {A B:List Rw}:xh (A++B)=xh A++xh B:=by simp[xh]
theorem ka {r:Rw} {B:List Rw}:xh (r::B)=(match r.v.ownBlock with | none=>xh B | some g=>g::xh B):=by
 unfold xh Rw.FR;rw[List.filterMap_cons];cases r.v.ownBlock <;> rfl
theorem Own.lt {w:World} {R:List Rw} (h:Own w R):∀k∈xh R,k < w.heap.size:=by
 intro k f;obtain⟨r,d,i⟩:=ju.mp f;exact((h.rows r d).lt k i).2
theorem Own.zP {R:List Rw} (h:Own w R) (d:Below w.heap.size w w'):Own w' R:=⟨fun r hr=>yG (h.rows r hr) d,h.apart⟩
theorem Own.ne {A B:List Rw} {r:Rw} (h:Own w (A++r::B)) (f:r.v.ownBlock=Q g):g∉xh A/\g∉xh B:=by
 have d:=h.apart;rw[jd,ka,f]at d;simp only at d;obtain⟨k,j,i⟩:=jU.mp d;exact⟨fun hA=>i g hA g (xB ..) rfl,(YB.mp j).1⟩
theorem Own.swap {A B:List Rw} {r r':Rw} (h:Own w (A++r::B)) (H:∀k,k < w.heap.size->r.v.ownBlock≠Q k->w'.heap[k]?=w.heap[k]?) (N:w'.ownsRow 0 r'.t r'.size r'.v r'.n r'.xs) (hat:∀g,r'.v.ownBlock=Q g->r.v.ownBlock=Q g\/w.heap.size<=g):Own w' (A++r'::B)/\vd w (xh (A++r::B)) (xh (A++r'::B)):=by
 have J:∀k∈xh A,r.v.ownBlock≠Q k:=fun k hk e=>(h.ne e).1 hk;have I:∀k∈xh B,r.v.ownBlock≠Q k:=fun k hk e=>(h.ne e).2 hk;refine⟨⟨?_,?_⟩,?_⟩
 ·intro x hx;rcases zd.mp hx with hx | hx
  ·have:=h.rows x (zY _ hx);exact yP this (fun g hg=>H g (this.lt g hg).2 (J g (qU hx hg)))
  ·rcases zw.mp hx with rfl | hx
   ·exact N
   ·have:=h.rows x (zb _ (zm _ hx));exact yP this (fun g hg=>H g (this.lt g hg).2 (I g (qU hx hg)))
 ·have L:=h.apart;have f:=h.lt;rw[jd,ka]at L ⊢;rw[jd,ka]at f;obtain⟨G,n2,M⟩:=jU.mp L;have i:(xh B).Nodup:=by
   cases e:r.v.ownBlock with
   | none=>rw[e]at n2;exact n2
   | some g=>rw[e]at n2;exact(YB.mp n2).2
  have o:∀k∈xh A,k < w.heap.size:=fun k hk=>f k (zY _ hk);have j:∀k∈xh B,k < w.heap.size:=fun k hk=>f k (zb _ (by
   cases e:r.v.ownBlock with
   | none=>exact hk
   | some g=>exact zm _ hk))
  have F:∀a∈xh A,∀b∈xh B,a≠b:=fun a ha b hb2=>M a ha b (by
   cases e:r.v.ownBlock with
   | none=>exact hb2
   | some g=>exact zm _ hb2)
  cases e:r'.v.ownBlock with
  | none=>exact jU.mpr ⟨G,i,F⟩
  | some g=>
   have D:g∉xh A:=fun hg=>by rcases hat g e with d | d;exact J g hg d;have:=o g hg;omega
   have z:g∉xh B:=fun hg=>by rcases hat g e with d | d;exact I g hg d;have:=j g hg;omega
   refine jU.mpr ⟨G,YB.mpr ⟨z,i⟩,?_⟩;intro a ha b hb2;rcases zw.mp hb2 with rfl | hb2
   ·intro O;rw[O]at ha;exact D ha
   ·exact F a ha b hb2
 ·intro k hk;rw[jd,ka]at hk ⊢;rcases zd.mp hk with hk | hk
  ·exact Or.inl (zY _ hk)
  ·have y:k∈xh B->k∈xh A++(match r.v.ownBlock with | none=>xh B | some g=>g::xh B):=fun hk=>zb _ (by
    cases e:r.v.ownBlock with
    | none=>exact hk
    | some g=>exact zm _ hk)
   cases e:r'.v.ownBlock with
   | none=>rw[e]at hk;exact Or.inl (y hk)
   | some g=>
    rw[e]at hk;rcases zw.mp hk with rfl | hk
    ·rcases hat k e with d | d
     ·rw[d];exact Or.inl (zb _ (xB ..))
     ·exact Or.inr d
    ·exact Or.inl (y hk)
theorem Own.add {A B:List Rw} {r:Rw} (h:Own w (A++B)) (k:w.ownsRow 0 r.t r.size r.v r.n r.xs) (o:∀g,r.v.ownBlock=Q g->g∉xh (A++B)):Own w (A++r::B):=by
 refine⟨?_,?_⟩
 ·intro x hx;rcases zd.mp hx with hx | hx
  ·exact h.rows x (zY _ hx)
  ·rcases zw.mp hx with rfl | hx
   ·exact k
   ·exact h.rows x (zb _ hx)
 ·have f:=h.apart;rw[jd]at f;obtain⟨j,n2,i⟩:=jU.mp f;rw[jd,ka];cases e:r.v.ownBlock with
  | none=>exact f
  | some g=>
   have:=o g e;rw[jd]at this;have z:g∉xh A:=fun hg=>this (zY _ hg);have y:g∉xh B:=fun hg=>this (zb _ hg);refine jU.mpr ⟨j,YB.mpr ⟨y,n2⟩,?_⟩;intro a d b hb2;rcases zw.mp hb2 with rfl | hb2
   ·intro D;rw[D]at d;exact z d
   ·exact i a d b hb2
theorem Own.drop {A B:List Rw} {r:Rw} (h:Own w (A++r::B)):Own w (A++B):=by
 refine⟨fun x hx=>h.rows x (by rcases zd.mp hx with hx | hx;exact zY _ hx;exact zb _ (zm _ hx)),?_⟩;have d:=h.apart;rw[jd,ka]at d;obtain⟨i,n2,f⟩:=jU.mp d;rw[jd];cases e:r.v.ownBlock with
 | none=>rw[e]at d;exact d
 | some g=>
  rw[e]at n2 f;exact jU.mpr ⟨i,(YB.mp n2).2,fun a ha b hb=>f a ha b (zm _ hb)⟩
theorem mP {A B:List Rw} {r:Rw}:∀k∈xh (A++B),k∈xh (A++r::B):=by
 intro k hk;rw[jd]at hk ⊢;rcases zd.mp hk with hk | hk
 ·exact zY _ hk
 ·refine zb _ ?_;rw[ka];cases r.v.ownBlock with
  | none=>exact hk
  | some g=>exact zm _ hk
def aA (w:World) (B:Nat) (vs:List Value) (ls:List Ib):Prop:=G vs=G ls/\∀j (h:j < G ls),∃v,vs[j]?=Q v/\w.ownsRow B 9 1 v ls[j].length (ls[j].map Value.string)
structure ng (w:World) (S:Nat) (ls:List Ib) (lv:Value) (vs:List Value):Prop where
 block:w.heap[S]?=some (.cells #[lv] 85 (0,0))
 own:w.ownsRow (S+1) 87 1 lv ls.length vs
 lines:aA w (S+1) vs ls
theorem aA.map (h:aA w B vs ls) (d:∀(n:Nat) (v:Value) (xs:List Value),w.ownsRow B 9 1 v n xs->w'.ownsRow B 9 1 v n xs):aA w' B vs ls:=
 ⟨h.1,fun j hj=>let ⟨v,h1,h2⟩:=h.2 j hj;⟨v,h1,d _ _ _ h2⟩⟩
theorem aA.snoc (h:aA w B vs ls) {u:Ib} (k:w.ownsRow B 9 1 v (G u) (u.map Value.string)):aA w B (vs++[v]) (ls++[u]):=by
 refine⟨by simp[h.1],fun j hj=>?_⟩;by_cases d:j < G ls
 ·obtain⟨i,x,o⟩:=h.2 j d;exact⟨i,by rw[yp (by rw[h.1];exact d)];exact x,by rw[xI d];exact o⟩
 ·have f:j=G ls:=by simp at hj;omega
  subst f;exact⟨v,by rw[yU (by rw[h.1];exact zB _),h.1];simp,by simpa using k⟩
theorem ng.zP (h:ng w S ls lv vs) (d:Below w.heap.size w w'):ng w' S ls lv vs:=
 ⟨zU h.block d,yG h.own d,h.lines.map (fun _ _ _ h=>yG h d)⟩
theorem ng.push (h:ng w S ls lv vs) (hv:w.ownsRow (S+1) 9 1 v (G t) (t.map Value.string)) (o:Below w.heap.size w w1) (y:w2.ownsRow (S+1) 87 1 lv' (G ls+1) (vs++[v])) (d:w1.grownBy w2 lv.ownBlock):ng (w2.setCell ⟨S,0,Z⟩ lv') S (ls++[t]) lv' (vs++[v])/\Below S w (w2.setCell ⟨S,0,Z⟩ lv')/\∀(B n:Nat) (u:Value) (xs:List Value),S+1<=B->w.ownsRow B 9 1 u n xs->(w2.setCell ⟨S,0,Z⟩ lv').ownsRow B 9 1 u n xs:=by
 have z:=zQ h.block;have j:∀k,lv.ownBlock=Q k->S < k:=fun k hk=>by have:=(h.own.lt k hk).1;omega
 have f:∀k,k < w.heap.size->Q k≠lv.ownBlock->w2.heap[k]?=w.heap[k]?:=fun k hk hv=>by
  rw[d.block k (zX hk o.size) hv];exact o.block k hk
 have i:∀k,k≠S->(w2.setCell ⟨S,0,Z⟩ lv').heap[k]?=w2.heap[k]?:=fun k hk=>zO w2 ⟨S,0,Z⟩ _ k hk;have H:∀(B n:Nat) (u:Value) (xs:List Value),S+1<=B->w.ownsRow B 9 1 u n xs->(w2.setCell ⟨S,0,Z⟩ lv').ownsRow B 9 1 u n xs:=by
  intro B n u xs J A;have D:=Ys A h.own (by decide);obtain⟨I,h2⟩:=A;refine⟨I,?_⟩;rcases h2 with h2 | ⟨g,cap,cur,x,hg,hh,r⟩
  ·exact Or.inl h2
  ·exact Or.inr ⟨g,cap,cur,x,hg,by rw[i g (by omega),f g (zQ hh) (fun e=>D g (by rw[x];rfl) e.symm)];exact hh,r⟩
 refine⟨⟨?_,?_,(h.lines.map (fun n u xs A=>H _ n u xs (zB _) A)).snoc (H _ _ _ _ (zB _) hv)⟩,?_,H⟩
 ·have F:w2.heap[S]?=Q (V #[lv] 85 (0,0)):=(f S z (fun e=>by have:=j S e.symm;omega)).trans h.block;have:=zf F 0 lv';simpa using this
 ·rw[ze];exact qL y (by show S < S+1;omega) _
 ·refine⟨d.os.trans o.os,d.tape.trans o.tape,d.output.trans o.output,?_,fun k hk=>(i k (by omega)).trans (f k (by omega) (fun e=>by have:=j k e.symm;omega))⟩;have I:=d.size;have h2:=o.size;simp[World.setCell];omega
theorem EA (d:w.heap[S]?=Q (V #[lv] 85 (0,0))) (i:Below w.heap.size w w1) (f:w1.grownBy w2 row) (j:row≠Q S):w2.cell? ⟨S,0,Z⟩=Q lv/\w2.frozen? ⟨S,0,Z⟩=W:=by
 have h:w2.heap[S]?=Q (V #[lv] 85 (0,0)):=by
  rw[f.block S (zX (zQ d) i.size) (xK j),i.block S (zQ d)];exact d
 exact⟨zC h 0 (by simp),zS h 0⟩
theorem ng.toG (h:ng w S ls lv vs) (j:0 < G ls):∃g cap,lv=I (Q ⟨g,0,Z⟩) (G ls) cap/\jA w S g cap ls:=by
 obtain⟨z,x,_⟩:=h.lines.2 0 j;obtain⟨g,cap,f,_,_,_⟩:=yD h.own x;refine⟨g,cap,f,?_,fun l hl=>?_,⟨⟨_,h.block⟩,yW h.own (by rw[f];rfl)⟩,fun l v hv hl b hb=>?_⟩
 ·have:=zC h.block 0 (by simp);simp at this;rw[this,f]
 ·obtain⟨v,o,i⟩:=h.lines.2 l hl;obtain⟨g',cap',d,_,_,k⟩:=yD h.own o;rw[f]at d;simp at d;obtain⟨y,c,rfl⟩:=zK i;rw[d.1];exact⟨y,c,k,QA i⟩
 ·obtain⟨u,o,i⟩:=h.lines.2 l hl;obtain⟨g',cap',d,_,_,k⟩:=yD h.own o;rw[f]at d;simp at d;rw[d.1,k]at hv;injection hv with hv;subst hv;exact yW i hb
def Dn (s:Ia) (w:World) (e:Ending) (w':World):Prop:=Below w.heap.size w w'/\
  ((¬(vP s).1=0/\e=T (E #[H Z,J U (vP s).1,J U (vP s).2.1]))\/
   ((vP s).1=0/\(vP s).2.1=0/\bo (vP s).2.2/\0 < (vP s).2.2.length/\(vP s).2.2.length<=100/\∃S g cap,e=T (E #[H (Q ⟨S,0,Z⟩),J U 0,J U 0])/\jA w' S g cap (vP s).2.2))
theorem Dm (s:Ia) (hs:s.size<=maxLen):Calls Tryz.prog 44 #[O s] w (Dn s w):=by
 unfold maxLen at hs;obtain⟨i0,hi,g5,g3,g2⟩:=yi pV;by_cases hl:40000 < s.size
 ·have g7:(40000:Int) < (s.size:Int):=by omega
  have HE:=zD (show vP s=(1,0,[]) by rw[vP,zE hl]);go_enter func44,ntmps44;go_wp2;go_ret3;exact⟨zI _ _,Or.inl ⟨by rw[HE.u];decide,by rw[HE.u];rfl⟩⟩
 ·have g7:¬(40000:Int) < (s.size:Int):=by omega
  have d9:s.size<=40000:=by omega
  have hR:vP s=if 100 < (Rt.lines s).length then ((1,0,[]):Int×Int×List Ib)else if ¬(Rf.formsFrom 0 (Rt.lines s) []).1=0 then (2,((Rf.formsFrom 0 (Rt.lines s) []).1:Int),[])else Xu (Rf.formsFrom 0 (Rt.lines s) []).2:=by rw[vP,zA hl]
  have o:=zD hR;have h4:=zD (Rt.YM d9);have i9:0 < (Rt.lines s).length:=by rw[Rt.ch];omega
  clear hR;go_enter func44,ntmps44;go_wp2_with fail;refine(Ak s d9).mono ?_;rintro e w1 ⟨a3,v1,rfl,a6⟩;obtain⟨j0,c1,rfl⟩:=zK a6;generalize Rt.lines s=L at *;by_cases hm:100 < G L
  ·have g6:(100:Int) < (G L:Int):=by omega
   rw[zE hm]at o;have HB:=zD a3;clear a3 a6;go_wp2;go_ret3;exact⟨HB.u,Or.inl ⟨by rw[o.u];decide,by rw[o.u];rfl⟩⟩
  ·have g6:decide ((100:Int) < (G L:Int))=W:=by rw[kH];omega
   have i5:¬(100:Int) < (G L:Int):=by omega
   rw[zA hm]at o;have HB:=zD a3;have HO:=zD a6;have h9:=a3.size;clear a3 a6;have hA:=zN w1 (V #[I Z 0 0] 85);have HA:=zD hA;clear hA;go_wp2_with fail;generalize hF:Rf.formsFrom 0 L []=F at *;have HF:=zD hF;clear hF;go_loopw [7] (fun i wr=>∃(k:Nat) (acc:List Ib) (lv:Value) (vs:List Value),k<=G L/\i=J U k/\G acc=k/\Rf.formsFrom k (L.drop k) acc=F/\bo acc/\ng wr w1.heap.size acc lv vs/\Below w1.heap.size w1 wr)
    (fun i _=>G L-(intOf i).toNat)
   case atStart=>exact⟨0,[],_,[],zo _,rfl,rfl,HF.u,⟨by simp,by simp⟩,⟨HA.u,zW _ _ _ _,⟨rfl,fun j h=>by simp at h⟩⟩,(zI _ _).alloc (zB _) _⟩
   case round=>
    obtain⟨k,acc,lv,vs,hk,rfl,b5,hT,f2,a4,T⟩:=hrel;have HK:=zD b5;clear b5;have HT:=zD hT;have a8:=zD f2;clear hT f2;by_cases hlt:k < G L
    ·have f1:(k:Int) < (G L:Int):=by omega
     obtain⟨gx,h2,d7,_,_,cx⟩:=yD (yG HO.u T) (j:=k) (u:=O L[k]) (by simp[hlt]);have d8:=h4.u L[k] (zj hlt);simp at d7;obtain⟨rfl,rfl⟩:=d7;have a2:L.drop k=L[k]::L.drop (k+1):=zZ hlt;rw[a2,Rf.formsFrom]at HT;clear a2;have HS:=qG a4 T;have h8:=T.size;clear a4 T;generalize L[k]=x at *;go_wp2_with fail;refine(tokens_ref x d8).mono ?_;rintro e w2 ⟨y,(⟨ht,v2,rfl⟩| ⟨ts,v2,ht,rfl,a5⟩)⟩
     ·rw[ht]at HT;have h7:=zD (HS.u.2.trans (y.mono HS.u.2.size));clear y;go_wp2;go_ret3;have a1:¬F.1=0:=by rw[<-HT.u];simp
      have d3:F.1=k+1:=by rw[<-HT.u]
      refine⟨HB.u.trans (h7.u.mono HB.u.size),Or.inl ⟨by rw[o.u,zE a1];simp,by rw[o.u,zE a1,d3];simp⟩⟩
     ·rw[ht]at HT;have b4:=GA d8 ht;have b1:ts.map fC=(Rf.tx ts).map Value.string:=by simp[Rf.tx,fC]
      have b2:G ts=(Rf.tx ts).length:=by simp[Rf.tx]
      rw[b1,b2]at a5;have d4:=qG (HS.u.1.zP y) (HS.u.2.trans (y.mono HS.u.2.size));have i2:=y.size;have b9:=zD b4;clear b1 b2 y ht b4;simp only at HT;generalize Rf.tx ts=t at *;obtain⟨h3,c2,rfl⟩:=zK a5;have f9:=zD a5;clear a5;go_wp2_with fail;refine(tK b9.u _ _ (QA f9.u)).mono ?_;rintro e w3 ⟨rfl,D⟩;have H:=qG (d4.u.1.zP D) (d4.u.2.trans (D.mono d4.u.2.size));have h6:=zD (yG f9.u D);have i1:=D.size;clear D;cases hz:xM t with
      | false=>
       rw[hz,zA (by decide)]at HT;go_wp2;go_ret3;have a1:¬F.1=0:=by rw[<-HT.u];simp
       have d3:F.1=k+1:=by rw[<-HT.u]
       refine⟨HB.u.trans (H.u.2.mono HB.u.size),Or.inl ⟨by rw[o.u,zE a1];simp,by rw[o.u,zE a1,d3];simp⟩⟩
      | true=>
       rw[hz,zE rfl]at HT;have g0:=zD (a8.u.snoc b9.u hz);clear hz;obtain⟨d6,a9,d0⟩:=zK H.u.1.own;subst d0;have cS:=zC H.u.1.block 0 (by simp);simp at cS;have A:w3.ownsRow (w1.heap.size+1) 87 1 (I d6 (G acc) a9) (G acc) vs:=H.u.1.own;rw[HK.u]at A cS;have h1:k<=100:=by omega
       go_wp2_with (at_builtin;refine wpList_append_lies _ rfl (.tmp 49) (.tmp 51) 83 rfl (w1.heap.size+1) 87 i0 _ 1 24 underlying83 hi g5 g3 g2 rfl (by decide) _ _ _ rfl (A.alloc _) ⟨_,0,Z⟩ 1 1 [I h3 (G t) c2] rfl rfl (cell_one_new _ _ _) (by simp[Value.oneCell']) (by omega) (by unfold maxLen;omega) (by omega) (by have:=zQ H.u.1.block;simp;omega) _ rfl ?_);intro g4 i3 w4 a0 N h0 f0;have b0:(Value.slice d6 k a9).ownBlock≠Q w1.heap.size:=fun h=>by have:=(A.lt _ h).1;omega
       obtain⟨f3,i7⟩:=EA H.u.1.block ((zI _ _).alloc (zB _) _) N b0;have b3:=H.u.1.push (yn (b':=w1.heap.size+1) h6.u (by have:=zQ HS.u.1.block;omega)) ((zI _ _).alloc (zB _) _) (by rw[HK.u];exact a0) (by rw[HK.u];exact N);have g1:=zD b3;clear b3 a0 N h0 f0 b0 A cS;rw[HK.u]at f3;go_wp2;go_roundw
       ·obtain⟨q1,q2,_⟩:=g1.u;exact⟨k+1,_,_,_,by omega,by go_num,by simp;exact HK.u,HT.u,g0.u,q1,H.u.2.trans q2⟩
       ·simp[intOf];omega
    ·have f1:¬(k:Int) < (G L:Int):=by omega
     rw[zp (by omega),Rf.formsFrom]at HT;have f8:F=(0,acc):=HT.u.symm;rw[f8,zA (by simp)]at o;have a7:G acc<=100:=by have:=HK.u;omega
     have f6:0 < G acc:=by have:=HK.u;omega
     obtain⟨g,cap,d0,hG⟩:=a4.toG f6;have HG:=qG hG (HB.u.trans (T.mono HB.u.size));have b8:=zD (a8.u.lawful a7);clear f8 a4 T hG d0 HT HA HF;generalize hS:w1.heap.size=S at *;clear hS;go_wp2_with fail;refine(si HG.u.1 a7).mono ?_;rintro e w2 ⟨rfl,y⟩;have HG2:=qG (HG.u.1.zP y) (HG.u.2.trans (y.mono HG.u.2.size));clear y;change Hd (vP s=if ¬Rf.nested acc=0 then (3,(Rf.nested acc:Int),[])else if ¬Rf.rightFrom acc (G acc) 0=0 then (4,(Rf.rightFrom acc (G acc) 0:Int),[])else Rf.jV acc)at o;by_cases hn:Rf.nested acc=0
     ·rw[zA (by omega)]at o;have h5:=zD (a8.u.F6 hn);rw[hn];generalize f7:Rf.rightFrom acc (G acc) 0=RF at *;have HRF:=zD f7;clear f7 hn;go_wp2_with fail;go_loopw [10] (fun i wr=>∃j f:Nat,j+f=G acc/\i=J U ((j:Int)+1)/\Rf.rightFrom acc f j=RF/\jA wr S g cap acc/\Below w.heap.size w wr) (fun i _=>G acc+1-(intOf i).toNat)
      case atStart=>exact⟨0,G acc,by omega,rfl,HRF.u,HG2.u.1,HG2.u.2⟩
      case round=>
       obtain⟨j,f,i6,rfl,hT,c0,D⟩:=hrel;have HT:=zD hT;have M:=qG c0 D;have cT:=c0.top;clear hT c0 D;cases f with
       | zero=>
        have g8:¬(j:Int)+1<=(G acc:Int):=by omega
        have b7:RF=0:=by rw[<-HT.u];rfl
        rw[b7,zA (by simp),Rf.jV]at o;clear b7;have i8:=Qb acc Yk;go_wp2_with fail;refine(qg Yk M.u.1 b8.u).mono ?_;rintro e w4 ⟨rfl,R⟩;have HG4:=qG (M.u.1.zP R) (M.u.2.trans (R.mono M.u.2.size));clear R cT;cases hd:Rf.decl acc Yk with
        | zero=>
         rw[hd,zE rfl]at o;go_wp2;go_ret3;exact⟨HG4.u.2,Or.inl ⟨by rw[o.u];decide,by rw[o.u];rfl⟩⟩
        | succ d=>
         have f4:d < G acc:=by omega
         rw[hd,zA (by omega),zu,yq f4]at o;have g9:(((d+1:Nat):Int)==0)=W:=by rw[zV];omega
         have f5:((d+1:Nat):Int)=(d:Int)+1:=by omega
         rw[f5]at g9 ⊢;clear f5;go_wp2_with fail;refine(xz d HG4.u.1 f4 a7).mono ?_;rintro e w5 ⟨rfl,d2⟩;have d5:=qG (HG4.u.1.zP d2) (HG4.u.2.trans (d2.mono HG4.u.2.size));clear d2;generalize Rf.first acc[d]=z at *;cases hz:(z.toList==[112,114,111,99])with
         | false=>
          rw[hz,zE rfl]at o;go_wp2;go_ret3;exact⟨d5.u.2,Or.inl ⟨by rw[o.u];decide,by rw[o.u];rfl⟩⟩
         | true=>
          rw[hz,zA (by decide)]at o;go_wp2;go_ret3;refine⟨d5.u.2,Or.inr ?_⟩;rw[o.u];exact⟨rfl,rfl,a8.u,f6,a7,S,g,cap,rfl,d5.u.1⟩
       | succ f=>
        have d1:j < G acc:=by omega
        have g8:(j:Int)+1<=(G acc:Int):=by omega
        rw[Rf.rightFrom,yq d1]at HT;go_wp2_with fail;refine(wi M.u.1 b8.u d1 (h5.u j d1)).mono ?_;rintro e w4 ⟨rfl,R⟩;have HG4:=qG (M.u.1.zP R) (M.u.2.trans (R.mono M.u.2.size));clear R cT;cases hz:jZ acc j acc[j]with
        | false=>
         rw[hz,zA (by decide)]at HT;have b6:¬RF=0:=by rw[<-HT.u];omega
         rw[zE b6]at o;clear b6;go_wp2;go_ret3;exact⟨HG4.u.2,Or.inl ⟨by rw[o.u];simp,by rw[o.u,<-HT.u];simp⟩⟩
        | true=>
         rw[hz,zE rfl]at HT;go_wp2;go_roundw
         ·exact⟨j+1,f,by omega,by go_num,HT.u,HG4.u.1,HG4.u.2⟩
         ·simp[intOf];omega
     ·rw[zE hn]at o;have i4:(0:Int) < (Rf.nested acc:Int):=by omega
      go_wp2;go_ret3;exact⟨HG2.u.2,Or.inl ⟨by rw[o.u];simp,by rw[o.u];rfl⟩⟩
namespace Rf
def openerFrom (ls:List Ib):Nat->Nat->Nat
 | 0,_=>0
 | m+1,n=>
  if kJ (xU ls m)=true then
   (if (if ((first (xU ls m)).toList==[101,110,100])=true then n+1 else n)=1 then m+1 else openerFrom ls m ((if ((first (xU ls m)).toList==[101,110,100])=true then n+1 else n)-1))
  else openerFrom ls m (if ((first (xU ls m)).toList==[101,110,100])=true then n+1 else n)
theorem Zg (ls:List Ib):∀m n,openerFrom ls m n<=m
 | 0,_=>zB _
 | m+1,n=>by
  rw[openerFrom];generalize (if ((first (xU ls m)).toList==[101,110,100])=D then n+1 else n)=q;have f:=Zg ls m (q-1);have d:=Zg ls m q;split
  ·split <;> omega
  ·omega
def J3 (ls:List Ib) (k:Nat) (op:List Nat):Prop:=∀pre o suf,op=pre++o::suf->openerFrom ls k (G suf+1)=o
theorem aV (h:k < G ls) (f:HF (first ls[k]) i) (n:Nat):openerFrom ls (k+1) n=if i=3\/i=4\/i=5 then (if n=1 then k+1 else openerFrom ls k (n-1))else if i=7 then openerFrom ls k (n+1)else openerFrom ls k n:=by
 obtain⟨H,F,A,y,x,o,z,j⟩:=f;have d:(kJ ls[k]=D)↔(i=3\/i=4\/i=5):=by
  unfold kJ;rw[y,x,o];simp[KV]
 rw[openerFrom,yq h,j];simp only[d,yS];by_cases h3:i=3\/i=4\/i=5
 ·have h7:¬i=7:=by omega
  simp[h3,h7]
 ·by_cases h7:i=7
  ·simp[h7]
  ·simp[h3,h7]
theorem J3.push (h:J3 ls k op) (z:k < G ls) (D:HF (first ls[k]) i) (A:i=3\/i=4\/i=5):J3 ls (k+1) (op++[k+1]):=by
 intro d o suf y;rw[aV z D _,zE A];rcases XI suf with rfl | ⟨j,x,rfl⟩
 ·have:=List.append_inj' y (by simp);simp at this;simp[this.2]
 ·have f:op++[k+1]=(d++o::j)++[x]:=by rw[y];simp
  have:=List.append_inj' f (by simp);rw[zA (by simp)];have F:=h d o j this.1;simpa using F
theorem J3.pop {pre:List Nat} {x:Nat} (h:J3 ls k (pre++[x])) (j:k < G ls) (z:HF (first ls[k]) i) (y:i=7):J3 ls (k+1) pre:=by
 intro d o f A;rw[aV j z _,zA (by omega),zE y];have:=h d o (f++[x]) (by rw[A];simp);simpa using this
theorem J3.same (h:J3 ls k op) (j:k < G ls) (x:HF (first ls[k]) i) (A:¬(i=3\/i=4\/i=5)) (z:¬i=7):J3 ls (k+1) op:=by
 intro f o d y;rw[aV j x _,zA A,zA z];exact h f o d y
theorem Jg {ls:List Ib}:∀(f k:Nat) (op sp:List Nat),G ls-k=f->nestFrom ls (ls.drop k) k op sp=0->J3 ls k op->(∀o∈op,1<=o/\o<=k)->
  ∀l,l < G ls->k<=l->∃op' sp',nestFrom ls (ls.drop l) l op' sp'=0/\J3 ls l op'/\(∀o∈op',1<=o/\o<=l)
 | 0,k,op,sp,hf,_,_,_,l,hl,hkl=>by omega
 | f+1,k,op,sp,hf,h,hi,ho,l,hl,hkl=>by
  by_cases hlk:l=k
  ·subst hlk;exact⟨op,sp,h,hi,ho⟩
  have y:k < G ls:=by omega
  obtain⟨i,_,z⟩:=YG (first ls[k]);rw[Vt y z]at h;have j:k+1<=l:=by omega
  have d:∀o∈op,1<=o/\o<=k+1:=fun o h=>by have:=ho o h;omega
  by_cases i0:i=0
  ·rw[zE i0]at h;exact Jg f (k+1) op sp (by omega) h (hi.same y z (by omega) (by omega)) d l hl j
  rw[zA i0]at h;by_cases hc:decide (i=1\/i=2\/i=3)=!decide (G op=0)
  ·rw[zE hc]at h;omega
  rw[zA hc]at h;by_cases i3:i=3\/i=4\/i=5
  ·rw[zE i3]at h;refine Jg f (k+1) _ sp (by omega) h (hi.push y z i3) (fun o h=>?_) l hl j;simp at h;rcases h with h | rfl
   ·exact d o h
   ·omega
  rw[zA i3]at h;by_cases i6:i=6
  ·rw[zE i6]at h;split at h
   ·omega
   ·exact Jg f (k+1) op _ (by omega) h (hi.same y z i3 (by omega)) d l hl j
  rw[zA i6]at h;by_cases i7:i=7
  ·rw[zE i7]at h;rcases XI op with rfl | ⟨pre,x,rfl⟩
   ·exfalso;apply hc;simp;omega
   ·rw[xo]at h;exact Jg f (k+1) _ _ (by omega) h (hi.pop y z i7) (fun o h=>d o (by simp[h])) l hl j
  rw[zA i7]at h;exact Jg f (k+1) op sp (by omega) h (hi.same y z i3 i7) d l hl j
theorem KZ (h:nested ls=0) {l:Nat} (f:l < G ls) (d:((first ls[l]).toList==[101,110,100])=D):0 < openerFrom ls l 1:=by
 obtain⟨op,H,k,F,A⟩:=Jg (G ls) 0 [] [] (by omega) h (by intro pre o y d;simp at d) (by simp) l f (by omega);obtain⟨i,_,j⟩:=YG (first ls[l]);have z:i=7:=by
  have:=j.2.2.2.2.2.2.2;rw[d]at this;simpa using this.symm
 subst z;rw[Vt f j]at k;rcases XI op with rfl | ⟨pre,x,rfl⟩
 ·simp at k
 ·have:=F pre x [] rfl;have I:=A x (by simp);simp at this;omega
def xx (ls:List Ib) (l:Nat) (t:Ib):Bool:=
 if ((first t).toList==[115,101,116])=D then D else if ((first t).toList==[112,114,105,110,116])=D then D else if ((first t).toList==[114,101,97,100])=D then D
 else if ((first t).toList==[105,102])=D then D else if ((first t).toList==[119,104,105,108,101])=D then D else if ((first t).toList==[99,97,108,108])=D then D else if ((first t).toList==[114,101,116,117,114,110])=D then D
 else if ((first t).toList==[101,110,100])=D then ((first (xU ls (openerFrom ls l 1-1))).toList==[112,114,111,99])else W
end Rf
theorem Vr (l:Nat) (h:jA w S g cap ls) (M:l < G ls) (f:G ls<=100):Calls Tryz.prog 86 #[H (Q ⟨S,0,Z⟩),J U ((l:Int)+1)] w fun e w'=>e=T (J U (Rf.openerFrom ls l 1))/\Below w.heap.size w w':=by
 have HN:=zD h;go_enter func86,ntmps86;go_wp2;go_loopw [5,6] (fun nv i wr=>∃k n:Nat,k<=G ls/\0 < n/\n+k<=200/\nv=J U n/\i=J U k/\Rf.openerFrom ls k n=Rf.openerFrom ls l 1/\jA wr S g cap ls/\Below w.heap.size w wr) (fun _ i _=>(intOf i).toNat)
 case atStart=>exact⟨l,1,by omega,by omega,by omega,rfl,by go_num,rfl,HN.u,zI _ _⟩
 case round=>
  obtain⟨k,n,N,L,F,rfl,rfl,I,D,A⟩:=hrel;have y:=qG D A;have HT:=zD I;cases k with
  | zero=>
   go_wp2;go_ret;exact⟨by rw[<-HT.u];rfl,y.u.2⟩
  | succ k=>
   have j:k < G ls:=by omega
   rw[Rf.openerFrom,yq j]at HT;rw[show ((k+1:Nat):Int)=(k:Int)+1 by omega];go_wp2_with fail;refine(lR k y.u.1 j f).mono ?_;rintro e w1 ⟨rfl,x⟩;have d:=qG (y.u.1.zP x) (y.u.2.trans (x.mono y.u.2.size));go_wp2_with fail;refine(xz k d.u.1 j f).mono ?_;rintro e w2 ⟨rfl,o⟩;have HS2:=qG (d.u.1.zP o) (d.u.2.trans (o.mono d.u.2.size));generalize Rf.first ls[k]=z at *;generalize kJ ls[k]=ob at *;cases hz:(z.toList==[101,110,100])with
   | true=>
    rw[hz]at HT;simp only[if_true]at HT;cases ob with
    | true=>
     rw[zE rfl,zA (by omega),zu]at HT;have O:((n:Int)==0)=W:=by rw[zV];omega
     go_wp2;go_roundw
     ·exact⟨k,n,by omega,by omega,by omega,by go_num,by go_num,HT.u,HS2.u.1,HS2.u.2⟩
     ·simp[intOf]
    | false=>
     rw[zA (by decide)]at HT;go_wp2;go_roundw
     ·exact⟨k,n+1,by omega,by omega,by omega,by go_num,by go_num,HT.u,HS2.u.1,HS2.u.2⟩
     ·simp[intOf]
   | false=>
    rw[hz]at HT;simp only[YL,ID]at HT;cases ob with
    | true=>
     rw[zE rfl]at HT;by_cases hn1:n=1
     ·rw[zE hn1]at HT;subst hn1;go_wp2;go_ret;exact⟨by rw[<-HT.u];rfl,HS2.u.2⟩
     ·rw[zA hn1]at HT;obtain⟨n,rfl⟩:∃m,n=m+1:=⟨n-1,by omega⟩;rw[show ((n+1:Nat):Int)=(n:Int)+1 by omega];rw[zu]at HT;go_wp2;go_roundw
      ·exact⟨k,n,by omega,by omega,by omega,by go_num,by go_num,HT.u,HS2.u.1,HS2.u.2⟩
      ·simp[intOf]
    | false=>
     rw[zA (by decide)]at HT;go_wp2;go_roundw
     ·exact⟨k,n,by omega,by omega,by omega,by go_num,by go_num,HT.u,HS2.u.1,HS2.u.2⟩
     ·simp[intOf]
theorem Fh (l:Nat) (h:jA w S g cap ls) (k:l < G ls) (d:G ls<=100) (x:((Rf.first ls[l]).toList==[115,101,116])=D):Calls Tryz.prog 48 #[H (Q ⟨S,0,Z⟩),J U ((l:Int)+1)] w fun e w'=>e=T (A (xx ls l ls[l]))/\Below w.heap.size w w':=by
 have j:=zD h;have o:xx ls l ls[l]=D:=by rw[xx,x,zE rfl]
 have y:=zD o;generalize xx ls l ls[l]=R at *;go_enter func48,ntmps48;go_wp2_with fail;refine(xz l j.u k d).mono ?_;rintro e w1 ⟨rfl,f⟩;have i:=qG (j.u.zP f) f;generalize Rf.first ls[l]=z at *;go_wp2;go_ret;exact⟨by rw[y.u];rfl,i.u.2⟩
theorem Fg (l:Nat) (h:jA w S g cap ls) (k:l < G ls) (d:G ls<=100) (y:((Rf.first ls[l]).toList==[115,101,116])=W) (x:((Rf.first ls[l]).toList==[112,114,105,110,116])=D):Calls Tryz.prog 48 #[H (Q ⟨S,0,Z⟩),J U ((l:Int)+1)] w fun e w'=>e=T (A (xx ls l ls[l]))/\Below w.heap.size w w':=by
 have j:=zD h;have o:xx ls l ls[l]=D:=by rw[xx,y,zA (by decide),x,zE rfl]
 have F:=zD o;generalize xx ls l ls[l]=R at *;go_enter func48,ntmps48;go_wp2_with fail;refine(xz l j.u k d).mono ?_;rintro e w1 ⟨rfl,f⟩;have i:=qG (j.u.zP f) f;generalize Rf.first ls[l]=z at *;go_wp2;go_ret;exact⟨by rw[F.u];rfl,i.u.2⟩
theorem Ff (l:Nat) (h:jA w S g cap ls) (k:l < G ls) (d:G ls<=100) (F:((Rf.first ls[l]).toList==[115,101,116])=W) (y:((Rf.first ls[l]).toList==[112,114,105,110,116])=W) (x:((Rf.first ls[l]).toList==[114,101,97,100])=D):Calls Tryz.prog 48 #[H (Q ⟨S,0,Z⟩),J U ((l:Int)+1)] w fun e w'=>e=T (A (xx ls l ls[l]))/\Below w.heap.size w w':=by
 have j:=zD h;have o:xx ls l ls[l]=D:=by rw[xx,F,zA (by decide),y,zA (by decide),x,zE rfl]
 have I:=zD o;generalize xx ls l ls[l]=R at *;go_enter func48,ntmps48;go_wp2_with fail;refine(xz l j.u k d).mono ?_;rintro e w1 ⟨rfl,f⟩;have i:=qG (j.u.zP f) f;generalize Rf.first ls[l]=z at *;go_wp2;go_ret;exact⟨by rw[I.u];rfl,i.u.2⟩
theorem Fe (l:Nat) (h:jA w S g cap ls) (k:l < G ls) (d:G ls<=100) (I:((Rf.first ls[l]).toList==[115,101,116])=W) (F:((Rf.first ls[l]).toList==[112,114,105,110,116])=W) (y:((Rf.first ls[l]).toList==[114,101,97,100])=W) (x:((Rf.first ls[l]).toList==[105,102])=D):Calls Tryz.prog 48 #[H (Q ⟨S,0,Z⟩),J U ((l:Int)+1)] w fun e w'=>e=T (A (xx ls l ls[l]))/\Below w.heap.size w w':=by
 have j:=zD h;have o:xx ls l ls[l]=D:=by rw[xx,I,zA (by decide),F,zA (by decide),y,zA (by decide),x,zE rfl]
 have L:=zD o;generalize xx ls l ls[l]=R at *;go_enter func48,ntmps48;go_wp2_with fail;refine(xz l j.u k d).mono ?_;rintro e w1 ⟨rfl,f⟩;have i:=qG (j.u.zP f) f;generalize Rf.first ls[l]=z at *;go_wp2;go_ret;exact⟨by rw[L.u];rfl,i.u.2⟩
theorem Fc (l:Nat) (h:jA w S g cap ls) (k:l < G ls) (d:G ls<=100) (L:((Rf.first ls[l]).toList==[115,101,116])=W) (I:((Rf.first ls[l]).toList==[112,114,105,110,116])=W) (F:((Rf.first ls[l]).toList==[114,101,97,100])=W) (y:((Rf.first ls[l]).toList==[105,102])=W) (x:((Rf.first ls[l]).toList==[119,104,105,108,101])=D):Calls Tryz.prog 48 #[H (Q ⟨S,0,Z⟩),J U ((l:Int)+1)] w fun e w'=>e=T (A (xx ls l ls[l]))/\Below w.heap.size w w':=by
 have j:=zD h;have o:xx ls l ls[l]=D:=by rw[xx,L,zA (by decide),I,zA (by decide),F,zA (by decide),y,zA (by decide),x,zE rfl]
 have M:=zD o;generalize xx ls l ls[l]=R at *;go_enter func48,ntmps48;go_wp2_with fail;refine(xz l j.u k d).mono ?_;rintro e w1 ⟨rfl,f⟩;have i:=qG (j.u.zP f) f;generalize Rf.first ls[l]=z at *;go_wp2;go_ret;exact⟨by rw[M.u];rfl,i.u.2⟩
theorem Fb (l:Nat) (h:jA w S g cap ls) (k:l < G ls) (d:G ls<=100) (M:((Rf.first ls[l]).toList==[115,101,116])=W) (L:((Rf.first ls[l]).toList==[112,114,105,110,116])=W) (I:((Rf.first ls[l]).toList==[114,101,97,100])=W) (F:((Rf.first ls[l]).toList==[105,102])=W) (y:((Rf.first ls[l]).toList==[119,104,105,108,101])=W) (x:((Rf.first ls[l]).toList==[99,97,108,108])=D):Calls Tryz.prog 48 #[H (Q ⟨S,0,Z⟩),J U ((l:Int)+1)] w fun e w'=>e=T (A (xx ls l ls[l]))/\Below w.heap.size w w':=by
 have j:=zD h;have o:xx ls l ls[l]=D:=by rw[xx,M,zA (by decide),L,zA (by decide),I,zA (by decide),F,zA (by decide),y,zA (by decide),x,zE rfl]
 have N:=zD o;generalize xx ls l ls[l]=R at *;go_enter func48,ntmps48;go_wp2_with fail;refine(xz l j.u k d).mono ?_;rintro e w1 ⟨rfl,f⟩;have i:=qG (j.u.zP f) f;generalize Rf.first ls[l]=z at *;go_wp2;go_ret;exact⟨by rw[N.u];rfl,i.u.2⟩
theorem Fa (l:Nat) (h:jA w S g cap ls) (k:l < G ls) (d:G ls<=100) (N:((Rf.first ls[l]).toList==[115,101,116])=W) (M:((Rf.first ls[l]).toList==[112,114,105,110,116])=W) (L:((Rf.first ls[l]).toList==[114,101,97,100])=W) (I:((Rf.first ls[l]).toList==[105,102])=W) (F:((Rf.first ls[l]).toList==[119,104,105,108,101])=W) (y:((Rf.first ls[l]).toList==[99,97,108,108])=W) (x:((Rf.first ls[l]).toList==[114,101,116,117,114,110])=D):Calls Tryz.prog 48 #[H (Q ⟨S,0,Z⟩),J U ((l:Int)+1)] w fun e w'=>e=T (A (xx ls l ls[l]))/\Below w.heap.size w w':=by
 have j:=zD h;have o:xx ls l ls[l]=D:=by rw[xx,N,zA (by decide),M,zA (by decide),L,zA (by decide),I,zA (by decide),F,zA (by decide),y,zA (by decide),x,zE rfl]
 have O:=zD o;generalize xx ls l ls[l]=R at *;go_enter func48,ntmps48;go_wp2_with fail;refine(xz l j.u k d).mono ?_;rintro e w1 ⟨rfl,f⟩;have i:=qG (j.u.zP f) f;generalize Rf.first ls[l]=z at *;go_wp2;go_ret;exact⟨by rw[O.u];rfl,i.u.2⟩
theorem FZ (l:Nat) (h:jA w S g cap ls) (L:l < G ls) (f:G ls<=100) (e0:((Rf.first ls[l]).toList==[115,101,116])=W) (e1:((Rf.first ls[l]).toList==[112,114,105,110,116])=W) (e2:((Rf.first ls[l]).toList==[114,101,97,100])=W) (e3:((Rf.first ls[l]).toList==[105,102])=W) (e4:((Rf.first ls[l]).toList==[119,104,105,108,101])=W) (e5:((Rf.first ls[l]).toList==[99,97,108,108])=W) (e6:((Rf.first ls[l]).toList==[114,101,116,117,114,110])=W) (e7:((Rf.first ls[l]).toList==[101,110,100])=D) (ho:0 < Rf.openerFrom ls l 1):Calls Tryz.prog 48 #[H (Q ⟨S,0,Z⟩),J U ((l:Int)+1)] w fun e w'=>e=T (A (xx ls l ls[l]))/\Below w.heap.size w w':=by
 have O:=zD h;have hR:xx ls l ls[l]=((Rf.first (xU ls (Rf.openerFrom ls l 1-1))).toList==[112,114,111,99]):=by rw[xx,e0,zA (by decide),e1,zA (by decide),e2,zA (by decide),e3,zA (by decide),e4,zA (by decide),e5,zA (by decide),e6,zA (by decide),e7,zE rfl]
 have N:=zD hR;generalize xx ls l ls[l]=R at *;go_enter func48,ntmps48;go_wp2_with fail;refine(xz l O.u L f).mono ?_;rintro e w1 ⟨rfl,x⟩;have i:=qG (O.u.zP x) x;generalize Rf.first ls[l]=z at *;go_wp2_with fail;refine(Vr l i.u.1 L f).mono ?_;rintro e w2 ⟨rfl,o⟩;have j:=qG (i.u.1.zP o) (i.u.2.trans (o.mono i.u.2.size));have V:=Zg ls l 1;obtain⟨d,M⟩:∃d,Rf.openerFrom ls l 1=d+1:=⟨Rf.openerFrom ls l 1-1,by omega⟩;have k:d < G ls:=by omega
 rw[M,zu,yq k]at N;rw[M,show ((d+1:Nat):Int)=(d:Int)+1 by omega];go_wp2_with fail;refine(xz d j.u.1 k f).mono ?_;rintro e w3 ⟨rfl,F⟩;have I:=zD (j.u.2.trans (F.mono j.u.2.size));generalize Rf.first ls[d]=y at *;go_wp2;go_ret;exact⟨by rw[N.u];rfl,I.u⟩
theorem FY (l:Nat) (h:jA w S g cap ls) (k:l < G ls) (d:G ls<=100) (N:((Rf.first ls[l]).toList==[115,101,116])=W) (M:((Rf.first ls[l]).toList==[112,114,105,110,116])=W) (L:((Rf.first ls[l]).toList==[114,101,97,100])=W) (I:((Rf.first ls[l]).toList==[105,102])=W) (F:((Rf.first ls[l]).toList==[119,104,105,108,101])=W) (D:((Rf.first ls[l]).toList==[99,97,108,108])=W) (y:((Rf.first ls[l]).toList==[114,101,116,117,114,110])=W) (x:((Rf.first ls[l]).toList==[101,110,100])=W):Calls Tryz.prog 48 #[H (Q ⟨S,0,Z⟩),J U ((l:Int)+1)] w fun e w'=>e=T (A (xx ls l ls[l]))/\Below w.heap.size w w':=by
 have j:=zD h;have o:xx ls l ls[l]=W:=by rw[xx,N,zA (by decide),M,zA (by decide),L,zA (by decide),I,zA (by decide),F,zA (by decide),D,zA (by decide),y,zA (by decide),x,zA (by decide)]
 have O:=zD o;generalize xx ls l ls[l]=R at *;go_enter func48,ntmps48;go_wp2_with fail;refine(xz l j.u k d).mono ?_;rintro e w1 ⟨rfl,f⟩;have i:=qG (j.u.zP f) f;generalize Rf.first ls[l]=z at *;go_wp2;go_ret;exact⟨by rw[O.u];rfl,i.u.2⟩
theorem fG (l:Nat) (h:jA w S g cap ls) (f:l < G ls) (d:G ls<=100) (i:Rf.nested ls=0):Calls Tryz.prog 48 #[H (Q ⟨S,0,Z⟩),J U ((l:Int)+1)] w fun e w'=>e=T (A (xx ls l ls[l]))/\Below w.heap.size w w':=by
 by_cases e0:((Rf.first ls[l]).toList==[115,101,116])=D
 ·exact Fh l h f d  e0
 replace e0:=yL.mpr e0
 by_cases e1:((Rf.first ls[l]).toList==[112,114,105,110,116])=D
 ·exact Fg l h f d e0 e1
 replace e1:=yL.mpr e1
 by_cases e2:((Rf.first ls[l]).toList==[114,101,97,100])=D
 ·exact Ff l h f d e0 e1 e2
 replace e2:=yL.mpr e2
 by_cases e3:((Rf.first ls[l]).toList==[105,102])=D
 ·exact Fe l h f d e0 e1 e2 e3
 replace e3:=yL.mpr e3
 by_cases e4:((Rf.first ls[l]).toList==[119,104,105,108,101])=D
 ·exact Fc l h f d e0 e1 e2 e3 e4
 replace e4:=yL.mpr e4
 by_cases e5:((Rf.first ls[l]).toList==[99,97,108,108])=D
 ·exact Fb l h f d e0 e1 e2 e3 e4 e5
 replace e5:=yL.mpr e5
 by_cases e6:((Rf.first ls[l]).toList==[114,101,116,117,114,110])=D
 ·exact Fa l h f d e0 e1 e2 e3 e4 e5 e6
 replace e6:=yL.mpr e6
 by_cases e7:((Rf.first ls[l]).toList==[101,110,100])=D
 ·exact FZ l h f d e0 e1 e2 e3 e4 e5 e6 e7 (KZ i f e7)
 replace e7:=yL.mpr e7
 exact FY l h f d e0 e1 e2 e3 e4 e5 e6 e7
namespace Rf
theorem readR_nested (h:(vP s).1=0):nested (vP s).2.2=0:=by
 unfold vP at h ⊢;split at h
 ·simp at h
 ·rename_i h1;rw[zA h1];split at h
  ·simp at h
  ·rename_i h2;rw[zA h2];split at h
   ·simp at h
   ·rename_i h3;rw[zA h3];unfold Xu at h ⊢;split at h
    ·simp at h
    ·rename_i h4;rw[zA h4];split at h
     ·simp at h
     ·rename_i h5;rw[zA h5];unfold jV at h ⊢;split at h
      ·simp at h
      ·rename_i h6;rw[zA h6];split at h
       ·simp at h
       ·rename_i h7;rw[zA h7];simpa using h4
def stopsFrom (ls:List Ib):Nat->Nat->List Nat->List Nat
 | 0,_,acc=>acc
 | f+1,k,acc=>stopsFrom ls f (k+1) (if xx ls k (xU ls k)=true then acc++[k+1]else acc)
def stops (ls:List Ib):List Nat:=stopsFrom ls (G ls) 0 []
end Rf
def StopsRP (s:Ia) (w:World) (e:Ending) (w':World):Prop:=Below w.heap.size w w'/\
  ((¬(vP s).1=0/\e=T (E #[I Z 0 0,J U (vP s).1,J U (vP s).2.1]))\/
   ((vP s).1=0/\∃v,e=T (E #[v,J U 0,J U 0])/\w'.ownsRow w.heap.size 3 1 v (Rf.stops (vP s).2.2).length ((Rf.stops (vP s).2.2).map iv)))
theorem Stops_ref (s:Ia) (w:World) (hs:s.size<=maxLen):Calls Tryz.prog 22 #[O s] w (StopsRP s w):=by
 obtain⟨i0,a3,a0,V,T⟩:=yi eU;go_enter func22,ntmps22;go_wp2_with fail;refine(Dm s hs).mono ?_;rintro e w1 ⟨z,(⟨H,rfl⟩| ⟨h0,a9,b1,hp,hl,S,g,cap,rfl,N⟩)⟩
 ·have R:=zD z;have a8:((vP s).1==0)=W:=by rw[zV];exact H
  have HN:=zD H;go_wp2;go_ret3;exact⟨R.u,Or.inl ⟨HN.u,rfl⟩⟩
 ·have a5:=zD (readR_nested h0);have H0:=zD h0;have R:=zD z;have a7:=zD N;have F:=z.size;generalize a1:(vP s).2.2=ls at *;have a6:=zD a1;go_wp2_with fail;go_loopw [8,9] (fun v i wr=>∃(k f:Nat) (acc:List Nat),k+f=G ls/\G acc<=k/\i=J U ((k:Int)+1)/\Rf.stopsFrom ls f k acc=Rf.stops ls/\wr.ownsRow w1.heap.size 3 1 v (G acc) (acc.map iv)/\Below w1.heap.size w1 wr)
   (fun _ i _=>G ls+1-(intOf i).toNat)
  case atStart=>exact⟨0,G ls,[],by omega,by simp,rfl,rfl,zW _ _ _ _,zI _ _⟩
  case round=>
   obtain⟨k,f,acc,b2,b0,rfl,M,h,y⟩:=hrel;have HT:=zD M;have N:=a7.u.zP y;have cT:=N.top;have HG:=zD N;obtain⟨ad,cp,rfl⟩:=zK h;cases f with
   | zero=>
    have b3:¬(k:Int)+1<=(G ls:Int):=by omega
    have A:=qG h y;go_wp2;go_ret3;have M:=HT.u;rw[Rf.stopsFrom]at M;subst M;have a2:=a6.u;refine⟨R.u.trans (A.u.2.mono R.u.size),Or.inr ⟨H0.u,_,rfl,?_⟩⟩;rw[a2];exact yn A.u.1 F
   | succ f=>
    have I:k < G ls:=by omega
    rw[Rf.stopsFrom,yq I]at HT;have A:=qG h y;go_wp2_with fail;refine(fG k HG.u I hl a5.u).mono ?_;rintro e w2 ⟨rfl,L⟩;have d:=yG A.u.1 L;have j:=A.u.2.trans (L.mono A.u.2.size);have D:=j.size;cases hz:xx ls k ls[k]with
    | false=>
     rw[hz,zA (by decide)]at HT;have HX2:=qG d j;go_wp2;go_roundw
     ·exact⟨k+1,f,acc,by omega,by omega,by go_num,HT.u,HX2.u.1,HX2.u.2⟩
     ·simp[intOf];omega
    | true=>
     rw[hz,zE rfl]at HT;go_wp2_with (at_builtin;refine xQ _ rfl _ _ 24 rfl w1.heap.size 3 i0 _ 1 8 underlying24 a3 a0 V T rfl (by decide) _ _ _ rfl (d.alloc _) ⟨_,0,Z⟩ 1 1 [J U ((k:Int)+1)] rfl rfl (cell_one_new _ _ _) ?c2 ?c3 ?c4 ?c5 ?_)
     case c2=>first | rfl | (intro u hu;simp at hu;rcases hu with rfl;rfl)
     case c3=>unfold maxLen;omega
     case c4=>omega
     case c5=>first | omega | (simp;omega)
     intro v' w3 o x _;have a4:=qY j D d x;go_wp2;go_roundw
     ·exact⟨k+1,f,_,by omega,by simp;omega,by go_num,HT.u,by rw[yB,ze];exact o,a4⟩
     ·simp[intOf];omega
def ints (l:List Int):List Value:=l.map (Value.int U)
theorem K3 (e:Int):Calls Tryz.prog 20 #[J U e] w fun r w'=>r=T (J U e)/\w'=w:=by
 go_enter func20,ntmps20;go_wp2;go_ret;exact⟨rfl,rfl⟩
theorem int_cell (h:w.ownsRow B 3 1 v n (ints l)) (d:j < G l):∃g cap,v=I (Q ⟨g,0,Z⟩) n cap/\w.cell? ⟨g,j,Z⟩=Q (J U l[j]):=by
 obtain⟨g,cap,f,_,_,i⟩:=yD h (j:=j) (u:=J U l[j]) (by simp[ints,d]);exact⟨g,cap,f,i⟩
theorem EU (h:w.ownsRow B 3 1 v n xs):(v=I Z 0 0/\n=0)\/∃g cap ys,v=I (Q ⟨g,0,Z⟩) n cap/\n<=cap/\cap<=maxLen/\G ys=cap/\w.ownsRow B 3 1 (I (Q ⟨g,0,Z⟩) cap cap) cap ys:=by
 obtain⟨d,h2⟩:=h;rcases h2 with⟨rfl,rfl⟩| ⟨g,cap,cur,rfl,hg,hh,hn,hc,hs,ht⟩
 ·exact Or.inl ⟨rfl,rfl⟩
 ·refine Or.inr ⟨g,cap,cur.toList,rfl,hn,hc,by simpa using hs,?_⟩;exact⟨by simpa using hs,Or.inr ⟨g,cap,cur,rfl,hg,hh,zB _,hc,hs,by rw[yw];simp[hs]⟩⟩
theorem gP:w.grownBy w row:=⟨rfl,rfl,rfl,zB _,fun _ _ _=>rfl⟩
theorem tO (h:w.grownBy w1 row) (k:w1.grownBy w2 row):w.grownBy w2 row:=
 ⟨k.os.trans h.os,k.tape.trans h.tape,k.output.trans h.output,zi h.size k.size,fun i hi hr=>(k.block i (zX hi h.size) hr).trans (h.block i hi hr)⟩
def iL (w:World) (B:Nat) (m:Int) (v:Value):Prop:=v=I Z 0 0\/∃g c,v=I (Q ⟨g,0,Z⟩) c c/\c<=maxLen/\w.ownsRow B 3 1 v c (List.replicate c (J U m))
theorem CO (h:w.ownsRow B 3 1 v n xs):Calls Tryz.prog 56 #[v,J U m] w fun e w'=>∃v',e=T v'/\iL w' B m v'/\w.grownBy w' v.ownBlock/\v'.ownBlock=v.ownBlock:=by
 rcases EU h with⟨rfl,rfl⟩| ⟨g,cap,ys,rfl,hn,hc,hys,hall⟩
 ·clear h;go_enter func56,ntmps56;go_wp2;go_loop [6] (fun i=>i=J U (0:Nat)) (fun _=>0)
  case atStart=>rfl
  case round=>
   subst hrel;go_wp2;go_ret;exact⟨_,rfl,Or.inl rfl,gP,rfl⟩
 ·clear h;unfold maxLen at hc;go_enter func56,ntmps56;go_wp2;go_loopw [6] (fun i wr=>∃(k:Nat) (zs:List Value),k<=cap/\i=J U k/\G zs=cap/\(∀j,j < k->zs[j]?=Q (J U m))/\wr.ownsRow B 3 1 (I (Q ⟨g,0,Z⟩) cap cap) cap zs/\w.grownBy wr (Q g)) (fun i _=>cap-(intOf i).toNat)
  case atStart=>exact⟨0,ys,zo _,rfl,hys,fun j h=>by omega,hall,gP⟩
  case round=>
   obtain⟨k,zs,V,rfl,A,O,d,D⟩:=hrel;have L:=gN A O d D;by_cases hlt:k < cap
   ·have o:(k:Int) < (cap:Int):=by omega
    obtain⟨g',cap',H,_,_,R⟩:=yD d (j:=k) (u:=zs[k]'(by omega)) (by simp);simp at H;obtain⟨rfl,rfl⟩:=H;have W:=d.frozenAt k;generalize zs[k]'(by omega)=zk at R;go_wp2;go_roundw
    ·obtain⟨F,z,y,x⟩:=L.u;obtain⟨N,M⟩:=y.stored k (J U m);refine⟨k+1,zs.set k (J U m),by omega,by go_num,by simp[F],fun j hj=>?_,N,tO x M⟩;by_cases e:j=k
     ·subst e;rw[List.getElem?_set_self (by omega)]
     ·rw[List.getElem?_set_ne (by omega)];exact z j (by omega)
    ·simp[intOf];omega
   ·have o:¬(k:Int) < (cap:Int):=by omega
    go_wp2;go_ret;obtain⟨F,z,y,x⟩:=L.u;refine⟨_,rfl,Or.inr ⟨g,cap,rfl,by unfold maxLen;omega,?_⟩,x,rfl⟩;have f:zs=List.replicate cap (J U m):=by
     apply List.ext_getElem?;intro j;by_cases hj:j < cap
     ·rw[z j (by omega),YP,zE hj]
     ·rw[xt (by omega),xt (by simp;omega)]
    rw[<-f];exact y
theorem C4:(Tryz.prog.info? 24).map (fun i=>(i.zero,i.size,i.bytes))=Q (Q (I Z 0 0),1,24):=by kernel_rfl
theorem iL.map (h:iL w B m v) (d:∀(n:Nat) (xs:List Value),w.ownsRow B 3 1 v n xs->w'.ownsRow B 3 1 v n xs):iL w' B m v:=by
 rcases h with h | ⟨g,c,h1,h2,h3⟩
 ·exact Or.inl h
 ·exact Or.inr ⟨g,c,h1,h2,d _ _ h3⟩
theorem iL.form (h:iL w B m v):∃a n c,v=I a n c/\n<=maxLen:=by
 rcases h with e | ⟨g,c,e,h,_⟩
 ·exact⟨_,_,_,e,zo _⟩
 ·exact⟨_,_,_,e,h⟩
theorem iL.cell {w:World} {B:Nat} {m:Int} {a:Option Addr} {n c j:Nat} (h:iL w B m (I a n c)) (f:j < n):∃g,a=Q ⟨g,0,Z⟩/\w.cell? ⟨g,j,Z⟩=Q (J U m):=by
 rcases h with e | ⟨g,k,e,h,ho⟩
 ·simp at e;omega
 ·simp at e;obtain⟨rfl,rfl,rfl⟩:=e;obtain⟨g',cap,d,_,_,i⟩:=yD ho (j:=j) (u:=J U m) (by simp[f]);simp at d;exact⟨g,rfl,by rw[d.1];exact i⟩
def kA (w:World) (v:Value) (xs:List Int):Prop:=
 ∃ad cap,v=I ad (G xs) cap/\(xs=[]\/∃b o,ad=Q ⟨b,o,Z⟩/\∀j (h:j < G xs),w.cell? ⟨b,o+j,Z⟩=Q (J U xs[j]))
theorem kA.zP {xs:List Int} (h:kA w v xs) (d:Below w.heap.size w w'):kA w' v xs:=by
 obtain⟨f,cap,rfl,h⟩:=h;refine⟨f,cap,rfl,?_⟩;rcases h with h | ⟨b,o,rfl,h⟩
 ·exact Or.inl h
 ·exact Or.inr ⟨b,o,rfl,fun j hj=>cell_later d (h j hj)⟩
theorem kA.get {xs:List Int} (h:kA w v xs) (d:j < G xs):∃b o cap,v=I (Q ⟨b,o,Z⟩) (G xs) cap/\w.cell? ⟨b,o+j,Z⟩=Q (J U xs[j]):=by
 obtain⟨f,cap,rfl,h⟩:=h;rcases h with h | ⟨b,o,rfl,h⟩
 ·rw[h]at d;simp at d
 ·exact⟨b,o,cap,rfl,h j d⟩
section
variable {P:Program} (w:World)
theorem fO (base:Nat) (t J R e:TypeId) (i:TypeInfo) (z:Value) (M:P.underlying t=some (.slice e)) (O:P.info? e=some i) (hz:i.zero=some z) (f:i.size=1) (H:i.bytes<=8) (T:z.cells.size=1) (v:Value) (n:Nat) (xs:List Value) (hown:w.ownsRow base e 1 v n xs) (L:Value) (m:Nat) (d:List Value) (hs:Src P 1 J L m d w) (I:(n+m)*8<=140737488355328) (D:base<=w.heap.size):∃v' w',(Builtin.append_ #[t,J] R #[v,L]).run P w=.ok v' w'/\w'.ownsRow base e 1 v' (n+m) (xs++d)/\w.grownBy w' v.ownBlock:=by
 have V:=hs;rw[<-f]at hs;have Z:d.length=m:=by simpa using V.newsLen
 have A:xs.length=n:=by simpa using hown.1
 have h:(xs++d).length=n+m:=by rw[ze,A,Z]
 have W:n+m<=maxLen:=by unfold maxLen;omega
 have x:∀(J8:Nat),J8 < n+m->∀(row:Option Nat),
   (w.drew.alloc (.cells ((xs++d).toArray++Builtin.zeroCells z.cells (grownCap w (n+m) J8 e-(n+m))) e)).ownsRow base e 1
    (.slice (some ⟨w.heap.size,0,none⟩) (n+m) (grownCap w (n+m) J8 e)) (n+m) (xs++d)/\
   w.grownBy (w.drew.alloc (.cells ((xs++d).toArray++Builtin.zeroCells z.cells (grownCap w (n+m) J8 e-(n+m))) e)) row:=by
  intro J8 ho row;have a0:=grownCap_ge w (n+m) J8 e;have hcm:grownCap w (n+m) J8 e<=maxLen:=grownCap_le_maxLen w (n+m) J8 e W;refine⟨⟨by rw[h];simp,.inr ⟨w.heap.size,_,_,rfl,D,zN w.drew _,a0,hcm,?_,?_⟩⟩,⟨rfl,rfl,rfl,by simp,fun k hk _=>G4 w.drew _ hk⟩⟩
  ·simp only[Array.size_append,List.size_toArray,size_zeroCells,T,h];omega
  ·simp only[Array.toList_append,Kn];rw[<-h];exact List.take_left
 rcases hown.2 with⟨rfl,rfl⟩| ⟨g,cap,cur,rfl,hbg,hg,hnc,hcm,hcs,htake⟩
 ·have U:xs=[]:=yu A;subst U;by_cases hm:m=0
  ·have hn:d=[]:=yu (by rw[Z];exact hm);refine⟨.slice none 0 0,w,?_,?_,⟨rfl,rfl,rfl,zB _,fun _ _ _=>rfl⟩⟩
   ·have h0:=hs.len;have h1:=hs.cells;rw[hm,hn]at h1;rcases hs.kind with⟨e',hk⟩| hk <;> simp[Builtin.append_,QE M,QE hk,sizeOf,typeInfo,O,hs.len,hm,h1]
   ·rw[hm,hn];exact zW w base e 1
  ·have N:=run_append_grow_src (P:=P) w t J R e i z M O hz none 0 0 [] (run_firstCells_none w.drew i.size 0 0 0) (L) m d hs (by omega) (by omega) (growslice_fits (by omega) (zi (Nat.mul_le_mul_left _ H) I));have o:=x 0 (by omega) (Value.ownBlock (.slice none 0 0));simp only[xW,xN]at o N ⊢;exact⟨_,_,N,o.1,o.2⟩
 ·by_cases hroom:n+m<=cap
  ·have F:=run_storeCells_at P g n e d 0 cur w hg (by rw[Z,hcs];omega) hs.one;simp only[qO]at F;have G:=hs.cells;rw[f]at G;refine⟨.slice (some ⟨g,0,none⟩) (n+m) cap,w.setRow g (cur.toList.take n++d++cur.toList.drop (n+d.length)).toArray,?_,⟨by rw[h];simp,.inr ⟨g,cap,_,rfl,hbg,setRow_heap w g cur _ e _ hg,hroom,hcm,?_,?_⟩⟩,⟨rfl,rfl,rfl,by simp,fun k _ hk=>setRow_other w g k _ (fun e=>hk (by simp[Value.ownBlock,e]))⟩⟩
   ·rcases hs.kind with⟨e',hk⟩| hk <;> simp[Builtin.append_,QE M,QE hk,sizeOf,typeInfo,O,hs.len,hroom,G,bq,f,F]
   ·simp only[List.size_toArray,ze,jw,xp,Array.length_toList];omega
   ·rw[Kn]at htake ⊢;rw[htake,<-h];exact List.take_left
  ·have y:∀j u,xs[j]?=some u->w.cell? ((⟨g,0,none⟩:Addr).add j)=some u:=hown.cells (g:=g) rfl;have N:=run_append_grow_src (P:=P) w t J R e i z M O hz (some ⟨g,0,none⟩) n cap xs (run_firstCells_some (P:=P) w.drew i.size n ⟨g,0,none⟩ n cap xs (by rw[A,f];simp) (by simpa using y)) (L) m d hs (by omega) (by omega) (growslice_fits (by omega) (zi (Nat.mul_le_mul_left _ H) I));have o:=x cap (by omega) (Value.ownBlock (.slice (some ⟨g,0,none⟩) n cap));exact⟨_,_,N,o.1,o.2⟩
theorem Qh {ops:Array Oper} {rest:List Oper} {o:Oper} {a:Act} {Q:Exit->Act->World->Prop} (H:o.guard=none) (r x:Operand) (t A:TypeId) (R:o.op=.call { callee:=.builtin .append,args:=#[r,x],argTypes:=#[t,A] }) (base:Nat) (e:TypeId) (i:TypeInfo) (z:Value) (M:P.underlying t=some (.slice e)) (T:P.info? e=some i) (L:i.zero=some z) (f:i.size=1) (I:i.bytes<=8) (F:z.cells.size=1) (v:Value) (n:Nat) (xs:List Value) (N:a.eval r=v) (y:w.ownsRow base e 1 v n xs) (D:Value) (m:Nat) (d:List Value) (G:a.eval x=D) (k:Src P 1 A D m d w) (J:(n+m)*8<=140737488355328) (j:base<=w.heap.size) (h:∀v' w',w'.ownsRow base e 1 v' (n+m) (xs++d)->w.grownBy w' v.ownBlock->wpList P ops Q rest (a.put o.dst v') w'):wpList P ops Q (o::rest) a w:=by
 refine wpList_plain H fun _ hK=>?_;obtain⟨v',w',O,V,U⟩:=fO (P:=P) w base t A o.type e i z M T L f I F v n xs y D m d k J j;unfold Oper.wp execOp;simp only[R,resolve,invoke,builtin,Sem.run_bind,Sem.run_pure,Result.andThen_ok,List.map_toArray,qp,Ye,N,G,O];exact hK _ _ (h v' w' V U)
end
theorem kA.src {xs:List Int} (h:kA w v xs):Src Tryz.prog 1 24 v (G xs) (xs.map (Value.int U)) w:=by
 obtain⟨ad,cap,rfl,h⟩:=h;have d:∀u∈xs.map (Value.int U),u.oneCell'=D:=fun u hu=>by
  obtain⟨_,_,rfl⟩:=xr.1 hu;rfl
 rcases h with rfl | ⟨b,o,rfl,h⟩
 ·cases ad with
  | none=>exact Src.ofNil w underlying24 cap
  | some a=>exact Src.ofSlice w underlying24 a 0 cap [] rfl (fun j u hj=>by simp at hj) (fun _ h=>by cases h)
 ·refine Src.ofSlice w underlying24 ⟨b,o,Z⟩ (G xs) cap _ (by simp) (fun j u hj=>?_) d;obtain⟨i,rfl⟩:=qy.mp hj;have f:j < G xs:=by simpa using i
  have:=h j f;rw[bq];simpa using this
theorem kA.form {xs:List Int} (h:kA w v xs):∃ad cap,v=I ad (G xs) cap:=by
 obtain⟨ad,cap,rfl,_⟩:=h;exact⟨ad,cap,rfl⟩
theorem oB {va vb:Value} {a:List Int} (j:kA w va a) (h:kA w vb a) (N:G a<=35184372088832):Calls Tryz.prog 28 #[va,vb] w fun e w'=>e=T (A D)/\Below w.heap.size w w':=by
 have M:=zD j;have L:=zD h;obtain⟨ad,ca,rfl⟩:=j.form;obtain⟨bd,W,rfl⟩:=h.form;go_enter func28,ntmps28;go_wp2_with fail;go_loopw [5] (fun i wr=>∃k:Nat,k<=G a/\i=J U k/\Below w.heap.size w wr) (fun i _=>G a-(intOf i).toNat)
 case atStart=>exact⟨0,zo _,rfl,zI _ _⟩
 case round=>
  obtain⟨k,O,rfl,d⟩:=hrel;by_cases hlt:k < G a
  ·have f:(k:Int) < (G a:Int):=by omega
   obtain⟨I,F,c1,y,V⟩:=(M.u.zP d).get hlt;obtain⟨H,z,c2,o,R⟩:=(L.u.zP d).get hlt;simp only[xJ,jH]at y o;obtain⟨rfl,rfl⟩:=y;obtain⟨rfl,rfl⟩:=o;have HBE:=zD d;generalize a[k]=x at *;go_wp2_with fail;go_region_held3 (fun w'=>w'.cell? ⟨I,F+k,Z⟩=Q (J U x)/\w'.cell? ⟨H,z+k,Z⟩=Q (J U x)) (go_keep) (fail);go_wp2;go_roundw
   ·exact⟨k+1,by omega,by go_num,HBE.u.trans ((zh _).mono HBE.u.size)⟩
   ·simp[intOf];omega
  ·have f:¬(k:Int) < (G a:Int):=by omega
   go_wp2;go_ret;exact⟨rfl,d⟩
theorem mQ {N:Nat} (h:Below B w w1) (d:B<=N) (i:Nat) (v:Value):Below B w (w1.setCell ⟨N,i,Z⟩ v):=
 h.trans ⟨rfl,rfl,rfl,by simp[World.setCell],fun k hk=>zO w1 ⟨N,i,Z⟩ _ k (by show k≠N;omega)⟩
def Qp (l:List Int):Array Value:=((l++[-7777,-7777]).map (Value.int U)).toArray
theorem gO (h:kA w v l) (hl:G l<=17592186044416):Calls Tryz.prog 24 #[v] w fun e w'=>Below w.heap.size w w'/\∃g,w.heap.size<=g/\e=T (I (Q ⟨g,0,Z⟩) (G l) (G l+2))/\w'.heap[g]?=Q (V (Qp l) 3 (0,0)):=by
 obtain⟨i0,M,O,D,N⟩:=yi eU;have HH:=zD h;obtain⟨ad,ca,rfl⟩:=h.form;obtain⟨w1,H,hown,d⟩:=run_make_full (P:=Tryz.prog) w w.heap.size 24 3 i0 _ 1 underlying24 M O D U U (G l+2) (by rw[N];omega) (by unfold maxLen;omega) (zB _);have a0:(Instr.makeSlice 24 (J U ((G l:Int)+2)) (J U ((G l:Int)+2))).run Tryz.prog w=.ok (I (Q ⟨w.heap.size,0,Z⟩) (G l+2) (G l+2)) w1:=H;generalize (madeCells (Value.int IntKind.i64 0).cells ((G l+2)*1)).toList=xs at *;have hb1:Below w.heap.size w w1:=⟨d.os,d.tape,d.output,d.size,fun k hk=>d.block k hk (by simp)⟩;have R:G xs=G l+2:=by have:=hown.1;omega
 have x:w1.heap[w.heap.size]?=Q (V xs.toArray 3 (0,0)):=by
  rcases hown.2 with⟨h',_⟩| ⟨g,cap,cur,hv,_,hg,_,_,hcs,htake⟩
  ·cases h'
  ·injection hv with e1 _ e2;injection e1 with e1;injection e1 with e1;subst e1 e2;rw[hg];congr 1;congr 1;apply Array.ext';simp only[Kn]at htake hcs;rw[<-htake,yw (by simp[hcs])]
 have HX:=zD R;obtain⟨cs,hcs⟩:∃cs,cs=l.map (Value.int U):=⟨_,rfl⟩;have f:G cs=G l:=by rw[hcs];simp
 have A:=zD hcs;have y:∃w2 L,(Builtin.copy_ #[24,24] 3 #[I (Q ⟨w.heap.size,0,Z⟩) (G l+2) (G l+2),I ad (G l) ca]).run Tryz.prog w1=.ok (goInt (G l)) w2/\Below w.heap.size w w2/\w2.heap[w.heap.size]?=Q (V (List.toArray L) 3 (0,0))/\L=cs++xs.drop (G l):=by
  have F:(Tryz.prog.info? 3).map (·.size)=Q 1:=by rw[M];simp[D]
  by_cases h0:G l=0
  ·refine⟨w1,xs,?_,hb1,x,?_⟩
   ·rw[h0];exact run_copy_none w1 _ _ _ 3 _ _ _ _ _ _ underlying24 F (by simp)
   ·have:cs=[]:=yu (by omega);rw[this,h0];simp
  ·obtain⟨a7,cap',he,hcase⟩:=HH.u.zP hb1;simp only[xJ,jH]at he;obtain⟨rfl,rfl⟩:=he;rcases hcase with e | ⟨b,o,rfl,hc⟩
   ·rw[e]at h0;simp at h0
   ·have hr:=run_copy_row (P:=Tryz.prog) w1 24 24 3 3 w.heap.size 0 (G l+2) (G l+2) ⟨b,o,Z⟩ (G l) ca xs.toArray 3 cs underlying24 F x (by rw[f];exact(vD (by omega)).symm) (fun j u hj=>by
     rw[A.u]at hj;obtain⟨a2,rfl⟩:=qy.mp hj;have a1:j < G l:=by simpa using a2
     rw[bq];simpa using hc j a1) (by simp[f,HX.u]) (fun u hu=>by
     rw[A.u]at hu;obtain⟨_,_,rfl⟩:=xr.1 hu;rfl)
    rw[f]at hr;refine⟨_,_,hr,below_setRow hb1 (zB _) _,setRow_heap w1 _ _ _ _ _ x,?_⟩;simp
 obtain⟨w2,L,W,a3,i,a5⟩:=y;have hL:∃a b,L=cs++[a,b]:=by
  have hd:(xs.drop (G l)).length=2:=by rw[xp,HX.u];omega
  rw[a5]
  match hm:xs.drop (G l),hd with
  | [a,b],_=>exact⟨a,b,rfl⟩
 obtain⟨a,b,a4⟩:=hL;rw[a4]at i;have cn:w2.cell? ⟨w.heap.size,G l,Z⟩=Q a:=by
  have:=zC i (G l) (by simp[f]);rw[this];simp[<-f]
 have a6:w2.cell? ⟨w.heap.size,G l+1,Z⟩=Q b:=by
  have:=zC i (G l+1) (by simp[f]);rw[this];simp[<-f]
 have z:=zS i;have HF:=qG (mQ (mQ a3 (zB _) (G l) (J U (-7777))) (zB _) (G l+1) (J U (-7777))) (show ((w2.setCell ⟨w.heap.size,G l,Z⟩ (J U (-7777))).setCell ⟨w.heap.size,G l+1,Z⟩ (J U (-7777))).heap[w.heap.size]?=Q (V (Qp l) 3 (0,0)) by
  rw[zf (zf i _ _)];congr 1;congr 1;unfold Qp;rw[yB,<-A.u];apply Array.ext';simp only[Array.toList_setIfInBounds];rw[<-f,qe _ _ (zB _),jC,qe _ _ (by omega),show (G cs)+1-G cs=1 by omega];rfl)
 go_enter func24,ntmps24;go_wp2;go_ret;exact⟨HF.u.1,_,zB _,rfl,HF.u.2⟩
theorem V0 (h:w.heap[g]?=Q (V (Qp l) 3 (0,0))):kA w (I (Q ⟨g,0,Z⟩) (G l) c) l:=by
 refine⟨_,_,rfl,Or.inr ⟨g,0,rfl,fun j hj=>?_⟩⟩;rw[xW,zC h j (by simp[Qp];omega)];unfold Qp;simp only[yQ,qc];rw[xI hj]
theorem lz (h:w.heap[g]?=Q (V (Qp l) 3 (0,0))) (f:B<=g) (d:G l+2<=maxLen):w.ownsRow B 3 1 (I (Q ⟨g,0,Z⟩) (G l) (G l+2)) (G l) (ints l):=by
 refine⟨by simp[ints],Or.inr ⟨g,G l+2,Qp l,rfl,f,h,by omega,d,by simp[Qp],?_⟩⟩;simp[Qp,ints]
theorem lA (g:Nat) (o:w.heap[g]?=Q (V (Qp l) 3 (0,0))) (h:kA w v l) (F:G l<=17592186044416):Calls Tryz.prog 26 #[I (Q ⟨g,0,Z⟩) (G l) (G l+2),v] w fun e w'=>e=T (A D)/\Below w.heap.size w w':=by
 have k:=zD o;have x:=zD h;obtain⟨L,H,rfl⟩:=h.form;have y:Hd (∀w',Below w.heap.size w w'->w'.cell? ⟨g,G l,Z⟩=Q (J U (-7777))/\w'.cell? ⟨g,G l+1,Z⟩=Q (J U (-7777))):=zD (fun w' hb=>by
  have j:=zU k.u hb;have i:=zC j (G l) (by simp[Qp]);have f:=zC j (G l+1) (by simp[Qp]);simp[Qp]at i f;exact⟨i,f⟩)
 go_enter func26,ntmps26;go_wp2_with fail;refine(oB (V0 k.u) x.u (by omega)).mono ?_;rintro e w1 ⟨rfl,d⟩;obtain⟨i,f⟩:=y.u _ d;have z:=zD d;go_wp2;go_ret;exact⟨rfl,z.u⟩
structure LG (w:World) (S:Nat) (pv lv:Value) (vs:List Value):Prop where
 block:w.heap[S]?=some (.cells #[pv,lv] 30 (0,0))
 own:w.ownsRow (S+1) 24 1 lv vs.length vs
 each:∀k (h:k < vs.length),iL w (S+1) (-7777-(k:Int)) vs[k]
theorem LG.zP (h:LG w S pv lv vs) (d:Below w.heap.size w w'):LG w' S pv lv vs:=
 ⟨zU h.block d,yG h.own d,fun k hk=>(h.each k hk).map (fun _ _ h=>yG h d)⟩
theorem LG.lt {w:World} {S:Nat} {pv lv:Value} {vs:List Value} (h:LG w S pv lv vs):∀k (hk:k < G vs) g,vs[k].ownBlock=Q g->S+1<=g/\g < w.heap.size:=by
 intro k hk g hg;rcases h.each k hk with e | ⟨g',c,h1,h2,h3⟩
 ·rw[e]at hg;cases hg
 ·exact h3.lt g hg
theorem LG.grown (h:LG w S pv lv vs) (j:w.grownBy w' row) (x:row≠Q S) (o:∀g,lv.ownBlock=Q g->row≠Q g) (hv:∀k (hk:k < G vs) g,vs[k].ownBlock=Q g->row≠Q g):LG w' S pv lv vs:=by
 have i:∀{e:TypeId} {size n:Nat} {v:Value} {xs:List Value},w.ownsRow (S+1) e size v n xs->(∀g,v.ownBlock=Q g->row≠Q g)->w'.ownsRow (S+1) e size v n xs:=by
  intro e size n v xs h f;obtain⟨y,h2⟩:=h;refine⟨y,?_⟩;rcases h2 with h2 | ⟨g,cap,cur,d,hgB,hh,r⟩
  ·exact Or.inl h2
  ·exact Or.inr ⟨g,cap,cur,d,hgB,by rw[j.block g (zQ hh) (fun e=>f g (by rw[d];rfl) e.symm)];exact hh,r⟩
 exact⟨by rw[j.block S (zQ h.block) (xK x)];exact h.block,i h.own o,fun k hk=>(h.each k hk).map (fun _ _ h=>i h (hv k hk))⟩
theorem LG.push (h:LG w S pv lv vs) (hv:iL w (S+1) (-7777-(G vs:Int)) v) (o:Below w.heap.size w w1) (y:w2.ownsRow (S+1) 24 1 lv' (G vs+1) (vs++[v])) (d:w1.grownBy w2 lv.ownBlock):LG (w2.setCell ⟨S,1,Z⟩ lv') S pv lv' (vs++[v])/\Below S w (w2.setCell ⟨S,1,Z⟩ lv'):=by
 have A:=zQ h.block;have j:∀k,lv.ownBlock=Q k->S < k:=fun k hk=>by have:=(h.own.lt k hk).1;omega
 have f:∀k,k < w.heap.size->Q k≠lv.ownBlock->w2.heap[k]?=w.heap[k]?:=fun k hk hv=>by
  rw[d.block k (zX hk o.size) hv];exact o.block k hk
 have i:∀k,k≠S->(w2.setCell ⟨S,1,Z⟩ lv').heap[k]?=w2.heap[k]?:=fun k hk=>zO w2 ⟨S,1,Z⟩ _ k hk;have I:∀(n:Nat) (u:Value) (xs:List Value),w.ownsRow (S+1) 3 1 u n xs->(w2.setCell ⟨S,1,Z⟩ lv').ownsRow (S+1) 3 1 u n xs:=by
  intro n u xs H;have D:=Ys H h.own (by decide);obtain⟨J,h2⟩:=H;refine⟨J,?_⟩;rcases h2 with h2 | ⟨g,cap,cur,x,hg,hh,r⟩
  ·exact Or.inl h2
  ·exact Or.inr ⟨g,cap,cur,x,hg,by rw[i g (by omega),f g (zQ hh) (fun e=>D g (by rw[x];rfl) e.symm)];exact hh,r⟩
 refine⟨⟨?_,?_,fun k hk=>?_⟩,?_⟩
 ·have F:w2.heap[S]?=Q (V #[pv,lv] 30 (0,0)):=(f S A (fun e=>by have:=j S e.symm;omega)).trans h.block;have:=zf F 1 lv';simpa using this
 ·rw[ze];exact qL y (by show S < S+1;omega) _
 ·by_cases z:k < G vs
  ·rw[xI z];exact(h.each k z).map (fun n xs=>I n _ xs)
  ·have:k=G vs:=by simp at hk;omega
   subst this;rw[xm (zB _)];simp only[jC,zv];exact hv.map (fun n xs=>I n _ xs)
 ·refine⟨d.os.trans o.os,d.tape.trans o.tape,d.output.trans o.output,?_,fun k hk=>(i k (by omega)).trans (f k (by omega) (fun e=>by have:=j k e.symm;omega))⟩;have J:=d.size;have h2:=o.size;simp[World.setCell];omega
theorem Co (d:w.heap[S]?=Q (V #[pv,lv] 30 (0,0))) (i:Below w.heap.size w w1) (f:w1.grownBy w2 row) (j:row≠Q S):w2.cell? ⟨S,1,Z⟩=Q lv/\w2.frozen? ⟨S,1,Z⟩=W:=by
 have h:w2.heap[S]?=Q (V #[pv,lv] 30 (0,0)):=by
  rw[f.block S (zX (zQ d) i.size) (xK j),i.block S (zQ d)];exact d
 exact⟨zC h 1 (by simp),zS h 1⟩
def GO (S:Nat) (pv lv:Value) (vs:List Value) (v:Value) (w:World) (e:Ending) (w':World):Prop:=e=T (E #[])/\Below S w w'/\(∀k,k < w.heap.size->k≠S->lv.ownBlock≠Q k->v.ownBlock≠Q k->w'.heap[k]?=w.heap[k]?)/\∃lv' v',LG w' S pv lv' (vs++[v'])/\v'.ownBlock=v.ownBlock/\∀g,lv'.ownBlock=Q g->lv.ownBlock=Q g\/w.heap.size<=g
theorem oT (h:LG w S pv lv vs) (J:w.ownsRow (S+1) 3 1 v n xs) (V:∀k (hk:k < G vs) g,vs[k].ownBlock=Q g->¬v.ownBlock=Q g) (a7:(G vs+1)*24<=140737488355328):Calls Tryz.prog 29 #[H (Q ⟨S,0,Z⟩),v] w (GO S pv lv vs v w):=by
 obtain⟨i0,a0,O,N,M⟩:=yi C4;obtain⟨ad,cap,rfl⟩:=zK J;obtain⟨L,A,rfl⟩:=zK h.own;have c1:=zC h.block 1 (by simp);simp at c1;have W:=Ys J h.own (by decide);have R:¬(Value.slice ad n cap).ownBlock=Q S:=fun e=>by have:=(J.lt S e).1;omega
 have HH:=zD h;have HV:=zD J;have a5:=XX V W R;go_enter func29,ntmps29;go_wp2_with fail;refine(CO HV.u).mono ?_;rintro e w1 ⟨v1,rfl,ho1,i,a2⟩;obtain⟨a1,b1,d1,T⟩:∃a b d,v1=I a b d:=by
  rcases ho1 with e | ⟨g,c,e,_⟩
  ·exact⟨_,_,_,e⟩
  ·exact⟨_,_,_,e⟩
 subst T;obtain⟨q1,q2,q3⟩:=a5.u;have o:=HH.u.grown i q3 (fun g hg e=>q2 g e hg) (fun k hk g hg e=>q1 k hk g hg e);have F:Below S w w1:=⟨i.os,i.tape,i.output,i.size,fun k hk=>i.block k (by have:=zQ HH.u.block;omega) (fun e=>by have:=(HV.u.lt k e.symm).1;omega)⟩;have z:=qG o F;have a4:=zD ho1;have c1:=zC o.block 1 (by simp);simp at c1;have j:=o.own;have a9:=zQ o.block;have x:=qG i a2;go_wp2_with (at_builtin;refine wpList_append_lies _ rfl _ _ 28 rfl (S+1) 24 i0 _ 1 24 underlying28 a0 O N M rfl (by decide) _ _ _ rfl (j.alloc _) ⟨_,0,Z⟩ 1 1 [I a1 b1 d1] rfl rfl (cell_one_new _ _ _) (by simp[Value.oneCell']) (by omega) (by unfold maxLen;omega) (by omega) (by simp;omega) _ rfl ?_);intro g4 b0 w4 y f a3 a6;have D:(Value.slice L (G vs) A).ownBlock≠Q S:=fun h=>by have:=(j.lt _ h).1;omega
 obtain⟨a8,b2⟩:=Co z.u.1.block ((zI _ _).alloc (zB _) _) f D;have HF:=zD (z.u.1.push a4.u ((zI _ _).alloc (zB _) _) y f);have HGR:=qG f a3;go_wp2;go_end0;obtain⟨f1,f2⟩:=HF.u;refine⟨rfl,z.u.2.trans f2,fun k hk hkS hkl hkv=>?_,_,_,f1,x.u.2,fun g hg=>?_⟩
 ·have U:=x.u.1.size;rw[zO w4 ⟨S,1,Z⟩ _ k hkS,HGR.u.1.block k (by simp;omega) (xK hkl),G4 w1 _ (by omega),x.u.1.block k hk (xK hkv)]
 ·simp[Value.ownBlock]at hg;subst hg;rcases HGR.u.2 with h | h
  ·exact Or.inl h
  ·have U:=x.u.1.size;exact Or.inr (by omega)
theorem sy (h:LG w S pv lv vs) (a1:(G vs+1)*24<=140737488355328):Calls Tryz.prog 11 #[H (Q ⟨S,0,Z⟩)] w fun e w'=>e=T (A D)/\Below w.heap.size w w':=by
 obtain⟨M,d,rfl⟩:=zK h.own;have HN:=zD h;go_enter func11,ntmps11;go_wp2;go_loopw [3] (fun i wr=>∃k:Nat,k<=G vs/\i=J U k/\LG wr S pv (I M (G vs) d) vs/\Below w.heap.size w wr) (fun i _=>G vs-(intOf i).toNat)
 case atStart=>exact⟨0,zo _,rfl,HN.u,zI _ _⟩
 case round=>
  obtain⟨k,hk,rfl,L,R⟩:=hrel;have c1:=zC L.block 1 (by simp);simp at c1;have HL:=qG L R;by_cases hlt:k < G vs
  ·have y:(k:Int) < (G vs:Int):=by omega
   have O:=L.each k hlt;obtain⟨a,n,c,f,hn⟩:=O.form;obtain⟨g,cap,he,_,_,cx⟩:=yD L.own (j:=k) (u:=vs[k]) (by simp);simp at he;obtain⟨rfl,rfl⟩:=he;rw[f]at cx;have a0:=zD (show ∀w',LG w' S pv (I (Q ⟨g,0,Z⟩) (G vs) d) vs->iL w' (S+1) (-7777-(k:Int)) (I a n c)/\w'.cell? ⟨g,k,Z⟩=Q (I a n c)from fun w' h=>by
    refine⟨by rw[<-f];exact h.each k hlt,?_⟩;obtain⟨g',cap',z,_,_,W⟩:=yD h.own (j:=k) (u:=vs[k]) (by simp);simp at z;rw[z.1,<-f];exact W)
   unfold maxLen at hn;go_wp2_with fail;go_loopw [4] (fun j wr2=>∃q:Nat,q<=n/\j=J U q/\LG wr2 S pv (I (Q ⟨g,0,Z⟩) (G vs) d) vs/\Below w.heap.size w wr2) (fun j _=>n-(intOf j).toNat)
   case atStart=>exact⟨0,zo _,rfl,HL.u.1,HL.u.2⟩
   case round=>
    obtain⟨q,hq,rfl,o,F⟩:=hrel;have c1:=zC o.block 1 (by simp);simp at c1;obtain⟨x,cx⟩:=a0.u _ o;have HL2:=qG o F;by_cases hqn:q < n
    ·have N:(q:Int) < (n:Int):=by omega
     obtain⟨g2,V,cy⟩:=x.cell hqn;subst V;go_wp2;go_roundw
     ·exact⟨q+1,by omega,by go_num,HL2.u.1,HL2.u.2⟩
     ·simp[intOf];omega
    ·have N:¬(q:Int) < (n:Int):=by omega
     go_wp2;go_roundw
     ·exact⟨k+1,by omega,by go_num,HL2.u.1,HL2.u.2⟩
     ·simp[intOf];omega
  ·have y:¬(k:Int) < (G vs:Int):=by omega
   go_wp2;go_ret;exact⟨rfl,HL.u.2⟩
theorem QG {k:IntKind} {a c d:Int} (h:a=b) (f:c=d):Ending.returned (E #[J k a,J k c])=T (E #[J k b,J k d]):=by rw[h,f]
theorem eC {a:Nat} {lo hi:Int} (y:s.size<=maxLen) (ha:a<=s.size):Calls Tryz.prog 194 #[O s,J U a,J .u8 lo,J .u8 hi] w fun e w'=>e=T (J U (Rt.cw s lo hi a))/\w'=w:=by
 unfold maxLen at y;go_enter func194,ntmps194;go_wp2;go_loop [9] (fun i=>∃k:Nat,a<=k/\k<=s.size/\i=J U k/\∀j (h:j < s.size),a<=j->j < k->Rt.within lo hi s[j]=D) (fun i=>s.size-(intOf i).toNat)
 case atStart=>exact⟨a,zB _,ha,rfl,fun j h h1 h2=>by omega⟩
 case round=>
  obtain⟨k,f,x,rfl,d⟩:=hrel;have o:Hd (∀j (h:j < s.size),a<=j->j < k->Rt.within lo hi s[j]=D):=d;clear d;by_cases hlt:k < s.size
  ·go_wp2
   ·have h1:lo<=(s[k].toNat:Int):=by assumption
    have h2:(s[k].toNat:Int)<=hi:=by assumption
    go_round
    ·refine⟨k+1,by omega,by omega,by go_num,fun j h hj1 hj2=>?_⟩;by_cases e:j=k
     ·subst e;simp[Rt.within,h1,h2]
     ·exact o.out j h hj1 (by omega)
    ·simp[intOf];omega
   ·have h2:hi < (s[k].toNat:Int):=by assumption
    have:=Rt.bJ s lo hi a k f x o.out (fun h=>by simp[Rt.within];omega);go_ret;exact⟨km (by rw[this];omega),rfl⟩
   ·have h2:(s[k].toNat:Int) < lo:=by assumption
    have:=Rt.bJ s lo hi a k f x o.out (fun h=>by simp[Rt.within];omega);go_ret;exact⟨km (by rw[this];omega),rfl⟩
  ·go_wp2;go_ret;have:=Rt.bJ s lo hi a k f x o.out (fun h=>absurd h hlt);exact⟨km (by rw[this];omega),rfl⟩
theorem tJ:Calls Tryz.prog 195 #[J .u8 b] w fun e w'=>e=T (A (Rt.sign b))/\w'=w:=by
 go_enter func195,ntmps195;go_wp2
 all_goals (go_ret;exact⟨by simp_all [Rt.sign],rfl⟩)
theorem Ka (s:Ia) (a:Nat) (k:s.size<=maxLen) (o:a<=s.size):Calls Tryz.prog 168 #[O s,J U a] w fun e w'=>e=T (E #[J U (Rt.YZ s a),J U (Rt.jL s a)])/\w'=w:=by
 have i:=k;unfold maxLen at i;go_enter func168,ntmps168;go_wp2_with (first | (go_at_call 194;refine(eC k o).mono ?_;rintro e w' ⟨rfl,rfl⟩)| (go_at_call 195;refine(tJ).mono ?_;rintro e w' ⟨rfl,rfl⟩))
 ·go_ret2;exact⟨QG (by unfold Rt.YZ;(repeat' split) <;> omega) (by unfold Rt.jL;(repeat' split) <;> omega),rfl⟩
 ·go_ret2;exact⟨QG (by unfold Rt.YZ;(repeat' split) <;> omega) (by unfold Rt.jL;(repeat' split) <;> omega),rfl⟩
 ·go_ret2;exact⟨QG (by unfold Rt.YZ;(repeat' split) <;> omega) (by unfold Rt.jL;(repeat' split) <;> omega),rfl⟩
 ·go_ret2;exact⟨QG (by unfold Rt.YZ;(repeat' split) <;> omega) (by unfold Rt.jL;(repeat' split) <;> omega),rfl⟩
 ·have f:a < s.size:=by assumption
  have j:Rt.sign ↑s[a].toNat=D:=by assumption
  have d:Hd (a < s.size/\Rt.sign (Rt.qC s a)=D):=⟨f,by rw[Rt.jB f];exact j⟩;go_ret2;exact⟨QG (by unfold Rt.YZ;rw[zE d.out];(repeat' split) <;> omega) (by unfold Rt.jL;rw[zE d.out];(repeat' split) <;> omega),rfl⟩
 ·have f:a < s.size:=by assumption
  have j:Rt.sign ↑s[a].toNat=W:=by assumption
  have d:Hd (¬(a < s.size/\Rt.sign (Rt.qC s a)=true)):=by rintro ⟨_,h⟩;rw[Rt.jB f,j]at h;cases h
  go_ret2;exact⟨QG (by unfold Rt.YZ;rw[zA d.out];(repeat' split) <;> omega) (by unfold Rt.jL;rw[zA d.out];(repeat' split) <;> omega),rfl⟩
 ·go_ret2;exact⟨QG (by unfold Rt.YZ;(repeat' split) <;> omega) (by unfold Rt.jL;(repeat' split) <;> omega),rfl⟩
theorem dQ (s:Ia) (h:s.size<=maxLen):Calls Tryz.prog 74 #[O s] w fun e w'=>e=T (A (Rt.ZE s))/\w'=w:=by
 unfold maxLen at h;by_cases hbig:40000 < s.size
 ·go_enter func74,ntmps74;go_wp2;go_ret;exact⟨by simp[Rt.ZE,hbig],rfl⟩
 ·have f:¬(40000:Int) < (s.size:Int):=by omega
  go_enter func74,ntmps74;go_wp2;go_loop [3,4] (fun n i=>∃k:Nat,k<=s.size/\i=J U k/\n=J U (1+Rt.nls s k:Nat)) (fun _ i=>s.size-(intOf i).toNat)
  case atStart=>exact⟨0,zo _,rfl,rfl⟩
  case round=>
   obtain⟨k,o,rfl,rfl⟩:=hrel;have j:=Fy s k;by_cases hlt:k < s.size
   ·have HS:Hd (Rt.nls s (k+1)=Rt.nls s k+(if (s[k].toNat:Int)=10 then 1 else 0)):=by rw[<-Rt.jB hlt];rfl
    go_wp2
    all_goals
     go_round
     ·exact⟨k+1,by omega,by go_num,by rw[HS.out];first | (rw[zE (beqT (by assumption))];go_num)| (rw[zA (beqF (by assumption))];go_num)⟩
     ·simp[intOf];omega
   ·have d:k=s.size:=by omega
    subst d;go_wp2;go_ret;exact⟨by simp[Rt.ZE,hbig];omega,rfl⟩
theorem Ei:(Tryz.prog.info? 188).map (fun i=>(i.zero,i.size,i.bytes))=Q (Q (L #[J U 0,O ByteArray.empty]),2,24):=by kernel_rfl
theorem rh (s:Ia) (hs:s.size<=40000):Calls Tryz.prog 121 #[O s] w fun e w'=>Below w.heap.size w w'/\
      ((Rt.yY s=Z/\e=T (E #[I Z 0 0,A W]))\/
       ∃ts v,Rt.yY s=Q ts/\e=T (E #[v,A D])/\w'.ownsRow w.heap.size 188 2 v (G ts) (qa ts)):=by
  have R:s.size<=maxLen:=by unfold maxLen;omega
  obtain⟨i0,hi,L,H,F⟩:=yi Ei;go_enter func121,ntmps121;go_wp2;go_loopw [4,5] (fun v i wr=>∃(k f:Nat) (acc:List Rt.Tk),k<=s.size/\i=J U k/\s.size < f+k/\G acc<=24/\Rt.toksFrom s f k acc=Rt.yY s/\wr.ownsRow w.heap.size 188 2 v (G acc) (qa acc)/\Below w.heap.size w wr)
    (fun _ i _=>s.size-(intOf i).toNat)
  case atStart=>exact⟨0,s.size+1,[],zo _,rfl,by omega,by simp,rfl,zW _ _ _ _,zI _ _⟩
  case round=>
    obtain⟨k,f,acc,hk,rfl,hf,hacc,x,hown,hnx⟩:=hrel;have y:Hd (Rt.toksFrom s f k acc=Rt.yY s):=x;clear x;have N:=hnx.size;obtain⟨f,rfl⟩:∃g,f=g+1:=⟨f-1,by omega⟩;obtain⟨ad,cap,rfl⟩:=zK hown;by_cases hlt:k < s.size
    · have z:=Rt.jB hlt;by_cases hb:s[k].toNat=32
      · have HR:Hd (Rt.toksFrom s f (k+1) acc=Rt.yY s):=by
          have h:=y.out;rw[Rt.toksFrom,zE hlt,zE (by rw[z,hb];rfl)]at h;exact h
        clear z;have a0:((s[k].toNat:Int)==32)=D:=by simp[hb]
        clear hb;go_wp2;go_roundw
        ·exact⟨k+1,f,acc,by omega,by go_num,by omega,hacc,HR.out,hown,hnx⟩
        ·simp[intOf];omega
      · have a0:((s[k].toNat:Int)==32)=W:=by simp;omega
        have a1:=Rt.ou s k (by omega);have d:¬Rt.qC s k=32:=by rw[z];omega
        clear z;by_cases hz:Rt.jL s k=0
        · have HR:Hd (Rt.yY s=Z):=by
            have h:=y.out;rw[Rt.toksFrom,zE hlt,zA d,zE (Or.inl hz)]at h;exact h.symm
          clear d;go_wp2_with (go_at_call 168;refine(Ka s k R (by omega)).mono ?_;rintro e w' ⟨rfl,rfl⟩;rw[hz]);go_ret2;exact⟨hnx,Or.inl ⟨HR.out,rfl⟩⟩
        · by_cases h24:24<=G acc
          · have HR:Hd (Rt.yY s=Z):=by
              have h:=y.out;rw[Rt.toksFrom,zE hlt,zA d,zE (Or.inr h24)]at h;exact h.symm
            clear d;have M:((Rt.jL s k:Int)==0)=W:=by simp;omega
            go_wp2_with (go_at_call 168;refine(Ka s k R (by omega)).mono ?_;rintro e w' ⟨rfl,rfl⟩);go_ret2;exact⟨hnx,Or.inl ⟨HR.out,rfl⟩⟩
          · have HR:Hd (Rt.toksFrom s f (k+Rt.jL s k) (acc++[⟨Rt.YZ s k,s.extract k (k+Rt.jL s k)⟩])=Rt.yY s):=by
              have h:=y.out;rw[Rt.toksFrom,zE hlt,zA d,zA (by omega)]at h;exact h
            clear d;have M:((Rt.jL s k:Int)==0)=W:=by simp;omega
            go_wp2_with (first
              | (at_builtin;refine xQ _ rfl (.tmp 31) (.tmp 40) 137 rfl w.heap.size 188 i0 _ 2 24 underlying137 hi L H F rfl (by decide) _ _ _ rfl (hown.alloc _) ⟨_,0,Z⟩ 1 1 [J U (Rt.YZ s k),O (s.extract k (k+Rt.jL s k))] rfl rfl (cell_two_new _ _ _ _) ?c2 ?c3 ?c4 ?c5 ?_)
              | (go_at_call 168;refine(Ka s k R (by omega)).mono ?_;rintro e w' ⟨rfl,rfl⟩))
            case c2=>intro u hu;simp at hu;rcases hu with rfl | rfl <;> rfl
            case c3=>unfold maxLen;omega
            case c4=>omega
            case c5=>simp;omega
            intro v' w1 o j _;have V:=qY hnx N hown j;clear j hown hnx;go_wp2;go_roundw
            ·exact⟨k+Rt.jL s k,f,_,by omega,by go_num,by omega,by simp;omega,HR.out,by rw[fB];simpa using o,V⟩
            ·simp[intOf];omega
    · go_wp2;go_ret2;have h:=y.out;rw[Rt.toksFrom,zA hlt]at h;exact⟨hnx,Or.inr ⟨acc,_,h.symm,rfl,hown⟩⟩
theorem Al (s:Ia) (hs:s.size<=40000):Calls Tryz.prog 120 #[O s] w fun e w'=>Below w.heap.size w w'/\
   ∃v,e=T v/\w'.ownsRow w.heap.size 9 1 v (Rt.lines s).length ((Rt.lines s).map Value.string):=by
 obtain⟨M,N,z,y,x⟩:=yi eT;go_enter func120,ntmps120;go_wp2;go_loopw [3,4,5] (fun v st i wr=>∃(k a f:Nat) (acc:Ib),a<=k/\k<=s.size/\i=J U k/\st=J U a/\s.size < f+k/\G acc<=k/\Rt.linesFrom s f a k acc=Rt.lines s/\wr.ownsRow w.heap.size 9 1 v (G acc) (acc.map Value.string)/\Below w.heap.size w wr)
  (fun _ _ i _=>s.size-(intOf i).toNat)
 case atStart=>exact⟨0,0,s.size+1,[],zB _,zo _,rfl,rfl,by omega,by simp,rfl,zW _ _ _ _,zI _ _⟩
 case round=>
  obtain⟨k,a,f,acc,a0,hk,rfl,rfl,hf,R,F,hown,hnx⟩:=hrel;have L:Hd (Rt.linesFrom s f a k acc=Rt.lines s):=F;clear F;have A:=hnx.size;obtain⟨f,rfl⟩:∃g,f=g+1:=⟨f-1,by omega⟩;obtain⟨ad,cap,rfl⟩:=zK hown;by_cases hlt:k < s.size
  ·have H:=Rt.jB hlt;by_cases hb:s[k].toNat=10
   ·have HR:Hd (Rt.linesFrom s f (k+1) (k+1) (acc++[s.extract a k])=Rt.lines s):=by
     have h:=L.out;rw[Rt.linesFrom,zE hlt,zE (by rw[H,hb];rfl)]at h;exact h
    clear H;have I:((s[k].toNat:Int)==10)=D:=by simp[hb]
    clear hb;go_wp2_with (at_builtin;refine xQ _ rfl (.tmp 16) (.tmp 21) 87 rfl w.heap.size 9 M _ 1 16 underlying87 N z y x rfl (by decide) _ _ _ rfl (hown.alloc _) ⟨_,0,Z⟩ 1 1 [O (s.extract a k)] rfl rfl (cell_one_new _ _ _) ?c2 ?c3 ?c4 ?c5 ?_)
    case c2=>intro u hu;simp at hu;rcases hu with rfl;rfl
    case c3=>unfold maxLen;omega
    case c4=>omega
    case c5=>simp;omega
    intro V w1 j d _;have o:=qY hnx A hown d;clear d hown hnx;go_wp2;go_roundw
    ·exact⟨k+1,k+1,f,_,by omega,by omega,by go_num,by go_num,by omega,by simp;omega,HR.out,by simpa using j,o⟩
    ·simp[intOf];omega
   ·have HR:Hd (Rt.linesFrom s f a (k+1) acc=Rt.lines s):=by
     have h:=L.out;rw[Rt.linesFrom,zE hlt,zA (by rw[H];omega)]at h;exact h
    clear H;have I:((s[k].toNat:Int)==10)=W:=by simp;omega
    go_wp2;go_roundw
    ·exact⟨k+1,a,f,acc,by omega,by omega,by go_num,rfl,by omega,by omega,HR.out,hown,hnx⟩
    ·simp[intOf];omega
  ·have HR:Hd (acc++[s.extract a s.size]=Rt.lines s):=by
    have h:=L.out;rw[Rt.linesFrom,zA hlt]at h;exact h
   go_wp2_with (at_builtin;refine xQ _ rfl (.tmp 25) (.tmp 29) 87 rfl w.heap.size 9 M _ 1 16 underlying87 N z y x rfl (by decide) _ _ _ rfl (hown.alloc _) ⟨_,0,Z⟩ 1 1 [O (s.extract a s.size)] rfl rfl (cell_one_new _ _ _) ?d2 ?d3 ?d4 ?d5 ?_)
   case d2=>intro u hu;simp at hu;rcases hu with rfl;rfl
   case d3=>unfold maxLen;omega
   case d4=>omega
   case d5=>simp;omega
   intro V w1 j d _;have o:=qY hnx A hown d;clear d hown hnx;go_wp2;go_ret;exact⟨o,_,rfl,by rw[<-HR.out];simpa using j⟩
end Go.Proofs.YthleadfkfnnadaaGreat
