/- Several rows that lie apart: what keeps them, what writes into one of them. -/
import Derived.Test.YthleadfkfnnadaaGreatPlainb
set_option maxHeartbeats 4000000
set_option maxRecDepth 100000
set_option linter.unusedSimpArgs false
namespace Go.Proofs.YthleadfkfnnadaaGreat
open Go.RowKit
variable {F F1:List Nat} {xs:List Value} {B size n g:Nat} {e:TypeId} {v:Value} {w w' w1:World}
structure Rw where
 t:TypeId
 size:Nat
 v:Value
 n:Nat
 xs:List Value
def Rw.FR (r:Rw):Option Nat:=r.v.ownBlock
def xh (R:List Rw):List Nat:=R.filterMap Rw.FR
structure Own (w:World) (R:List Rw):Prop where
 rows:∀r∈R,w.ownsRow 0 r.t r.size r.v r.n r.xs
 apart:(xh R).Nodup
structure VM (w w':World) (F:List Nat):Prop where
 os:w'.os=w.os
 tape:w'.tape=w.tape
 output:w'.output=w.output
 size:w.heap.size<=w'.heap.size
 block:∀k,k < w.heap.size->k∉F->w'.heap[k]?=w.heap[k]?
theorem VM.jQ (F:List Nat) (h:Below w.heap.size w w'):VM w w' F:=⟨h.os,h.tape,h.output,h.size,fun k hk _=>h.block k hk⟩
def vd (w:World) (F F':List Nat):Prop:=∀k∈F',k∈F\/w.heap.size<=k
theorem VM.trans {w w1 w2:World} {F F1:List Nat} (h:VM w w1 F) (d:VM w1 w2 F1) (hg:vd w F F1):VM w w2 F:=
 ⟨d.os.trans h.os,d.tape.trans h.tape,d.output.trans h.output,zi h.size d.size,fun k hk hn=>(d.block k (zX hk h.size) (fun hf=>by rcases hg k hf with f | f;exact hn f;omega)).trans (h.block k hk hn)⟩
theorem vd.refl (w:World) (F:List Nat):vd w F F:=fun _ h=>Or.inl h
theorem vd.trans {F2:List Nat} (h:vd w F F1) (h2:vd w1 F1 F2) (f:w.heap.size<=w1.heap.size):vd w F F2:=fun k hk=>by
 rcases h2 k hk with d | d
 ·exact h k d
 ·exact Or.inr (zi f d)
theorem yW (h:w.ownsRow B e size v n xs) (hg:v.ownBlock=some g):∃c,w.heap[g]?=some (.cells c e (0,0)):=by
 rcases h.2 with⟨d,_⟩| ⟨g',_,cur,d,_,hh,_⟩
 ·rw[d]at hg;cases hg
 ·rw[d]at hg;simp[Value.ownBlock]at hg;subst hg;exact⟨_,hh⟩
theorem vr (h:w.ownsRow B e size v n xs):w.ownsRow 0 e size v n xs:=yn h (zo _)
theorem yP (h:w.ownsRow B e size v n xs) (d:∀g,v.ownBlock=some g->w'.heap[g]?=w.heap[g]?):w'.ownsRow B e size v n xs:=by
 obtain⟨f,h2⟩:=h;refine⟨f,?_⟩;rcases h2 with h2 | ⟨g,cap,cur,hv,hg,hh,r⟩
 ·exact Or.inl h2
 ·exact Or.inr ⟨g,cap,cur,hv,hg,by rw[d g (by rw[hv];rfl)];exact hh,r⟩
theorem qU {R:List Rw} {r:Rw} (h:r∈R) (d:r.v.ownBlock=some g):g∈xh R:=ju.mpr ⟨r,h,d⟩
theorem jd {A B:List Rw}:xh (A++B)=xh A++xh B:=by simp[xh]
theorem ka {r:Rw} {B:List Rw}:xh (r::B)=(match r.v.ownBlock with | none=>xh B | some g=>g::xh B):=by
 unfold xh Rw.FR;rw[List.filterMap_cons];cases r.v.ownBlock <;> rfl
theorem Own.lt {w:World} {R:List Rw} (h:Own w R):∀k∈xh R,k < w.heap.size:=by
 intro k f;obtain⟨r,d,i⟩:=ju.mp f;exact((h.rows r d).lt k i).2
theorem Own.zP {R:List Rw} (h:Own w R) (d:Below w.heap.size w w'):Own w' R:=⟨fun r hr=>yG (h.rows r hr) d,h.apart⟩
theorem Own.ne {A B:List Rw} {r:Rw} (h:Own w (A++r::B)) (f:r.v.ownBlock=some g):g∉xh A/\g∉xh B:=by
 have d:=h.apart;rw[jd,ka,f]at d;simp only at d;obtain⟨k,j,i⟩:=jU.mp d;exact⟨fun hA=>i g hA g (xB ..) rfl,(YB.mp j).1⟩
theorem Own.swap {A B:List Rw} {r r':Rw} (h:Own w (A++r::B)) (H:∀k,k < w.heap.size->r.v.ownBlock≠some k->w'.heap[k]?=w.heap[k]?) (N:w'.ownsRow 0 r'.t r'.size r'.v r'.n r'.xs) (hat:∀g,r'.v.ownBlock=some g->r.v.ownBlock=some g\/w.heap.size<=g):Own w' (A++r'::B)/\vd w (xh (A++r::B)) (xh (A++r'::B)):=by
 have J:∀k∈xh A,r.v.ownBlock≠some k:=fun k hk e=>(h.ne e).1 hk;have I:∀k∈xh B,r.v.ownBlock≠some k:=fun k hk e=>(h.ne e).2 hk;refine⟨⟨?_,?_⟩,?_⟩
 ·intro x hx;rcases zd.mp hx with hx | hx
  ·have:=h.rows x (zY _ hx);exact yP this (fun g hg=>H g (this.lt g hg).2 (J g (qU hx hg)))
  ·rcases zw.mp hx with rfl | hx
   ·exact N
   ·have:=h.rows x (zb _ (zm _ hx));exact yP this (fun g hg=>H g (this.lt g hg).2 (I g (qU hx hg)))
 ·have L:=h.apart;have f:=h.lt;rw[jd,ka]at L ⊢;rw[jd,ka]at f;obtain⟨G,n2,M⟩:=jU.mp L;have i:(xh B).Nodup:=by
   cases e:r.v.ownBlock with
   | none=>rw[e]at n2;exact n2
   | some g=>rw[e]at n2;exact(YB.mp n2).2
  have o:∀k∈xh A,k < w.heap.size:=fun k hk=>f k (zY _ hk);have j:∀k∈xh B,k < w.heap.size:=fun k hk=>f k (zb _ (by
   cases e:r.v.ownBlock with
   | none=>exact hk
   | some g=>exact zm _ hk))
  have F:∀a∈xh A,∀b∈xh B,a≠b:=fun a ha b hb2=>M a ha b (by
   cases e:r.v.ownBlock with
   | none=>exact hb2
   | some g=>exact zm _ hb2)
  cases e:r'.v.ownBlock with
  | none=>exact jU.mpr ⟨G,i,F⟩
  | some g=>
   have D:g∉xh A:=fun hg=>by rcases hat g e with d | d;exact J g hg d;have:=o g hg;omega
   have z:g∉xh B:=fun hg=>by rcases hat g e with d | d;exact I g hg d;have:=j g hg;omega
   refine jU.mpr ⟨G,YB.mpr ⟨z,i⟩,?_⟩;intro a ha b hb2;rcases zw.mp hb2 with rfl | hb2
   ·intro O;rw[O]at ha;exact D ha
   ·exact F a ha b hb2
 ·intro k hk;rw[jd,ka]at hk ⊢;rcases zd.mp hk with hk | hk
  ·exact Or.inl (zY _ hk)
  ·have y:k∈xh B->k∈xh A++(match r.v.ownBlock with | none=>xh B | some g=>g::xh B):=fun hk=>zb _ (by
    cases e:r.v.ownBlock with
    | none=>exact hk
    | some g=>exact zm _ hk)
   cases e:r'.v.ownBlock with
   | none=>rw[e]at hk;exact Or.inl (y hk)
   | some g=>
    rw[e]at hk;rcases zw.mp hk with rfl | hk
    ·rcases hat k e with d | d
     ·rw[d];exact Or.inl (zb _ (xB ..))
     ·exact Or.inr d
    ·exact Or.inl (y hk)
theorem Own.add {A B:List Rw} {r:Rw} (h:Own w (A++B)) (k:w.ownsRow 0 r.t r.size r.v r.n r.xs) (o:∀g,r.v.ownBlock=some g->g∉xh (A++B)):Own w (A++r::B):=by
 refine⟨?_,?_⟩
 ·intro x hx;rcases zd.mp hx with hx | hx
  ·exact h.rows x (zY _ hx)
  ·rcases zw.mp hx with rfl | hx
   ·exact k
   ·exact h.rows x (zb _ hx)
 ·have f:=h.apart;rw[jd]at f;obtain⟨j,n2,i⟩:=jU.mp f;rw[jd,ka];cases e:r.v.ownBlock with
  | none=>exact f
  | some g=>
   have:=o g e;rw[jd]at this;have z:g∉xh A:=fun hg=>this (zY _ hg);have y:g∉xh B:=fun hg=>this (zb _ hg);refine jU.mpr ⟨j,YB.mpr ⟨y,n2⟩,?_⟩;intro a d b hb2;rcases zw.mp hb2 with rfl | hb2
   ·intro D;rw[D]at d;exact z d
   ·exact i a d b hb2
theorem Own.drop {A B:List Rw} {r:Rw} (h:Own w (A++r::B)):Own w (A++B):=by
 refine⟨fun x hx=>h.rows x (by rcases zd.mp hx with hx | hx;exact zY _ hx;exact zb _ (zm _ hx)),?_⟩;have d:=h.apart;rw[jd,ka]at d;obtain⟨i,n2,f⟩:=jU.mp d;rw[jd];cases e:r.v.ownBlock with
 | none=>rw[e]at d;exact d
 | some g=>
  rw[e]at n2 f;exact jU.mpr ⟨i,(YB.mp n2).2,fun a ha b hb=>f a ha b (zm _ hb)⟩
theorem mP {A B:List Rw} {r:Rw}:∀k∈xh (A++B),k∈xh (A++r::B):=by
 intro k hk;rw[jd]at hk ⊢;rcases zd.mp hk with hk | hk
 ·exact zY _ hk
 ·refine zb _ ?_;rw[ka];cases r.v.ownBlock with
  | none=>exact hk
  | some g=>exact zm _ hk
end Go.Proofs.YthleadfkfnnadaaGreat
