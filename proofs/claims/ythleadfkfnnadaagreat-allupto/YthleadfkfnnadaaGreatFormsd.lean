/- The walks of the readers of lines, continued: procedure. -/
import Derived.Test.YthleadfkfnnadaaGreatScan
set_option maxHeartbeats 4000000
set_option maxRecDepth 100000
set_option linter.all false
namespace Go.Proofs.YthleadfkfnnadaaGreat
open Value renaming int->J,slice->I,string->O,pointer->H,bool->A,agg->L,tuple->E
open IntKind renaming i64->U
open Option renaming none->Z,some->Q
open Bool renaming false->W,true->D
open List renaming length->G
open Ending renaming returned->T
open Obj renaming cells->V
open Rt Go.Proofs.Tryz
open Go.RowKit
variable {s nm:Ia} {lo hi:Int} {acc:Ib} {ts rem r:List Rt.Tk} {xs:List Value} {R n g n1 n2 f N i base size B:Nat} {o:Obj} {row:Option Nat} {tot:Rt.JX} {e t:TypeId} {a b c tv ov v x d:Value} {w w1 w2 w' wr:World}
def Gs (w:World) (R:Nat) (tv:Value) (ts:List Rt.Tk):Prop:=
 ∃b cap,tv=I (Q ⟨b,0,Z⟩) (G ts) cap/\b < R/\
  ∀i (h:i < G ts),w.cell? ⟨b,i*2,Z⟩=Q (J U ts[i].kind)/\w.cell? ⟨b,i*2+1,Z⟩=Q (O ts[i].text)
structure ZJ (R:Nat) (ov ov':Value) (w w':World):Prop where
 os:w'.os=w.os
 tape:w'.tape=w.tape
 output:w'.output=w.output
 size:w.heap.size<=w'.heap.size
 block:∀k,k < w.heap.size->k≠R->some k≠ov.ownBlock->w'.heap[k]?=w.heap[k]?
 own:∀g,ov'.ownBlock=some g->ov.ownBlock=some g\/w.heap.size<=g
theorem ZJ.refl (R:Nat) (ov:Value) (w:World):ZJ R ov ov w w:=⟨rfl,rfl,rfl,zB _,fun _ _ _ _=>rfl,fun _ h=>Or.inl h⟩
theorem ZJ.trans {R:Nat} {a b c:Value} {w w1 w2:World} (h:ZJ R a b w w1) (k:ZJ R b c w1 w2):ZJ R a c w w2:=
 ⟨k.os.trans h.os,k.tape.trans h.tape,k.output.trans h.output,zi h.size k.size,
  fun i hi hR ha=>(k.block i (zX hi h.size) hR (fun e=>by rcases h.own i e.symm with x | x;exact ha x.symm;omega)).trans (h.block i hi hR ha),
  fun g hg=>by
   rcases k.own g hg with x | x
   ·rcases h.own g x with y | y
    ·exact Or.inl y
    ·exact Or.inr y
   ·exact Or.inr (zi h.size x)⟩
def aN (o:qM):List Value:=[J U o.code,J U o.number,O o.name]
def xX (os:List qM):List Value:=os.flatMap aN
theorem fW {os:List qM} {o:qM}:xX (os++[o])=xX os++[J U o.code,J U o.number,O o.name]:=by simp[xX,aN]
structure kC (w:World) (R:Nat) (tv:Value) (ts:List Rt.Tk) (n:Nat) (ov:Value) (ops:List qM):Prop where
 le:n<=ts.length
 VJ:ts.length<=24
 YH:ops.length<=n
 block:w.heap[R]?=some (.cells #[tv,.int .i64 n,ov] 208 (0,0))
 yY:Gs w R tv ts
 own:w.ownsRow (R+1) 236 3 ov ops.length (xX ops)
theorem QL {ops:List qM} (d:kC w R tv ts n ov ops):Calls Tryz.prog 170 #[H (Q ⟨R,0,Z⟩)] w fun e w'=>e=T (A (decide (n < G ts)))/\∃q,w'=w.drewN q:=by
 obtain⟨b,cap,rfl,j,i⟩:=d.yY;have h:=zC d.block 0 (by simp);have f:=zC d.block 1 (by simp);simp at h f;go_enter func170,ntmps170;go_wp2_with fail;go_quiet (fail);go_wp2;go_ret;exact⟨by simp,_,rfl⟩
theorem kC.E8 {ops:List qM} (f:kC w R tv ts n ov ops) (h:n < G ts) (q:Nat):kC ((w.drewN q).setCell ⟨R,1,Z⟩ (J U ((n:Int)+1))) R tv ts (n+1) ov ops/\ZJ R ov ov w ((w.drewN q).setCell ⟨R,1,Z⟩ (J U ((n:Int)+1))):=by
 have d:∀k,k≠R->((w.drewN q).setCell ⟨R,1,Z⟩ (J U ((n:Int)+1))).heap[k]?=w.heap[k]?:=fun k hk=>zO (w.drewN q) ⟨R,1,Z⟩ _ k hk;refine⟨⟨by omega,f.VJ,by have:=f.YH;omega,?_,?_,?_⟩,⟨rfl,rfl,rfl,by simp[World.setCell],fun k _ hk _=>d k hk,fun _ h=>Or.inl h⟩⟩
 ·have:=f.block;show ((w.drewN q).heap.modify R _)[R]?=_;rw[ZD];simp[World.drewN,this]
 ·obtain⟨b,cap,rfl,o,j⟩:=f.yY;exact⟨b,cap,rfl,o,fun i h=>⟨by rw[xG (w:=w) (d b (by omega))];exact(j i h).1,by rw[xG (w:=w) (d b (by omega))];exact(j i h).2⟩⟩
 ·obtain⟨x,h2⟩:=f.own;refine⟨x,?_⟩;rcases h2 with h2 | ⟨g,cap,cur,hv,hg,hh,r⟩
  ·exact Or.inl h2
  ·exact Or.inr ⟨g,cap,cur,hv,hg,by rw[d g (by omega)];exact hh,r⟩
theorem fE {ops:List qM} (x:Ia) (d:kC w R tv ts n ov ops) (i:¬n < G ts):Calls Tryz.prog 216 #[H (Q ⟨R,0,Z⟩),O x] w fun e w'=>e=T (A W)/\∃q,w'=w.drewN q:=by
 obtain⟨b,cap,rfl,k,j⟩:=d.yY;have h:=zC d.block 0 (by simp);have f:=zC d.block 1 (by simp);simp at h f;go_enter func216,ntmps216;go_wp2_with fail;go_quiet (fail);go_wp2;go_ret;exact⟨by simp,_,rfl⟩
theorem mb {ops:List qM} (x:Ia) (d:kC w R tv ts n ov ops) (j:n < G ts) (i:¬ts[n].text=x):Calls Tryz.prog 216 #[H (Q ⟨R,0,Z⟩),O x] w fun e w'=>e=T (A W)/\∃q,w'=w.drewN q:=by
 obtain⟨b,cap,rfl,y,f⟩:=d.yY;have o:=zC d.block 0 (by simp);have k:=zC d.block 1 (by simp);simp at o k;have z:=(f n j).2;have h:=KI i;generalize ts[n].text=tx at *;clear f;go_enter func216,ntmps216;go_wp2_with fail;go_quiet (fail);go_wp2;go_ret;exact⟨by simp,_,rfl⟩
theorem JD {ops:List qM} (x:Ia) (f:kC w R tv ts n ov ops) (h:n < G ts) (j:ts[n].text=x):Calls Tryz.prog 216 #[H (Q ⟨R,0,Z⟩),O x] w fun e w'=>e=T (A D)/\kC w' R tv ts (n+1) ov ops/\ZJ R ov ov w w':=by
 have d:=f.E8 h;obtain⟨b,cap,rfl,I,k⟩:=f.yY;have z:=zC f.block 0 (by simp);have y:=zC f.block 1 (by simp);have L:=zS f.block 1;simp at z y;have o:=(k n h).2;rw[j]at o;have i:=f.VJ;have F:Hd (∀q:Nat,kC ((w.drewN q).setCell ⟨R,1,Z⟩ (J U ((n:Int)+1))) R (Value.slice (Q { block:=b,off:=0 }) (G ts) cap) ts (n+1) ov ops/\ZJ R ov ov w ((w.drewN q).setCell ⟨R,1,Z⟩ (J U ((n:Int)+1)))):=d;go_enter func216,ntmps216;go_wp2_with fail;go_quiet (fail);go_wp2;go_ret;exact⟨by simp,F.out _⟩
section
attribute [local go_sem ↓] Go.wp_at_zero Go.wp_at_succ
theorem kC.zP {ops:List qM} (f:kC w R tv ts n ov ops) (d:Below w.heap.size w w'):kC w' R tv ts n ov ops/\ZJ R ov ov w w':=by
 have j:R < w.heap.size:=zt w _ (zC f.block 0 (by simp));refine⟨⟨f.le,f.VJ,f.YH,by rw[d.block R j];exact f.block,?_,?_⟩,⟨d.os,d.tape,d.output,d.size,fun k h _ _=>d.block k h,fun _ h=>Or.inl h⟩⟩
 ·obtain⟨b,cap,rfl,x,y⟩:=f.yY;exact⟨b,cap,rfl,x,fun i h=>⟨cell_later d (y i h).1,cell_later d (y i h).2⟩⟩
 ·obtain⟨z,h2⟩:=f.own;refine⟨z,?_⟩;rcases h2 with h2 | ⟨g,cap,cur,hv,hg,hh,r⟩
  ·exact Or.inl h2
  ·have o:g < w.heap.size:=by
    by_cases h:g < w.heap.size
    ·exact h
    ·rw[vq (by omega)]at hh;cases hh
   exact Or.inr ⟨g,cap,cur,hv,hg,by rw[d.block g o];exact hh,r⟩
theorem below_drewN (w:World) (q:Nat):Below w.heap.size w (w.drewN q):=⟨rfl,rfl,rfl,zB _,fun _ _=>rfl⟩
theorem gS {a b c:Addr} {x y z:Option Value} (q:Nat) (h:w.cell? a=x) (f:w.cell? b=y) (d:w.cell? c=z):∃w1,w1=w.drewN q/\w1.cell? a=x/\w1.cell? b=y/\w1.cell? c=z:=⟨_,rfl,h,f,d⟩
theorem aw {q m:Nat} (h:w1=w.drewN q):w1.drewN m=w.drewN (q+m):=by
 subst h;simp[World.drewN,vN]
theorem mr:Calls Tryz.prog 220 #[O s] w fun e w'=>e=T (A (Rt.aL s))/\w'=w:=by
 go_enter func220,ntmps220;go_wp2
 all_goals (go_ret;exact⟨by simp_all [Rt.aL,Rt.resvWords],rfl⟩)
theorem Yu:Calls Tryz.prog 228 #[O s] w fun e w'=>e=T (J U (Rt.yI s))/\w'=w:=by
 go_enter func228,ntmps228;go_wp2
 all_goals (go_ret;exact⟨by simp_all [Rt.yI],rfl⟩)
theorem nB {ops:List qM} (d:kC w R tv ts n ov ops) (i:¬n < G ts):Calls Tryz.prog 225 #[H (Q ⟨R,0,Z⟩),J U lo,J U hi] w fun e w'=>e=T (J U 0)/\∃q,w'=w.drewN q:=by
 obtain⟨b,cap,rfl,k,j⟩:=d.yY;have h:=zC d.block 0 (by simp);have f:=zC d.block 1 (by simp);simp at h f;go_enter func225,ntmps225;go_wp2_with fail;go_quiet (fail);go_wp2;go_ret;exact⟨by simp,_,rfl⟩
theorem KW {ops:List qM} (f:kC w R tv ts n ov ops) (z:n < G ts) (D:Rt.yI ts[n].text < lo\/hi < Rt.yI ts[n].text):Calls Tryz.prog 225 #[H (Q ⟨R,0,Z⟩),J U lo,J U hi] w fun e w'=>e=T (J U 0)/\∃q,w'=w.drewN q:=by
 obtain⟨b,cap,rfl,F,A⟩:=f.yY;have o:=zC f.block 0 (by simp);have j:=zC f.block 1 (by simp);simp at o j;have y:=(A n z).2;generalize ts[n].text=tx at *;by_cases h1:Rt.yI tx < lo
 ·go_enter func225,ntmps225;go_wp2_with fail;go_quiet (fail);go_wp2_with fail;obtain⟨w1,d,k,i,h⟩:=gS nq o j y;rw[<-d];have x:Hd (w1=w.drewN nq):=d;clear d;go_quiet ((go_at_call 228;exact Calls.quiet_of_same (Yu)));go_wp2;go_ret;exact⟨by simp,_,aw x.out⟩
 ·have I:hi < Rt.yI tx:=by omega
  go_enter func225,ntmps225;go_wp2_with fail;go_quiet (fail);go_wp2_with fail;obtain⟨w1,d,k,i,h⟩:=gS nq o j y;rw[<-d];have x:Hd (w1=w.drewN nq):=d;clear d;go_quiet ((go_at_call 228;exact Calls.quiet_of_same (Yu)));go_wp2;go_ret;exact⟨by simp,_,aw x.out⟩
theorem kC.same {ops:List qM} (d:kC w R tv ts n ov ops) (f:w'.heap=w.heap):kC w' R tv ts n ov ops:=by
 refine⟨d.le,d.VJ,d.YH,by rw[f];exact d.block,?_,?_⟩
 ·obtain⟨b,cap,rfl,j,k⟩:=d.yY;exact⟨b,cap,rfl,j,fun i h=>⟨by rw[xG (w:=w) (by rw[f])];exact(k i h).1,by rw[xG (w:=w) (by rw[f])];exact(k i h).2⟩⟩
 ·obtain⟨o,h2⟩:=d.own;refine⟨o,?_⟩;rcases h2 with h2 | ⟨g,cap,cur,hv,hg,hh2,r⟩
  ·exact Or.inl h2
  ·exact Or.inr ⟨g,cap,cur,hv,hg,by rw[f];exact hh2,r⟩
theorem ZJ.same (h:ZJ R a b w w1) (d:w2.heap=w1.heap) (j:w2.os=w1.os) (i:w2.tape=w1.tape) (f:w2.output=w1.output):ZJ R a b w w2:=
 ⟨j.trans h.os,i.trans h.tape,f.trans h.output,by rw[d];exact h.size,fun k h1 h2 h3=>by rw[d];exact h.block k h1 h2 h3,h.own⟩
theorem Jf {ops:List qM} (f:kC w R tv ts n ov ops) (h:n < G ts) (O:lo<=Rt.yI ts[n].text) (N:Rt.yI ts[n].text<=hi):Calls Tryz.prog 225 #[H (Q ⟨R,0,Z⟩),J U lo,J U hi] w fun e w'=>e=T (J U (Rt.yI ts[n].text))/\kC w' R tv ts (n+1) ov ops/\ZJ R ov ov w w':=by
 have L:Hd (∀q:Nat,kC ((w.drewN q).setCell ⟨R,1,Z⟩ (J U ((n:Int)+1))) R tv ts (n+1) ov ops/\ZJ R ov ov w ((w.drewN q).setCell ⟨R,1,Z⟩ (J U ((n:Int)+1)))):=f.E8 h;obtain⟨b,cap,rfl,M,o⟩:=f.yY;have k:=zC f.block 0 (by simp);have j:=zC f.block 1 (by simp);have y:=zS f.block 1;simp at k j;have A:=(o n h).2;have i:=f.VJ;generalize ts[n].text=tx at *;go_enter func225,ntmps225;go_wp2_with fail;go_quiet (fail);go_wp2_with fail;obtain⟨w1,d,F,D,z⟩:=gS nq k j A;rw[<-d];have x:w1.frozen? ⟨R,1,Z⟩=W:=by rw[d];exact y
 have I:Hd (w1=w.drewN nq):=d;clear d;go_quiet ((go_at_call 228;exact Calls.quiet_of_same (Yu)));go_wp2;go_ret;refine⟨by simp,?_⟩;rw[aw I.out];exact L.out _
theorem oj {ops:List qM} (d:kC w R tv ts n ov ops) (i:¬n < G ts):Calls Tryz.prog 213 #[H (Q ⟨R,0,Z⟩)] w fun e w'=>e=T (E #[O ⟨#[]⟩,A W])/\∃q,w'=w.drewN q:=by
 obtain⟨b,cap,rfl,k,j⟩:=d.yY;have h:=zC d.block 0 (by simp);have f:=zC d.block 1 (by simp);simp at h f;go_enter func213,ntmps213;go_wp2_with fail;go_quiet (fail);go_wp2;go_ret2;exact⟨by simp,_,rfl⟩
theorem Zh (w:World) (R:Nat) (tv:Value) (f:List Rt.Tk) (n:Nat) (ov:Value) (h:List qM) (j:kC w R tv f n ov h) (F:n < G f):Calls Tryz.prog 213 #[H (Q ⟨R,0,Z⟩)] w fun e w'=>
   (f[n].kind=1/\Rt.aL f[n].text=W/\e=T (E #[O f[n].text,A D])/\kC w' R tv f (n+1) ov h/\ZJ R ov ov w w')\/
   (¬(f[n].kind=1/\Rt.aL f[n].text=W)/\e=T (E #[O ⟨#[]⟩,A W])/\kC w' R tv f n ov h/\ZJ R ov ov w w'):=by
 have i:=j;obtain⟨b,cap,rfl,hb,hc⟩:=j.yY;have y:=zC j.block 0 (by simp);have M:=zC j.block 1 (by simp);have f1:=zS j.block 1;simp at y M;obtain⟨ck,ct⟩:=hc n F;have L:=j.VJ;generalize f[n].text=tx at *;generalize f[n].kind=kx at *;have x:R < w.heap.size:=zt w _ y;go_enter func213,ntmps213;go_wp2_with fail;go_quiet (fail);go_wp2_with fail;obtain⟨w1,d,a8,a7,a5⟩:=gS nq y M ct;rw[<-d];have a6:w1.cell? ⟨b,n*2,Z⟩=Q (J U kx):=by rw[d];exact ck
 have a0:w1.frozen? ⟨R,1,Z⟩=W:=by rw[d];exact f1
 have N:R < w1.heap.size:=by rw[d];exact x
 have z:Hd (w1=w.drewN nq):=d;clear d;go_region_held3 (fun w'=>w'.cell? ⟨R,0,Z⟩=Q (I (Q ⟨b,0,Z⟩) (G f) cap)/\w'.cell? ⟨R,1,Z⟩=Q (J U n)/\w'.cell? ⟨b,n*2,Z⟩=Q (J U kx)/\w'.cell? ⟨b,n*2+1,Z⟩=Q (O tx)) (go_keep) (fail);go_wp2_with (go_at_call 220;refine(mr).mono ?_;rintro e w' ⟨rfl,rfl⟩)
 ·have o:Rt.aL tx=D:=by assumption
  go_ret2;refine Or.inr ⟨by simp[o],by simp,?_⟩;exact i.zP (by rw[z.out];exact((below_drewN w nq).alloc (zB _) _).drew)
 ·have o:kx=1:=by assumption
  have h2:Rt.aL tx=W:=by assumption
  go_ret2;refine Or.inl ⟨o,h2,by simp,?_⟩;have k:=i.E8 F nq;rw[<-z.out]at k;obtain⟨a1,a2⟩:=k;obtain⟨a3,a4⟩:=a1.zP (((zI _ _).alloc (zB _) (V #[J U 1,O tx] 188)).drew);exact⟨a3,a2.trans a4⟩
 ·have o:¬kx=1:=by assumption
  go_ret2;refine Or.inr ⟨by simp[o],by simp,?_⟩;exact i.zP (by rw[z.out];exact((below_drewN w nq).alloc (zB _) _).drew)
theorem nk (f:s.size<=maxLen):Calls Tryz.prog 221 #[O s] w fun e w'=>e=T (J U (Rt.val s))/\w'=w:=by
 unfold maxLen at f;go_enter func221,ntmps221;go_wp2;go_loop [3,4] (fun v i=>∃k:Nat,k<=s.size/\i=J U k/\v=J U (Rt.valTo s k)) (fun _ i=>s.size-(intOf i).toNat)
 case atStart=>exact⟨0,zo _,rfl,rfl⟩
 case round=>
  obtain⟨k,h,rfl,rfl⟩:=hrel;by_cases hlt:k < s.size
  ·have HB:Hd (Rt.qC s k=(s[k].toNat:Int)):=Rt.jB hlt;go_wp2;go_round
   ·exact⟨k+1,by omega,by go_num,by rw[Rt.valTo,HB.out]⟩
   ·simp[intOf];omega
  ·have d:k=s.size:=by omega
   subst d;go_wp2;go_ret;exact⟨rfl,rfl⟩
theorem kC.push {ov':Value} {ops:List qM} {o:qM} {wa:World} (y:kC w R tv ts n ov ops) (z:Below w.heap.size w wa) (A:w1.ownsRow (R+1) 236 3 ov' (G ops+1) (xX ops++[J U o.code,J U o.number,O o.name])) (d:wa.grownBy w1 ov.ownBlock) (M:∀g,ov'.ownBlock=Q g->ov.ownBlock=Q g\/w.heap.size<=g) (T:G ops < n):kC (w1.setCell ⟨R,2,Z⟩ ov') R tv ts n ov' (ops++[o])/\ZJ R ov ov' w (w1.setCell ⟨R,2,Z⟩ ov'):=by
 have I:R < w.heap.size:=zt w _ (zC y.block 0 (by simp));have D:∀k,k<=R->Q k≠ov.ownBlock:=fun k hk h=>by have:=(y.own.lt k h.symm).1;omega
 have f:∀k,k < w.heap.size->Q k≠ov.ownBlock->w1.heap[k]?=w.heap[k]?:=fun k hk hkv=>(d.block k (zX hk z.size) hkv).trans (z.block k hk);have x:∀k,k≠R->(w1.setCell ⟨R,2,Z⟩ ov').heap[k]?=w1.heap[k]?:=fun k hk=>zO w1 ⟨R,2,Z⟩ _ k hk;have H:w1.heap[R]?=Q (V #[tv,J U n,ov] 208 (0,0)):=(f R I (D R (zB _))).trans y.block;refine⟨⟨y.le,y.VJ,by simp;omega,?_,?_,?_⟩,⟨d.os.trans z.os,d.tape.trans z.tape,d.output.trans z.output,?_,fun k hk hkR hkv=>(x k hkR).trans (f k hk hkv),M⟩⟩
 ·show (w1.heap.modify R _)[R]?=_;rw[ZD];simp[H]
 ·obtain⟨b,cap,rfl,L,N⟩:=y.yY;have F:∀j,(w1.setCell ⟨R,2,Z⟩ ov').cell? ⟨b,j,Z⟩=w.cell? ⟨b,j,Z⟩:=fun j=>xG (w:=w) ((x b (by omega)).trans (f b (by omega) (D b (by omega))));exact⟨b,cap,rfl,L,fun i h=>⟨by rw[F];exact(N i h).1,by rw[F];exact(N i h).2⟩⟩
 ·rw[fW,ze];exact qL A (by show R < R+1;omega) _
 ·simp[World.setCell];exact zi z.size d.size
theorem F7:(Tryz.prog.info? 236).map (fun i=>(i.zero,i.size,i.bytes))=Q (Q (L #[J U 0,J U 0,O ByteArray.empty]),3,32):=by kernel_rfl
theorem DJ (h:R < w.heap.size) (A:w.cell? ⟨R,2,Z⟩=Q ov) (z:w.frozen? ⟨R,2,Z⟩=W) (f:ov.ownBlock≠Q R) (x:∀k,ov.ownBlock=Q k->R+1<=k/\k < w.heap.size)  (d:((w.alloc (V #[a,b,c] 236)).alloc o).drew.grownBy w1 ov.ownBlock):(w1.cell? ⟨R,2,Z⟩=Q ov/\w1.cell? ⟨w.heap.size,0,Z⟩=Q a/\w1.cell? ⟨w.heap.size,1,Z⟩=Q b/\w1.cell? ⟨w.heap.size,2,Z⟩=Q c)/\w1.frozen? ⟨R,2,Z⟩=W:=by
 have j:∀k,k < w.heap.size+1->Q k≠ov.ownBlock->w1.heap[k]?=(w.alloc (V #[a,b,c] 236)).heap[k]?:=fun k hk hv=>by
  rw[d.block k (by simp;omega) hv];exact jx _ _ _ (by simp;omega)
 have i:w1.heap[R]?=w.heap[R]?:=(j R (by omega) (xK f)).trans (jx _ _ _ h);have y:w1.heap[w.heap.size]?=(w.alloc (V #[a,b,c] 236)).heap[w.heap.size]?:=j _ (by omega) (fun e=>by have:=(x _ e.symm).2;omega);refine⟨⟨(xG (w:=w) i).trans A,?_,?_,?_⟩,(World.frozen?_of_block (w:=w) i).trans z⟩
 all_goals (rw[xG (w:=w.alloc (V #[a,b,c] 236)) y];simp)
theorem XQ {ops:List qM} (o:qM) (j:kC w R tv ts n ov ops) (z:G ops < n):Calls Tryz.prog 226 #[H (Q ⟨R,0,Z⟩),L #[J U o.code,J U o.number,O o.name]] w fun e w'=>
   e=T (E #[])/\∃ov',kC w' R tv ts n ov' (ops++[o])/\ZJ R ov ov' w w':=by
 obtain⟨W,F,y,x,k⟩:=yi F7;have I:=zC j.block 2 (by simp);have f2:=zS j.block 2;simp at I;have D:R < w.heap.size:=zt w _ I;have d:=j.own;have N:=j.VJ;have a0:=j.le;have A:ov.ownBlock≠Q R:=fun h=>by have:=(d.lt R h).1;omega
 go_enter func226,ntmps226;go_wp2_with fail;go_region_law
  ((refine step_append_lies _ (by rfl) _ _ _ (by rfl) (R+1) 236 W _ 3 32 underlying138 F y x k rfl (by omega) ov (G ops) (xX ops) (by rfl) (((d.alloc _).alloc _).drew) ⟨w.heap.size+1,0,Z⟩ 1 1 [J U o.code,J U o.number,O o.name] (by rfl) (by rfl) (World.news_of_block (cs:=#[J U o.code,J U o.number,O o.name]) (t:=236) (fr:=(0,0)) (iC w)) (by simp[Value.oneCell']) (by omega) (by unfold maxLen;omega) (by omega) (by simp;omega) (w.heap.size+2) (by simp) ?_;intro gg cap w1 i f hat M;obtain⟨⟨V,_⟩,a1⟩:=DJ D I f2 A d.lt f))
 all_goals
  go_end0;exact⟨rfl,_,j.push ((((zI _ _).alloc (zB _) _).alloc (by simp) _).drew) i f (fun g hg=>by simp[Value.ownBlock]at hg;subst hg;rcases hat with h | h;exact Or.inl h;exact Or.inr (by omega)) z⟩
theorem sa {ops:List qM} (d:kC w R tv ts n ov ops) (i:¬n < G ts):Calls Tryz.prog 214 #[H (Q ⟨R,0,Z⟩)] w fun e w'=>e=T (E #[J U 0,A W])/\∃q,w'=w.drewN q:=by
 obtain⟨b,cap,rfl,k,j⟩:=d.yY;have h:=zC d.block 0 (by simp);have f:=zC d.block 1 (by simp);simp at h f;go_enter func214,ntmps214;go_wp2_with fail;go_quiet (fail);go_wp2;go_ret2;exact⟨by simp,_,rfl⟩
theorem AX {ops:List qM} (d:kC w R tv ts n ov ops) (h:n < G ts) (j:¬ts[n].kind=2):Calls Tryz.prog 214 #[H (Q ⟨R,0,Z⟩)] w fun e w'=>e=T (E #[J U 0,A W])/\∃q,w'=w.drewN q:=by
 obtain⟨b,cap,rfl,x,f⟩:=d.yY;have o:=zC d.block 0 (by simp);have k:=zC d.block 1 (by simp);simp at o k;have y:=(f n h).1;clear f;generalize ts[n].kind=kx at *;have i:(kx != 2)=D:=by simpa using j
 go_enter func214,ntmps214;go_wp2_with fail;go_quiet (fail);go_wp2;go_ret2;exact⟨by simp,_,rfl⟩
theorem fe {ops:List qM} (f:kC w R tv ts n ov ops) (h:n < G ts) (y:ts[n].kind=2) (x:ts[n].text.size<=maxLen):Calls Tryz.prog 214 #[H (Q ⟨R,0,Z⟩)] w fun e w'=>e=T (E #[J U (Rt.val ts[n].text),A D])/\kC w' R tv ts (n+1) ov ops/\ZJ R ov ov w w':=by
 have HB:Hd (∀q:Nat,kC ((w.drewN q).setCell ⟨R,1,Z⟩ (J U ((n:Int)+1))) R tv ts (n+1) ov ops/\ZJ R ov ov w ((w.drewN q).setCell ⟨R,1,Z⟩ (J U ((n:Int)+1)))):=f.E8 h;obtain⟨b,cap,rfl,hb,j⟩:=f.yY;have o:=zC f.block 0 (by simp);have k:=zC f.block 1 (by simp);have F:=zS f.block 1;simp at o k;obtain⟨M,L⟩:=j n h;clear j;rw[y]at M;have i:=f.VJ;generalize ts[n].text=tx at *;go_enter func214,ntmps214;go_wp2_with fail;go_quiet (fail);go_wp2_with fail;obtain⟨w1,d,O,N,I⟩:=gS nq o k L;rw[<-d];have z:w1.frozen? ⟨R,1,Z⟩=W:=by rw[d];exact F
 have V:Hd (w1=w.drewN nq):=d;clear d;go_quiet ((go_at_call 221;exact Calls.quiet_of_same (nk x)));go_wp2;go_ret2;refine⟨by simp,?_⟩;rw[aw V.out];exact HB.out _
end
def Reads (f:Nat) (fn:FuncId) (spec:List Rt.Tk->Rt.JX):Prop:=
 ∀(w:World) (R:Nat) (tv:Value) (ts:List Rt.Tk) (n:Nat) (ov:Value) (ops:List qM),kC w R tv ts n ov ops->(∀t∈ts,t.text.size<=40000)->G ts-n<=f->
  Calls Tryz.prog fn #[H (Q ⟨R,0,Z⟩)] w fun e w'=>
   (∃em n' ov',spec (ts.drop n)=Q (em,ts.drop n')/\e=T (A D)/\G em+n<=n'/\n < n'/\kC w' R tv ts n' ov' (ops++em)/\ZJ R ov ov' w w')\/
   (spec (ts.drop n)=Z/\e=T (A W)/\∃ov',ZJ R ov ov' w w')
theorem ql (h:n < G ts):ts.drop n=ts[n]::ts.drop (n+1):=zZ h
theorem vW (h:¬n < G ts):ts.drop n=[]:=zp (by omega)
theorem kC.quiet {ops:List qM} (d:kC w R tv ts n ov ops) (q:Nat):kC (w.drewN q) R tv ts n ov ops/\ZJ R ov ov w (w.drewN q):=
 d.zP (below_drewN w q)
theorem pD {pf:List Rt.Tk->Rt.JX} {em:List qM} (h:Rt.Yb em (Rt.pLoop pf lo hi (g+1) (ts.drop n1))=tot) (d:¬n1 < G ts):tot=Q (em,ts.drop n1):=by
 rw[<-h,vW d];simp[Rt.pLoop,Rt.Yb]
theorem lY {pf:List Rt.Tk->Rt.JX} {em:List qM} (h:Rt.Yb em (Rt.pLoop pf lo hi (g+1) (ts.drop n1))=tot) (d:n1 < G ts) (f:Rt.yI ts[n1].text < lo\/hi < Rt.yI ts[n1].text):tot=Q (em,ts.drop n1):=by
 rw[<-h,ql d,Rt.pLoop,zA (by omega)];simp[Rt.Yb]
theorem lZ {pf:List Rt.Tk->Rt.JX} {em:List qM} (h:Rt.Yb em (Rt.pLoop pf lo hi (g+1) (ts.drop n1))=tot) (f:n1 < G ts) (j:lo<=Rt.yI ts[n1].text) (i:Rt.yI ts[n1].text<=hi) (d:pf (ts.drop (n1+1))=Z):tot=Z:=by
 rw[<-h,ql f,Rt.pLoop,zE ⟨j,i⟩,d];simp[Rt.Yb]
theorem lb {pf:List Rt.Tk->Rt.JX} {em em2:List qM} (h:Rt.Yb em (Rt.pLoop pf lo hi (g+1) (ts.drop n1))=tot) (f:n1 < G ts) (j:lo<=Rt.yI ts[n1].text) (i:Rt.yI ts[n1].text<=hi) (d:pf (ts.drop (n1+1))=Q (em2,ts.drop n2)):Rt.Yb (em++em2++[⟨Rt.yI ts[n1].text,0,⟨#[]⟩⟩]) (Rt.pLoop pf lo hi g (ts.drop n2))=tot:=by
 rw[<-h,ql f,Rt.pLoop,zE ⟨j,i⟩,d];cases hq:Rt.pLoop pf lo hi g (ts.drop n2)with
 | none=>simp[Rt.Yb,hq]
 | some x=>simp[Rt.Yb,hq]
theorem ns (hf:Reads f 229 (Rt.yV f)):Reads f 227 (Rt.VQ (Rt.yV f)):=by
 intro w R tv ts n ov U hr V a2;have J:=zD V;have a6:=hr.VJ;go_enter func227,ntmps227;go_wp2_with fail;refine(hf _ _ _ _ _ _ _ hr J.u a2).mono ?_;rintro e w1 (⟨em,n1,ov1,Z,rfl,hlen,hlt,hr1,hfr1⟩| ⟨Z,rfl,ov1,hfr1⟩)
 ·have hT:Rt.Yb em (Rt.pLoop (Rt.yV f) 7 9 25 (ts.drop n1))=Rt.VQ (Rt.yV f) (ts.drop n):=by
   unfold Rt.VQ Rt.Xa;rw[Z]
  have a5:=hr1.le;go_wp2_with fail;go_loopg [3] (G ts-n1) (fun k _ wr=>∃(n2:Nat) (ov2:Value) (em2:List qM) (g:Nat),k=G ts-n2/\k < g/\n < n2/\G em2+n<=n2/\
   Rt.Yb em2 (Rt.pLoop (Rt.yV f) 7 9 g (ts.drop n2))=Rt.VQ (Rt.yV f) (ts.drop n)/\kC wr R tv ts n2 ov2 (U++em2)/\ZJ R ov ov2 w wr)
  case atStart=>exact⟨n1,ov1,em,25,rfl,by omega,hlt,hlen,hT,hr1,hfr1⟩
  case round=>
   obtain⟨n2,ov2,em2,g,hk,hg,hlt,hlen,hT,x,j⟩:=hrel;have O:=zD hT;have HK:=zD hk;obtain⟨g,rfl⟩:∃g',g=g'+1:=⟨g-1,by omega⟩;have a3:=hr.YH;by_cases hn:n2 < G ts
   ·have N:decide (n2 < G ts)=D:=by simpa using hn
    by_cases hx:Rt.yI ts[n2].text < 7\/9 < Rt.yI ts[n2].text
    ·have HE:=zD (lY O.u hn hx);go_wp2_with fail;refine(QL x).mono ?_;rintro e w2 ⟨rfl,q,rfl⟩;rw[N];obtain⟨o,d⟩:=x.quiet q;go_wp2_with fail;refine(KW o hn hx).mono ?_;rintro e w3 ⟨rfl,q2,rfl⟩;obtain⟨A,i⟩:=o.quiet q2;have L:=zD A;have h:=zD (j.trans (d.trans i));go_wp2;go_ret;exact Or.inl ⟨em2,n2,ov2,HE.u,rfl,hlen,hlt,L.u.same rfl,h.u.same rfl rfl rfl rfl⟩
    ·have h1:7<=Rt.yI ts[n2].text:=by omega
     have h2:Rt.yI ts[n2].text<=9:=by omega
     go_wp2_with fail;refine(QL x).mono ?_;rintro e w2 ⟨rfl,q,rfl⟩;rw[N];obtain⟨o,d⟩:=x.quiet q;go_wp2_with fail;refine(Jf o hn h1 h2).mono ?_;rintro e w3 ⟨rfl,A,i⟩;generalize F:Rt.yI ts[n2].text=code at *;have M:=zD F;go_wp2_with fail;refine(hf _ _ _ _ _ _ _ A J.u (by omega)).mono ?_;rintro e w4 (⟨em5,n5,T,z,rfl,a1,a4,H,y⟩| ⟨z,rfl,T,y⟩)
     ·have HN:=zD (lb O.u hn (by rw[M.u];exact h1) (by rw[M.u];exact h2) z);go_wp2_with fail;refine(XQ ⟨code,0,⟨#[]⟩⟩ H (by have:=H.YH;simp at this ⊢;omega)).mono ?_;rintro e w5 ⟨rfl,ov6,a0,I⟩;have L:=zD a0;have h:=zD (j.trans (d.trans (i.trans (y.trans I))));go_wp2;go_roundg (G ts-n5)
      case measure=>have:=HK.u;omega
      case rel=>exact⟨n5,ov6,em2++em5++[⟨code,0,⟨#[]⟩⟩],g,rfl,by have:=HK.u;omega,by omega,by simp;omega,by have:=HN.u;rw[M.u]at this;exact this,by have:=L.u;simpa using this,h.u⟩
     ·have HN:=zD (lZ O.u hn (by rw[M.u];exact h1) (by rw[M.u];exact h2) z);have h:=zD (j.trans (d.trans (i.trans y)));go_wp2;go_ret;exact Or.inr ⟨HN.u,rfl,_,h.u⟩
   ·have HE:=zD (pD O.u hn);have N:decide (n2 < G ts)=W:=by simpa using hn
    go_wp2_with fail;refine(QL x).mono ?_;rintro e w2 ⟨rfl,q,rfl⟩;rw[N];obtain⟨o,d⟩:=x.quiet q;have L:=zD o;have h:=zD (j.trans d);go_wp2;go_ret;exact Or.inl ⟨em2,n2,ov2,HE.u,rfl,hlen,hlt,L.u.same rfl,h.u.same rfl rfl rfl rfl⟩
 ·have HS:=zD Z;go_wp2;go_ret;exact Or.inr ⟨by simp[Rt.VQ,Rt.Xa,HS.u],rfl,_,hfr1⟩
theorem uM (hf:Reads f 227 (Rt.VQ (Rt.yV f))):Reads f 224 (Rt.VI (Rt.yV f)):=by
 intro w R tv ts n ov U hr V a2;have J:=zD V;have a6:=hr.VJ;go_enter func224,ntmps224;go_wp2_with fail;refine(hf _ _ _ _ _ _ _ hr J.u a2).mono ?_;rintro e w1 (⟨em,n1,ov1,Z,rfl,hlen,hlt,hr1,hfr1⟩| ⟨Z,rfl,ov1,hfr1⟩)
 ·have hT:Rt.Yb em (Rt.pLoop (Rt.VQ (Rt.yV f)) 5 6 25 (ts.drop n1))=Rt.VI (Rt.yV f) (ts.drop n):=by
   unfold Rt.VI Rt.Xa;rw[Z]
  have a5:=hr1.le;go_wp2_with fail;go_loopg [3] (G ts-n1) (fun k _ wr=>∃(n2:Nat) (ov2:Value) (em2:List qM) (g:Nat),k=G ts-n2/\k < g/\n < n2/\G em2+n<=n2/\
   Rt.Yb em2 (Rt.pLoop (Rt.VQ (Rt.yV f)) 5 6 g (ts.drop n2))=Rt.VI (Rt.yV f) (ts.drop n)/\kC wr R tv ts n2 ov2 (U++em2)/\ZJ R ov ov2 w wr)
  case atStart=>exact⟨n1,ov1,em,25,rfl,by omega,hlt,hlen,hT,hr1,hfr1⟩
  case round=>
   obtain⟨n2,ov2,em2,g,hk,hg,hlt,hlen,hT,x,j⟩:=hrel;have O:=zD hT;have HK:=zD hk;obtain⟨g,rfl⟩:∃g',g=g'+1:=⟨g-1,by omega⟩;have a3:=hr.YH;by_cases hn:n2 < G ts
   ·have N:decide (n2 < G ts)=D:=by simpa using hn
    by_cases hx:Rt.yI ts[n2].text < 5\/6 < Rt.yI ts[n2].text
    ·have HE:=zD (lY O.u hn hx);go_wp2_with fail;refine(QL x).mono ?_;rintro e w2 ⟨rfl,q,rfl⟩;rw[N];obtain⟨o,d⟩:=x.quiet q;go_wp2_with fail;refine(KW o hn hx).mono ?_;rintro e w3 ⟨rfl,q2,rfl⟩;obtain⟨A,i⟩:=o.quiet q2;have L:=zD A;have h:=zD (j.trans (d.trans i));go_wp2;go_ret;exact Or.inl ⟨em2,n2,ov2,HE.u,rfl,hlen,hlt,L.u.same rfl,h.u.same rfl rfl rfl rfl⟩
    ·have h1:5<=Rt.yI ts[n2].text:=by omega
     have h2:Rt.yI ts[n2].text<=6:=by omega
     go_wp2_with fail;refine(QL x).mono ?_;rintro e w2 ⟨rfl,q,rfl⟩;rw[N];obtain⟨o,d⟩:=x.quiet q;go_wp2_with fail;refine(Jf o hn h1 h2).mono ?_;rintro e w3 ⟨rfl,A,i⟩;generalize F:Rt.yI ts[n2].text=code at *;have M:=zD F;go_wp2_with fail;refine(hf _ _ _ _ _ _ _ A J.u (by omega)).mono ?_;rintro e w4 (⟨em5,n5,T,z,rfl,a1,a4,H,y⟩| ⟨z,rfl,T,y⟩)
     ·have HN:=zD (lb O.u hn (by rw[M.u];exact h1) (by rw[M.u];exact h2) z);go_wp2_with fail;refine(XQ ⟨code,0,⟨#[]⟩⟩ H (by have:=H.YH;simp at this ⊢;omega)).mono ?_;rintro e w5 ⟨rfl,ov6,a0,I⟩;have L:=zD a0;have h:=zD (j.trans (d.trans (i.trans (y.trans I))));go_wp2;go_roundg (G ts-n5)
      case measure=>have:=HK.u;omega
      case rel=>exact⟨n5,ov6,em2++em5++[⟨code,0,⟨#[]⟩⟩],g,rfl,by have:=HK.u;omega,by omega,by simp;omega,by have:=HN.u;rw[M.u]at this;exact this,by have:=L.u;simpa using this,h.u⟩
     ·have HN:=zD (lZ O.u hn (by rw[M.u];exact h1) (by rw[M.u];exact h2) z);have h:=zD (j.trans (d.trans (i.trans y)));go_wp2;go_ret;exact Or.inr ⟨HN.u,rfl,_,h.u⟩
   ·have HE:=zD (pD O.u hn);have N:decide (n2 < G ts)=W:=by simpa using hn
    go_wp2_with fail;refine(QL x).mono ?_;rintro e w2 ⟨rfl,q,rfl⟩;rw[N];obtain⟨o,d⟩:=x.quiet q;have L:=zD o;have h:=zD (j.trans d);go_wp2;go_ret;exact Or.inl ⟨em2,n2,ov2,HE.u,rfl,hlen,hlt,L.u.same rfl,h.u.same rfl rfl rfl rfl⟩
 ·have HS:=zD Z;go_wp2;go_ret;exact Or.inr ⟨by simp[Rt.VI,Rt.Xa,HS.u],rfl,_,hfr1⟩
theorem comparison_any (hf:Reads f 224 (Rt.VI (Rt.yV f))):Reads f 222 (Rt.pComp (Rt.yV f)):=by
 intro w R tv ts n ov a7 hr W a2;have M:=zD W;have a5:=hr.YH;go_enter func222,ntmps222;go_wp2_with fail;refine(hf _ _ _ _ _ _ _ hr M.u a2).mono ?_;rintro e w1 (⟨F,n1,A,H,rfl,y,J,k,h⟩| ⟨H,rfl,A,h⟩)
 ·by_cases hn:n1 < G ts
  ·by_cases hx:Rt.yI ts[n1].text < 10\/11 < Rt.yI ts[n1].text
   ·have z:Hd (Rt.pComp (Rt.yV f) (ts.drop n)=Q (F,ts.drop n1)):=by
     refine zD ?_;unfold Rt.pComp;rw[H,ql hn];simp only;rw[zA (by omega)]
    go_wp2_with fail;refine(KW k hn hx).mono ?_;rintro e w3 ⟨rfl,O,rfl⟩;obtain⟨j,d⟩:=k.quiet O;have N:=zD j;have i:=zD (h.trans d);go_wp2;go_ret;exact Or.inl ⟨F,n1,A,z.u,rfl,y,J,N.u,i.u⟩
   ·have h1:10<=Rt.yI ts[n1].text:=by omega
    have h2:Rt.yI ts[n1].text<=11:=by omega
    have z:Hd (∀x,Rt.VI (Rt.yV f) (ts.drop (n1+1))=x->Rt.pComp (Rt.yV f) (ts.drop n)=(match x with | none=>none | some (e',r')=>some (F++e'++[⟨Rt.yI ts[n1].text,0,⟨#[]⟩⟩],r'))):=by
     refine zD ?_;intro x V;unfold Rt.pComp;rw[H,ql hn];simp only;rw[zE ⟨h1,h2⟩,V];cases x <;> rfl
    go_wp2_with fail;refine(Jf k hn h1 h2).mono ?_;rintro e w3 ⟨rfl,j,d⟩;generalize a3:Rt.yI ts[n1].text=code at *;go_wp2_with fail;refine(hf _ _ _ _ _ _ _ j M.u (by omega)).mono ?_;rintro e w4 (⟨a4,n5,U,D,rfl,a1,a6,I,o⟩| ⟨D,rfl,U,o⟩)
    ·have HN:=zD (z.u _ D);go_wp2_with fail;refine(XQ ⟨code,0,⟨#[]⟩⟩ I (by have:=I.YH;simp at this ⊢;omega)).mono ?_;rintro e w5 ⟨rfl,T,a0,L⟩;have N:=zD a0;have i:=zD (h.trans (d.trans (o.trans L)));go_wp2;go_ret;exact Or.inl ⟨F++a4++[⟨code,0,⟨#[]⟩⟩],n5,T,HN.u,rfl,by simp;omega,by omega,by have:=N.u;simpa using this,i.u⟩
    ·have HN:=zD (z.u _ D);have i:=zD (h.trans (d.trans o));go_wp2;go_ret;exact Or.inr ⟨HN.u,rfl,_,i.u⟩
  ·have z:Hd (Rt.pComp (Rt.yV f) (ts.drop n)=Q (F,ts.drop n1)):=by
    refine zD ?_;unfold Rt.pComp;rw[H,vW hn]
   go_wp2_with fail;refine(nB k hn).mono ?_;rintro e w3 ⟨rfl,O,rfl⟩;obtain⟨j,d⟩:=k.quiet O;have N:=zD j;have i:=zD (h.trans d);go_wp2;go_ret;exact Or.inl ⟨F,n1,A,z.u,rfl,y,J,N.u,i.u⟩
 ·have z:Hd (Rt.pComp (Rt.yV f) (ts.drop n)=Z):=by
   refine zD ?_;unfold Rt.pComp;rw[H]
  go_wp2;go_ret;exact Or.inr ⟨z.u,rfl,_,h⟩
theorem mZ {ops:List qM} (d:kC w R tv ts n ov ops) (f:¬n < G ts):Calls Tryz.prog 230 #[H (Q ⟨R,0,Z⟩)] w fun e w'=>e=T (A W)/\∃q,w'=w.drewN q:=by
 go_enter func230,ntmps230;go_wp2_with fail;refine(oj d f).mono ?_;rintro e h ⟨rfl,i,rfl⟩;go_wp2;go_ret;exact⟨by simp,_,rfl⟩
def Qi (f:Nat) (t:Rt.Tk) (r:List Rt.Tk):Rt.JX:=if t.kind=1/\Rt.aL t.text=W then Rt.pVar (Rt.pComp (Rt.yV f)) t.text r else Z
theorem ma (hf:Reads f 222 (Rt.pComp (Rt.yV f))) {ops:List qM} (hr:kC w R tv ts n ov ops) (a0:∀t∈ts,t.text.size<=40000) (hn:n < G ts) (a7:G ts-(n+1)<=f):Calls Tryz.prog 230 #[H (Q ⟨R,0,Z⟩)] w fun e w'=>
   (∃em n' ov',Qi f ts[n] (ts.drop (n+1))=Q (em,ts.drop n')/\e=T (A D)/\G em+n<=n'/\n < n'/\kC w' R tv ts n' ov' (ops++em)/\ZJ R ov ov' w w')\/
   (Qi f ts[n] (ts.drop (n+1))=Z/\e=T (A W)/\∃ov',ZJ R ov ov' w w'):=by
 have a3:=zD a0;have a4:=hr.YH;go_enter func230,ntmps230;go_wp2_with fail;refine(Zh _ _ _ _ _ _ _ hr hn).mono ?_;rintro e w1 (⟨hk,hv,rfl,x,i⟩| ⟨hk,rfl,x,i⟩)
 ·have HV:Hd (Qi f ts[n] (ts.drop (n+1))=Rt.pVar (Rt.pComp (Rt.yV f)) ts[n].text (ts.drop (n+1))):=by
   refine zD ?_;unfold Qi;rw[zE ⟨hk,hv⟩]
  generalize ts[n].text=nm at *;by_cases hn1:n+1 < G ts
  ·by_cases hx:ts[n+1].text=⟨#[91]⟩
   ·have O:Hd (Qi f ts[n] (ts.drop (n+1))=Rt.closed ⟨#[93]⟩ [⟨3,0,nm⟩] (Rt.pComp (Rt.yV f) (ts.drop (n+1+1)))):=by
     refine zD ?_;rw[HV.u,ql hn1,Rt.pVar,zE hx]
    go_wp2_with fail;refine(JD _ x hn1 hx).mono ?_;rintro e w2 ⟨rfl,F,h⟩;go_wp2_with fail;refine(hf _ _ _ _ _ _ _ F a3.u (by omega)).mono ?_;rintro e w4 (⟨M,n5,V,I,rfl,a2,a5,J,o⟩| ⟨I,rfl,V,o⟩)
    ·have a6:=J.le;rw[I]at O;go_wp2_with fail;refine(XQ ⟨3,0,nm⟩ J (by have:=J.YH;simp at this ⊢;omega)).mono ?_;rintro e w5 ⟨rfl,z,k,j⟩;by_cases hn5:n5 < G ts
     ·by_cases hx5:ts[n5].text=⟨#[93]⟩
      ·have y:Hd (Qi f ts[n] (ts.drop (n+1))=Q (M++[⟨3,0,nm⟩],ts.drop (n5+1))):=by
        refine zD ?_;rw[O.u,ql hn5,Rt.closed,zE hx5]
       go_wp2_with fail;refine(JD _ k hn5 hx5).mono ?_;rintro e U ⟨rfl,a1,L⟩;have N:=zD a1;have d:=zD (i.trans (h.trans (o.trans (j.trans L))));go_wp2;go_ret;exact Or.inl ⟨M++[⟨3,0,nm⟩],n5+1,z,y.u,rfl,by simp;omega,by omega,by have:=N.u;simpa using this,d.u⟩
      ·have y:Hd (Qi f ts[n] (ts.drop (n+1))=Z):=by
        refine zD ?_;rw[O.u,ql hn5,Rt.closed,zA hx5]
       go_wp2_with fail;refine(mb _ k hn5 hx5).mono ?_;rintro e U ⟨rfl,q,rfl⟩;have d:=zD (i.trans (h.trans (o.trans (j.trans (k.quiet q).2))));go_wp2;go_ret;exact Or.inr ⟨y.u,rfl,_,d.u⟩
     ·have y:Hd (Qi f ts[n] (ts.drop (n+1))=Z):=by
       refine zD ?_;rw[O.u,vW hn5,Rt.closed]
      go_wp2_with fail;refine(fE _ k hn5).mono ?_;rintro e U ⟨rfl,q,rfl⟩;have d:=zD (i.trans (h.trans (o.trans (j.trans (k.quiet q).2))));go_wp2;go_ret;exact Or.inr ⟨y.u,rfl,_,d.u⟩
    ·have y:Hd (Qi f ts[n] (ts.drop (n+1))=Z):=by
      refine zD ?_;rw[O.u,I,Rt.closed]
     have d:=zD (i.trans (h.trans o));go_wp2;go_ret;exact Or.inr ⟨y.u,rfl,_,d.u⟩
   ·have y:Hd (Qi f ts[n] (ts.drop (n+1))=Q ([⟨2,0,nm⟩],ts.drop (n+1))):=by
     refine zD ?_;rw[HV.u,ql hn1,Rt.pVar,zA hx]
    go_wp2_with fail;refine(mb _ x hn1 hx).mono ?_;rintro e U ⟨rfl,q,rfl⟩;obtain⟨F,h⟩:=x.quiet q;go_wp2_with fail;refine(XQ ⟨2,0,nm⟩ F (by omega)).mono ?_;rintro e w5 ⟨rfl,z,k,j⟩;have N:=zD k;have d:=zD (i.trans (h.trans j));go_wp2;go_ret;exact Or.inl ⟨[⟨2,0,nm⟩],n+1,z,y.u,rfl,by simp;omega,by omega,N.u,d.u⟩
  ·have y:Hd (Qi f ts[n] (ts.drop (n+1))=Q ([⟨2,0,nm⟩],ts.drop (n+1))):=by
    refine zD ?_;rw[HV.u,vW hn1,Rt.pVar]
   go_wp2_with fail;refine(fE _ x hn1).mono ?_;rintro e U ⟨rfl,q,rfl⟩;obtain⟨F,h⟩:=x.quiet q;go_wp2_with fail;refine(XQ ⟨2,0,nm⟩ F (by omega)).mono ?_;rintro e w5 ⟨rfl,z,k,j⟩;have N:=zD k;have d:=zD (i.trans (h.trans j));go_wp2;go_ret;exact Or.inl ⟨[⟨2,0,nm⟩],n+1,z,y.u,rfl,by simp;omega,by omega,N.u,d.u⟩
 ·have y:Hd (Qi f ts[n] (ts.drop (n+1))=Z):=by
   refine zD ?_;unfold Qi;rw[zA hk]
  have d:=zD i;go_wp2;go_ret;exact Or.inr ⟨y.u,rfl,_,d.u⟩
theorem Ku {ops:List qM} (x:Ia) (d:kC w R tv ts n ov ops) (f:¬n < G ts):Calls Tryz.prog 216 #[H (Q ⟨R,0,Z⟩),O x] w fun e w'=>e=T (A W)/\kC w' R tv ts n ov ops/\ZJ R ov ov w w':=
 (fE x d f).mono (by rintro e w' ⟨rfl,q,rfl⟩;exact⟨rfl,d.quiet q⟩)
theorem X9 {ops:List qM} (x:Ia) (d:kC w R tv ts n ov ops) (h:n < G ts) (f:¬ts[n].text=x):Calls Tryz.prog 216 #[H (Q ⟨R,0,Z⟩),O x] w fun e w'=>e=T (A W)/\kC w' R tv ts n ov ops/\ZJ R ov ov w w':=
 (mb x d h f).mono (by rintro e w' ⟨rfl,q,rfl⟩;exact⟨rfl,d.quiet q⟩)
theorem da {ops:List qM} (d:kC w R tv ts n ov ops) (f:¬n < G ts):Calls Tryz.prog 214 #[H (Q ⟨R,0,Z⟩)] w fun e w'=>e=T (E #[J U 0,A W])/\kC w' R tv ts n ov ops/\ZJ R ov ov w w':=
 (sa d f).mono (by rintro e w' ⟨rfl,q,rfl⟩;exact⟨rfl,d.quiet q⟩)
theorem ff {ops:List qM} (d:kC w R tv ts n ov ops) (f:n < G ts) (h:¬ts[n].kind=2):Calls Tryz.prog 214 #[H (Q ⟨R,0,Z⟩)] w fun e w'=>e=T (E #[J U 0,A W])/\kC w' R tv ts n ov ops/\ZJ R ov ov w w':=
 (AX d f h).mono (by rintro e w' ⟨rfl,q,rfl⟩;exact⟨rfl,d.quiet q⟩)
theorem iR {ops:List qM} (d:kC w R tv ts n ov ops) (f:¬n < G ts):Calls Tryz.prog 230 #[H (Q ⟨R,0,Z⟩)] w fun e w'=>e=T (A W)/\kC w' R tv ts n ov ops/\ZJ R ov ov w w':=
 (mZ d f).mono (by rintro e w' ⟨rfl,q,rfl⟩;exact⟨rfl,d.quiet q⟩)
theorem Ab {ops:List qM} (d:kC w R tv ts n ov ops) (f:¬n < G ts):Calls Tryz.prog 213 #[H (Q ⟨R,0,Z⟩)] w fun e w'=>e=T (E #[O ⟨#[]⟩,A W])/\kC w' R tv ts n ov ops/\ZJ R ov ov w w':=
 (oj d f).mono (by rintro e w' ⟨rfl,q,rfl⟩;exact⟨rfl,d.quiet q⟩)
theorem gW {ops:List qM} (D:kC w R tv ts n ov ops) (j:¬n < G ts):Calls Tryz.prog 229 #[H (Q ⟨R,0,Z⟩)] w fun e w'=>e=T (A W)/\kC w' R tv ts n ov ops/\ZJ R ov ov w w':=by
 go_enter func229,ntmps229;go_wp2_with fail;refine(Ku _ D j).mono ?_;rintro e w1 ⟨rfl,y,i⟩;go_wp2_with fail;refine(Ku _ y j).mono ?_;rintro e w2 ⟨rfl,x,h⟩;go_wp2_with fail;refine(da x j).mono ?_;rintro e J ⟨rfl,o,f⟩;go_wp2_with fail;refine(iR o j).mono ?_;rintro e I ⟨rfl,k,d⟩;have F:=zD k;have z:=zD (i.trans (h.trans (f.trans d)));go_wp2;go_ret;exact⟨rfl,F.u,z.u⟩
theorem factor_any (hf:Reads f 229 (Rt.yV f)) (hc:Reads f 222 (Rt.pComp (Rt.yV f))):Reads (f+1) 229 (Rt.yV (f+1)):=by
 intro w R tv ts n ov a5 hr a1 a6;by_cases hn:n < G ts
 case neg=>
  refine(gW hr hn).mono ?_;rintro e w1 ⟨rfl,_,a2⟩;exact Or.inr ⟨by rw[vW hn,Rt.yV],rfl,_,a2⟩
 have N:=zD a1;have a3:=hr.YH;by_cases hm:ts[n].text=⟨#[45]⟩
 ·have F:Hd (∀x,Rt.yV f (ts.drop (n+1))=x->Rt.yV (f+1) (ts.drop n)=(match x with | none=>none | some (e',r')=>some (e'++[⟨4,0,⟨#[]⟩⟩],r'))):=by
   refine zD ?_;intro x hx;rw[ql hn,Rt.yV,zE hm,hx];cases x <;> rfl
  go_enter func229,ntmps229;go_wp2_with fail;refine(JD _ hr hn hm).mono ?_;rintro e w1 ⟨rfl,A,h⟩;go_wp2_with fail;refine(hf _ _ _ _ _ _ _ A N.u (by omega)).mono ?_;rintro e w4 (⟨L,n5,z,k,rfl,I,O,o,d⟩| ⟨k,rfl,z,d⟩)
  ·have HN:=zD (F.u _ k);go_wp2_with fail;refine(XQ ⟨4,0,⟨#[]⟩⟩ o (by have:=o.YH;simp at this ⊢;omega)).mono ?_;rintro e w5 ⟨rfl,T,V,J⟩;have HR:=zD V;have i:=zD (h.trans (d.trans J));go_wp2;go_ret;exact Or.inl ⟨L++[⟨4,0,⟨#[]⟩⟩],n5,T,HN.u,rfl,by simp;omega,by omega,by have:=HR.u;simpa using this,i.u⟩
  ·have HN:=zD (F.u _ k);have i:=zD (h.trans d);go_wp2;go_ret;exact Or.inr ⟨HN.u,rfl,_,i.u⟩
 by_cases hp:ts[n].text=⟨#[40]⟩
 ·have F:Hd (Rt.yV (f+1) (ts.drop n)=Rt.closed ⟨#[41]⟩ [] (Rt.pComp (Rt.yV f) (ts.drop (n+1)))):=by
   refine zD ?_;rw[ql hn,Rt.yV,zA hm,zE hp]
  go_enter func229,ntmps229;go_wp2_with fail;refine(X9 _ hr hn hm).mono ?_;rintro e w0 ⟨rfl,H,j⟩;go_wp2_with fail;refine(JD _ H hn hp).mono ?_;rintro e w1 ⟨rfl,A,h⟩;go_wp2_with fail;refine(hc _ _ _ _ _ _ _ A N.u (by omega)).mono ?_;rintro e w4 (⟨L,n5,z,k,rfl,I,O,o,d⟩| ⟨k,rfl,z,d⟩)
  ·have a4:=o.le;rw[k]at F;by_cases hn5:n5 < G ts
   ·by_cases hx5:ts[n5].text=⟨#[41]⟩
    ·have M:Hd (Rt.yV (f+1) (ts.drop n)=Q (L,ts.drop (n5+1))):=by
      refine zD ?_;rw[F.u,ql hn5,Rt.closed,zE hx5,yX]
     go_wp2_with fail;refine(JD _ o hn5 hx5).mono ?_;rintro e w6 ⟨rfl,U,y⟩;have HR:=zD U;have i:=zD (j.trans (h.trans (d.trans y)));go_wp2;go_ret;exact Or.inl ⟨L,n5+1,z,M.u,rfl,by omega,by omega,HR.u,i.u⟩
    ·have M:Hd (Rt.yV (f+1) (ts.drop n)=Z):=by
      refine zD ?_;rw[F.u,ql hn5,Rt.closed,zA hx5]
     go_wp2_with fail;refine(X9 _ o hn5 hx5).mono ?_;rintro e w6 ⟨rfl,U,y⟩;have i:=zD (j.trans (h.trans (d.trans y)));go_wp2;go_ret;exact Or.inr ⟨M.u,rfl,_,i.u⟩
   ·have M:Hd (Rt.yV (f+1) (ts.drop n)=Z):=by
     refine zD ?_;rw[F.u,vW hn5,Rt.closed]
    go_wp2_with fail;refine(Ku _ o hn5).mono ?_;rintro e w6 ⟨rfl,U,y⟩;have i:=zD (j.trans (h.trans (d.trans y)));go_wp2;go_ret;exact Or.inr ⟨M.u,rfl,_,i.u⟩
  ·have M:Hd (Rt.yV (f+1) (ts.drop n)=Z):=by
    refine zD ?_;rw[F.u,k,Rt.closed]
   have i:=zD (j.trans (h.trans d));go_wp2;go_ret;exact Or.inr ⟨M.u,rfl,_,i.u⟩
 by_cases hk:ts[n].kind=2
 ·have F:Hd (Rt.yV (f+1) (ts.drop n)=Q ([⟨1,Rt.val ts[n].text,⟨#[]⟩⟩],ts.drop (n+1))):=by
   refine zD ?_;rw[ql hn,Rt.yV,zA hm,zA hp,zE hk]
  have a0:ts[n].text.size<=maxLen:=by
   have:=N.u ts[n] (zj hn);unfold maxLen;omega
  go_enter func229,ntmps229;go_wp2_with fail;refine(X9 _ hr hn hm).mono ?_;rintro e w0 ⟨rfl,H,j⟩;go_wp2_with fail;refine(X9 _ H hn hp).mono ?_;rintro e w1 ⟨rfl,A,h⟩;go_wp2_with fail;refine(fe A hn hk a0).mono ?_;rintro e w2 ⟨rfl,W,D⟩;go_wp2_with fail;refine(XQ ⟨1,Rt.val ts[n].text,⟨#[]⟩⟩ W (by omega)).mono ?_;rintro e w5 ⟨rfl,T,V,J⟩;have HR:=zD V;have i:=zD (j.trans (h.trans (D.trans J)));go_wp2;go_ret;exact Or.inl ⟨_,n+1,T,F.u,rfl,by simp;omega,by omega,HR.u,i.u⟩
 ·have F:Hd (Rt.yV (f+1) (ts.drop n)=Qi f ts[n] (ts.drop (n+1))):=by
   refine zD ?_;rw[ql hn,Rt.yV,zA hm,zA hp,zA hk];rfl
  go_enter func229,ntmps229;go_wp2_with fail;refine(X9 _ hr hn hm).mono ?_;rintro e w0 ⟨rfl,H,j⟩;go_wp2_with fail;refine(X9 _ H hn hp).mono ?_;rintro e w1 ⟨rfl,A,h⟩;go_wp2_with fail;refine(ff A hn hk).mono ?_;rintro e w2 ⟨rfl,W,D⟩;go_wp2_with fail;refine(ma hc W N.u hn (by omega)).mono ?_;rintro e w4 (⟨L,n5,z,k,rfl,I,O,o,d⟩| ⟨k,rfl,z,d⟩)
  ·have M:=zD (F.u.trans k);have HR:=zD o;have i:=zD (j.trans (h.trans (D.trans d)));go_wp2;go_ret;exact Or.inl ⟨_,n5,z,M.u,rfl,by omega,by omega,HR.u,i.u⟩
  ·have M:=zD (F.u.trans k);have i:=zD (j.trans (h.trans (D.trans d)));go_wp2;go_ret;exact Or.inr ⟨M.u,rfl,_,i.u⟩
theorem tY (f:Nat):Reads f 229 (Rt.yV f):=by
 induction f with
 | zero=>
  intro w R tv o n ov h j i k;refine(gW j (by omega)).mono ?_;rintro e w1 ⟨rfl,_,d⟩;exact Or.inr ⟨by rw[Rt.yV],rfl,_,d⟩
 | succ f ih=>exact factor_any ih (comparison_any (uM (ns ih)))
theorem gl (f:Nat):Reads f 222 (Rt.pComp (Rt.yV f)):=comparison_any (uM (ns (tY f)))
abbrev zg:Value:=I Z 0 0
theorem ZJ.YS (h:ZJ R a b w w1) (d:w.heap.size<=N) (v:Value):ZJ R a b w (w1.setCell ⟨N,i,Z⟩ v):=
 ⟨h.os,h.tape,h.output,by have:=h.size;simp[World.setCell];omega,fun k hk h1 h2=>(zO w1 ⟨N,i,Z⟩ v k (by show k≠N;omega)).trans (h.block k hk h1 h2),h.own⟩
theorem yk (h:w.ownsRow base e size v n xs) {a:Addr} (d:∀g,v.ownBlock=Q g->g≠a.block) (u:Value):(w.setCell a u).ownsRow base e size v n xs:=by
 obtain⟨f,h2⟩:=h;refine⟨f,?_⟩;rcases h2 with h2 | ⟨g,cap,cur,hv,hg,hh,r⟩
 ·exact Or.inl h2
 ·exact Or.inr ⟨g,cap,cur,hv,hg,by rw[zO _ _ _ _ (d g (by rw[hv];rfl))];exact hh,r⟩
theorem kC.setOther {ops:List qM} (f:kC w R tv ts n ov ops) (A:R < N) (z:∀g,ov.ownBlock=Q g->g≠N) (v:Value):kC (w.setCell ⟨N,i,Z⟩ v) R tv ts n ov ops:=by
 have d:∀k,k≠N->(w.setCell ⟨N,i,Z⟩ v).heap[k]?=w.heap[k]?:=fun k hk=>zO w ⟨N,i,Z⟩ v k hk;refine⟨f.le,f.VJ,f.YH,by rw[d R (by omega)];exact f.block,?_,yk f.own z v⟩;obtain⟨b,cap,rfl,x,y⟩:=f.yY;have o:∀j,(w.setCell ⟨N,i,Z⟩ v).cell? ⟨b,j,Z⟩=w.cell? ⟨b,j,Z⟩:=fun j=>xG (w:=w) (d b (by omega));exact⟨b,cap,rfl,x,fun i h=>⟨by rw[o];exact(y i h).1,by rw[o];exact(y i h).2⟩⟩
theorem kC.clear {ops:List qM} (f:kC w R tv ts n ov ops):kC (w.setCell ⟨R,2,Z⟩ zg) R tv ts n zg []/\ZJ R ov zg w (w.setCell ⟨R,2,Z⟩ zg)/\(w.setCell ⟨R,2,Z⟩ zg).ownsRow (R+1) 236 3 ov (G ops) (xX ops):=by
 have d:∀k,k≠R->(w.setCell ⟨R,2,Z⟩ zg).heap[k]?=w.heap[k]?:=fun k hk=>zO w ⟨R,2,Z⟩ _ k hk;refine⟨⟨f.le,f.VJ,by simp,?_,?_,zW _ _ _ _⟩,⟨rfl,rfl,rfl,by simp[World.setCell],fun k _ h1 _=>d k h1,fun g h=>by cases h⟩,?_⟩
 ·show (w.heap.modify R _)[R]?=_;rw[ZD];simp[f.block]
 ·obtain⟨b,cap,rfl,x,y⟩:=f.yY;have o:∀j,(w.setCell ⟨R,2,Z⟩ zg).cell? ⟨b,j,Z⟩=w.cell? ⟨b,j,Z⟩:=fun j=>xG (w:=w) (d b (by omega));exact⟨b,cap,rfl,x,fun i h=>⟨by rw[o];exact(y i h).1,by rw[o];exact(y i h).2⟩⟩
 ·exact qL f.own (by show R < R+1;omega) _
theorem ZZ (U:kC w R tv ts n zg []) (I:∀t∈ts,t.text.size<=40000):Calls Tryz.prog 215 #[H (Q ⟨R,0,Z⟩)] w fun e w'=>
   (∃em n' xv,Rt.Z1 (ts.drop n)=Q (em,ts.drop n')/\e=T (E #[L #[xv],A D])/\n < n'/\G em<=n'/\kC w' R tv ts n' zg []/\
    w'.ownsRow w.heap.size 236 3 xv (G em) (xX em)/\ZJ R zg zg w w')\/
   (Rt.Z1 (ts.drop n)=Z/\e=T (E #[L #[zg],A W])/\∃ov,ZJ R zg ov w w'):=by
 have a3:=U.VJ;have a1:=zD I;have a0:R < w.heap.size:=zt w _ (zC U.block 0 (by simp));go_enter func215,ntmps215;go_wp2_with fail;obtain⟨O,f⟩:=U.zP ((zI w.heap.size w).alloc (zB _) (V #[zg] 140));refine(gl 24 _ _ _ _ _ _ _ O a1.u (by omega)).mono ?_;rintro e w1 (⟨em,n1,o,J,rfl,a2,x,d,hfr1⟩| ⟨J,rfl,o,hfr1⟩)
 ·rw[xN]at d;have z:w1.heap[w.heap.size]?=Q (V #[zg] 140 (0,0)):=by
   rw[hfr1.block w.heap.size (by simp) (by omega) (by simp[Value.ownBlock])];exact zN w _
  have hg:∀g,o.ownBlock=Q g->w.heap.size < g:=fun g hg=>by
   rcases hfr1.own g hg with h | h
   ·cases h
   ·simp at h;omega
  obtain⟨ad,cap,rfl⟩:=zK d.own;have HS:=zD J;have c2:=zC d.block 2 (by simp);have f2:=zS d.block 2;have F:=zC z 0 (by simp);have fN:=zS z 0;simp at c2 F;obtain⟨M,y,j⟩:=d.clear;have HR:=zD (M.setOther (N:=w.heap.size) (i:=0) a0 (by intro g h;cases h) (Value.slice ad (G em) cap));have k:=zD ((f.trans (hfr1.trans y)).YS (N:=w.heap.size) (i:=0) (zB _) (Value.slice ad (G em) cap));have HO:=zD (Je (b':=w.heap.size) (yk j (a:=⟨w.heap.size,0,Z⟩) (fun g h=>by have:=hg g h;show g≠w.heap.size;omega) (Value.slice ad (G em) cap)) (fun g h=>by have:=hg g h;omega));go_wp2_with fail;refine zT (v:=E #[L #[Value.slice ad (G em) cap],A D]) ?_ rfl (Or.inl ⟨em,n1,_,HS.u,rfl,x,by omega,HR.u,HO.u,k.u⟩);simp[results,results215,go_sem,F]
 ·have z:w1.heap[w.heap.size]?=Q (V #[zg] 140 (0,0)):=by
   rw[hfr1.block w.heap.size (by simp) (by omega) (by simp[Value.ownBlock])];exact zN w _
  have F:=zC z 0 (by simp);have fN:=zS z 0;simp at F;have HS:=zD J;have k:=zD ((f.trans hfr1).YS (N:=w.heap.size) (i:=0) (zB _) zg);go_wp2_with fail;refine zT (v:=E #[L #[zg],A W]) ?_ rfl (Or.inr ⟨HS.u,rfl,_,k.u⟩);simp[results,results215,go_sem,F]
theorem JH {ops:List qM} (i:kC w R tv ts n ov ops):Calls Tryz.prog 213 #[H (Q ⟨R,0,Z⟩)] w fun e w'=>
   (∃nm,n < G ts/\Rt.kE (ts.drop n)=Q (nm,ts.drop (n+1))/\e=T (E #[O nm,A D])/\kC w' R tv ts (n+1) ov ops/\ZJ R ov ov w w')\/
   (Rt.kE (ts.drop n)=Z/\e=T (E #[O ⟨#[]⟩,A W])/\kC w' R tv ts n ov ops/\ZJ R ov ov w w'):=by
 by_cases hn:n < G ts
 ·refine(Zh w R tv ts n ov ops i hn).mono ?_;rintro e w' (⟨h,j,rfl,f,d⟩| ⟨h,rfl,f,d⟩)
  ·exact Or.inl ⟨_,hn,by rw[ql hn,Rt.kE,zE ⟨h,j⟩],rfl,f,d⟩
  ·exact Or.inr ⟨by rw[ql hn,Rt.kE,zA h],rfl,f,d⟩
 ·refine(Ab i hn).mono ?_;rintro e w' ⟨rfl,f,d⟩;exact Or.inr ⟨by rw[vW hn,Rt.kE],rfl,f,d⟩
def qi (w:World) (B:Nat):List Value->List (List qM)->Prop
 | [],[]=>True
 | x::xs,o::os=>w.ownsRow B 236 3 x o.length (xX o)/\qi w B xs os
 | _,_=>False
def qk (w:World) (B:Nat) (v:Array Value) (fm:Rt.qS):Prop:=
 ∃pv iv vv vs,v=#[J U fm.kind,O fm.name,J U fm.cells,pv,iv,vv]/\w.ownsRow B 9 1 pv (G fm.params) (fm.params.map Value.string)/\
  w.ownsRow B 236 3 iv (G fm.index) (xX fm.index)/\w.ownsRow B 140 1 vv (G fm.values) vs/\qi w B vs fm.values
abbrev yo:Array Value:=#[J U 0,O ⟨#[]⟩,J U 0,zg,zg,zg]
def YQ (spec:List Rt.Tk->eG) (R:Nat) (tv:Value) (ts:List Rt.Tk) (n:Nat) (w:World) (e:Ending) (w':World):Prop:=
 (∃fm n' fv,spec (ts.drop n)=Q (fm,ts.drop n')/\e=T (E #[L fv,A D])/\kC w' R tv ts n' zg []/\qk w' w.heap.size fv fm/\ZJ R zg zg w w')\/
 (spec (ts.drop n)=Z/\e=T (E #[L yo,A W])/\∃ov,ZJ R zg ov w w')
abbrev W6 (w:World) (N:Nat) (a b c d e f:Value):World:=
 (((((w.setCell ⟨N,0,Z⟩ a).setCell ⟨N,1,Z⟩ b).setCell ⟨N,2,Z⟩ c).setCell ⟨N,3,Z⟩ d).setCell ⟨N,4,Z⟩ e).setCell ⟨N,5,Z⟩ f
theorem ZJ.jM {y:Value} (h:ZJ R x y w w1) (i:w.heap.size<=N) (a b c d e f:Value):ZJ R x y w (W6 w1 N a b c d e f):=
 (((((h.YS i a).YS i b).YS i c).YS i d).YS i e).YS i f
theorem kC.jM (k:kC w R tv ts n zg []) (j:R < N) (a b c d e f:Value):kC (W6 w N a b c d e f) R tv ts n zg []:=
 have i:∀g,(zg:Value).ownBlock=some g->g≠N:=by intro g h;cases h
 (((((k.setOther j i a).setOther j i b).setOther j i c).setOther j i d).setOther j i e).setOther j i f
theorem ZU (h:w.ownsRow base t size v n xs) (i:∀g,v.ownBlock=Q g->g≠N) (a b c d e f:Value):(W6 w N a b c d e f).ownsRow base t size v n xs:=
 yk (yk (yk (yk (yk (yk h i a) i b) i c) i d) i e) i f
def Six (w:World) (N:Nat) (a b c d e f:Value):Prop:=
 w.cell? ⟨N,0,Z⟩=Q a/\w.cell? ⟨N,1,Z⟩=Q b/\w.cell? ⟨N,2,Z⟩=Q c/\w.cell? ⟨N,3,Z⟩=Q d/\w.cell? ⟨N,4,Z⟩=Q e/\w.cell? ⟨N,5,Z⟩=Q f/\
 w.frozen? ⟨N,0,Z⟩=W/\w.frozen? ⟨N,1,Z⟩=W/\w.frozen? ⟨N,2,Z⟩=W/\w.frozen? ⟨N,3,Z⟩=W/\w.frozen? ⟨N,4,Z⟩=W/\w.frozen? ⟨N,5,Z⟩=W
theorem YD {e f:Value} (h:w.heap[N]?=Q (V #[a,b,c,d,e,f] t (0,0))):Six w N a b c d e f:=
 ⟨zC h 0 (by simp),zC h 1 (by simp),zC h 2 (by simp),zC h 3 (by simp),zC h 4 (by simp),zC h 5 (by simp),
  zS h 0,zS h 1,zS h 2,zS h 3,zS h 4,zS h 5⟩
theorem vM {kind:Int} {cells:Int}:qk w B #[J U kind,O nm,J U cells,zg,zg,zg] ⟨kind,nm,cells,[],[],[]⟩:=
 ⟨zg,zg,zg,[],rfl,zW _ _ _ _,zW _ _ _ _,zW _ _ _ _,trivial⟩
theorem lT (d:Int) (o:kC w R tv ts n zg []):Calls Tryz.prog 196 #[H (Q ⟨R,0,Z⟩),J U d] w (YQ (Rt.pNamed d) R tv ts n w):=by
 have x:R < w.heap.size:=zt w _ (zC o.block 0 (by simp));go_enter func196,ntmps196;go_wp2_with fail;obtain⟨j,i⟩:=o.zP ((zI w.heap.size w).alloc (zB _) (V yo 143));refine(JH j).mono ?_;intro e w1 hpost;have f:ZJ R zg zg (w.alloc (V yo 143)) w1:=by rcases hpost with⟨_,_,_,_,_,h⟩| ⟨_,_,_,h⟩ <;> exact h
 have z:w1.heap[w.heap.size]?=Q (V yo 143 (0,0)):=by
  rw[f.block w.heap.size (by simp) (by omega) (by simp[Value.ownBlock])];exact zN w _
 obtain⟨T,N,M,I,G,F,f0,f1,f2,f3,f4,f5⟩:=YD z;have k:=zD (i.trans f);clear j f z i;rcases hpost with⟨nm,hn,hs,rfl,hr1,_⟩| ⟨hs,rfl,hr1,_⟩
 ·have HR:=zD hr1;have y:=zD hs;clear hr1 hs o;go_wp2_with fail;refine zT (v:=E #[L #[J U d,O nm,J U 0,zg,zg,zg],A D]) ?_ rfl
   (Or.inl ⟨_,n+1,_,by rw[Rt.pNamed,y.u],rfl,HR.u.jM x _ _ _ _ _ _,vM,k.u.jM (zB _) _ _ _ _ _ _⟩);simp[results,results196,go_sem,T,N,M,I,G,F]
 ·have y:=zD hs;clear hr1 hs o;go_wp2_with fail;refine zT (v:=E #[L yo,A W]) ?_ rfl
   (Or.inr ⟨by rw[Rt.pNamed,y.u],rfl,_,k.u.jM (zB _) _ _ _ _ _ _⟩);simp[results,results196,go_sem,T,N,M,I,G,F]
theorem ZJ.alloc {R:Nat} {a b:Value} {w w1:World} (h:ZJ R a b w w1) (o:Obj):ZJ R a b w (w1.alloc o):=
 ⟨h.os,h.tape,h.output,by have:=h.size;simp;omega,fun k hk h1 h2=>(jx w1 o k (zX hk h.size)).trans (h.block k hk h1 h2),h.own⟩
theorem KS (w:World) (B:Nat) (e:TypeId) (x:Value) (d:B<=w.heap.size):(w.alloc (V #[x] e)).ownsRow B e 1 (I (Q ⟨w.heap.size,0,Z⟩) 1 1) 1 [x]:=
 ⟨rfl,Or.inr ⟨w.heap.size,1,#[x],rfl,d,zN w _,zB _,by unfold maxLen;omega,rfl,rfl⟩⟩
theorem eO (w:World) (N:Nat) (a b c d e f:Value):(W6 w N a b c d e f).heap.size=w.heap.size:=by simp[World.setCell]
theorem Vh (d:Int) (hr:kC w R tv ts n zg []) (F:∀t∈ts,t.text.size<=40000):Calls Tryz.prog 199 #[H (Q ⟨R,0,Z⟩),J U d] w (YQ (Rt.kn d) R tv ts n w):=by
 have a1:R < w.heap.size:=zt w _ (zC hr.block 0 (by simp));have a2:=zD F;clear F;go_enter func199,ntmps199;go_wp2_with fail;obtain⟨T,i⟩:=hr.zP ((zI w.heap.size w).alloc (zB _) (V yo 143));refine(ZZ T a2.u).mono ?_;intro e w1 hpost;obtain⟨ox,hfr1⟩:∃ox,ZJ R zg ox (w.alloc (V yo 143)) w1:=by rcases hpost with⟨_,_,_,_,_,_,_,_,_,h⟩| ⟨_,_,_,h⟩ <;> exact⟨_,h⟩
 have hN:w1.heap[w.heap.size]?=Q (V yo 143 (0,0)):=by
  rw[hfr1.block w.heap.size (by simp) (by omega) (by simp[Value.ownBlock])];exact zN w _
 have hz:w.heap.size < w1.heap.size:=by have:=hfr1.size;simp at this;omega
 obtain⟨c0,c1,c2,c3,c4,c5,f0,f1,f2,f3,f4,f5⟩:=YD hN;clear T hN;rcases hpost with⟨em,n1,xv,hs,rfl,hn1,hem,hr1,hown,f⟩| ⟨hs,rfl,ov1,f⟩
 ·obtain⟨y,cap,rfl⟩:=zK hown;have HS:=zD hs;have hx:∀g,(Value.slice y (G em) cap).ownBlock=Q g->g≠w.heap.size:=fun g hg=>by have:=(hown.lt g hg).1;simp at this;omega
  have HO:=zD (yn (b':=w.heap.size) (ZU hown hx (J U d) (O ⟨#[]⟩) (J U 0) zg zg (I (Q ⟨w1.heap.size+1,0,Z⟩) 1 1)) (by simp));have HR:=zD (hr1.jM a1 (J U d) (O ⟨#[]⟩) (J U 0) zg zg (I (Q ⟨w1.heap.size+1,0,Z⟩) 1 1));have k:=zD ((i.trans f).jM (N:=w.heap.size) (zB _) (J U d) (O ⟨#[]⟩) (J U 0) zg zg (I (Q ⟨w1.heap.size+1,0,Z⟩) 1 1));clear hs hr hx hown hr1 i hfr1 f;go_wp2_with fail;have o:=eO w1 w.heap.size (J U d) (O ⟨#[]⟩) (J U 0) zg zg (I (Q ⟨w1.heap.size+1,0,Z⟩) 1 1);generalize a0:W6 w1 w.heap.size (J U d) (O ⟨#[]⟩) (J U 0) zg zg (I (Q ⟨w1.heap.size+1,0,Z⟩) 1 1)=w2 at HO HR k o;obtain⟨M,x⟩:=HR.u.zP (((zI w2.heap.size w2).alloc (zB _) (V #[I y (G em) cap] 140)).alloc (by simp) (V #[I y (G em) cap] 140));have j:=KS (w2.alloc (V #[I y (G em) cap] 140)) w.heap.size 140 (I y (G em) cap) (by simp;omega);have z:(w2.alloc (V #[I y (G em) cap] 140)).heap.size=w1.heap.size+1:=by simp[o]
  rw[z]at j;refine zT (v:=E #[L #[J U d,O ⟨#[]⟩,J U 0,zg,zg,I (Q ⟨w1.heap.size+1,0,Z⟩) 1 1],A D]) ?_ rfl ?_
  ·simp[results,results199,go_sem,c0,c1,c2,c3,c4,c5,hz]
  ·rw[<-a0]at M x j HO k;exact Or.inl ⟨⟨d,⟨#[]⟩,0,[],[],[em]⟩,n1,_,by rw[Rt.kn,HS.u],rfl,M,⟨zg,zg,_,[_],rfl,zW _ _ _ _,zW _ _ _ _,j,⟨(HO.u.alloc _).alloc _,trivial⟩⟩,k.u.trans x⟩
 ·have HS:=zD hs;have k:=zD (i.trans f);clear hs hr f i;go_wp2_with fail;refine zT (v:=E #[L yo,A W]) ?_ rfl ?_
  ·simp[results,results199,go_sem,c0,c1,c2,c3,c4,c5,hz]
  ·exact Or.inr ⟨by rw[Rt.kn,HS.u],rfl,_,(k.u.jM (N:=w.heap.size) (zB _) _ _ _ _ _ _).alloc _⟩
theorem ZJ.qT (h:ZJ R zg ov w1 w2) (hN:w1.heap[N]?=Q o) (d:N≠R):w2.heap[N]?=Q o:=by
 have f:N < w1.heap.size:=by
  by_cases h:N < w1.heap.size
  ·exact h
  ·rw[vq (by omega)]at hN;cases hN
 rw[h.block N f d (by simp[Value.ownBlock])];exact hN
theorem ZJ.ZH (h:ZJ R zg ov w1 w2) (d:w1.ownsRow B e size v n xs) (i:R < B):w2.ownsRow B e size v n xs:=by
 obtain⟨f,h2⟩:=d;refine⟨f,?_⟩;rcases h2 with h2 | ⟨g,cap,cur,hv,hg,hh,r⟩
 ·exact Or.inl h2
 ·exact Or.inr ⟨g,cap,cur,hv,hg,h.qT hh (by omega),r⟩
theorem sd {ops:List qM} (i:kC w R tv ts n ov ops) (h:∀t∈ts,t.text.size<=40000):Calls Tryz.prog 214 #[H (Q ⟨R,0,Z⟩)] w fun e w'=>
   (∃v,Rt.XC (ts.drop n)=Q (v,ts.drop (n+1))/\e=T (E #[J U v,A D])/\kC w' R tv ts (n+1) ov ops/\ZJ R ov ov w w')\/
   (Rt.XC (ts.drop n)=Z/\e=T (E #[J U 0,A W])/\kC w' R tv ts n ov ops/\ZJ R ov ov w w'):=by
 by_cases hn:n < G ts
 ·by_cases hk:ts[n].kind=2
  ·refine(fe i hn hk (by have:=h _ (zj hn);unfold maxLen;omega)).mono ?_;rintro e w' ⟨rfl,f,d⟩;exact Or.inl ⟨_,by rw[ql hn,Rt.XC,zE hk],rfl,f,d⟩
  ·refine(ff i hn hk).mono ?_;rintro e w' ⟨rfl,f,d⟩;exact Or.inr ⟨by rw[ql hn,Rt.XC,zA hk],rfl,f,d⟩
 ·refine(da i hn).mono ?_;rintro e w' ⟨rfl,f,d⟩;exact Or.inr ⟨by rw[vW hn,Rt.XC],rfl,f,d⟩
theorem BR (hr:kC w R tv ts n zg []) (a0:∀t∈ts,t.text.size<=40000):Calls Tryz.prog 197 #[H (Q ⟨R,0,Z⟩)] w (YQ Rt.pArray R tv ts n w):=by
 have a1:R < w.heap.size:=zt w _ (zC hr.block 0 (by simp));have a2:=zD a0;clear a0;go_enter func197,ntmps197;go_wp2_with fail;obtain⟨F,i⟩:=hr.zP ((zI w.heap.size w).alloc (zB _) (V yo 143));have z:(w.alloc (V yo 143)).heap[w.heap.size]?=Q (V yo 143 (0,0)):=zN w _;refine(JH F).mono ?_;rintro e w1 (⟨nm,hn,hs,rfl,y,f⟩| ⟨hs,rfl,y,f⟩)
 ·have hN:=f.qT z (by omega);have HS:=zD hs;have j:=zD (i.trans f);clear hr F i f hs z;go_wp2_with fail;refine(sd y a2.u).mono ?_;rintro e w2 (⟨v,k,rfl,x,d⟩| ⟨k,rfl,x,d⟩)
  ·obtain⟨c0,T,N,M,I,G,f0,f1,f2,f3,f4,f5⟩:=YD (d.qT hN (by omega));have o:=zD k;have HR:=zD x;have h:=zD (j.u.trans d);clear y x d k j hN;by_cases hv1:v < 1
   ·go_wp2_with fail;refine zT (v:=E #[L yo,A W]) ?_ rfl (Or.inr ⟨by rw[Rt.pArray,HS.u];simp only;rw[o.u];simp only;rw[zE (Or.inl hv1)],rfl,_,h.u.jM (zB _) _ _ _ _ _ _⟩);simp[results,results197,go_sem,c0,T,N,M,I,G]
   ·by_cases hv2:32 < v
    ·go_wp2_with fail;refine zT (v:=E #[L yo,A W]) ?_ rfl (Or.inr ⟨by rw[Rt.pArray,HS.u];simp only;rw[o.u];simp only;rw[zE (Or.inr hv2)],rfl,_,h.u.jM (zB _) _ _ _ _ _ _⟩);simp[results,results197,go_sem,c0,T,N,M,I,G]
    ·have HE:Hd (Rt.pArray (ts.drop n)=Q (⟨2,nm,v,[],[],[]⟩,ts.drop (n+1+1))):=by
      refine zD ?_;rw[Rt.pArray,HS.u];simp only;rw[o.u];simp only;rw[zA (by omega)]
     go_wp2_with fail;refine zT (v:=E #[L #[J U 2,O nm,J U v,zg,zg,zg],A D]) ?_ rfl
      (Or.inl ⟨_,_,_,HE.u,rfl,HR.u.jM a1 _ _ _ _ _ _,vM,h.u.jM (zB _) _ _ _ _ _ _⟩);simp[results,results197,go_sem,c0,T,N,M,I,G]
  ·obtain⟨c0,T,N,M,I,G,f0,f1,f2,f3,f4,f5⟩:=YD (d.qT hN (by omega));have o:=zD k;have h:=zD (j.u.trans d);clear y x d k j hN;go_wp2_with fail;refine zT (v:=E #[L yo,A W]) ?_ rfl (Or.inr ⟨by rw[Rt.pArray,HS.u];simp only;rw[o.u],rfl,_,h.u.jM (zB _) _ _ _ _ _ _⟩);simp[results,results197,go_sem,c0,T,N,M,I,G]
 ·obtain⟨c0,T,N,M,I,G,f0,f1,f2,f3,f4,f5⟩:=YD (f.qT z (by omega));have HS:=zD hs;have j:=zD (i.trans f);clear hr F i f hs z;go_wp2_with fail;refine zT (v:=E #[L yo,A W]) ?_ rfl (Or.inr ⟨by rw[Rt.pArray,HS.u],rfl,_,j.u.jM (zB _) _ _ _ _ _ _⟩);simp[results,results197,go_sem,c0,T,N,M,I,G]
theorem kC.kept (d:kC w R tv ts n zg []) (h:∀k,k<=R->w1.heap[k]?=w.heap[k]?):kC w1 R tv ts n zg []:=by
 refine⟨d.le,d.VJ,d.YH,by rw[h R (zB _)];exact d.block,?_,zW _ _ _ _⟩;obtain⟨b,cap,rfl,o,x⟩:=d.yY;have f:∀j,w1.cell? ⟨b,j,Z⟩=w.cell? ⟨b,j,Z⟩:=fun j=>xG (w:=w) (h b (by omega));exact⟨b,cap,rfl,o,fun i h=>⟨by rw[f];exact(x i h).1,by rw[f];exact(x i h).2⟩⟩
theorem ZJ.grown (h:ZJ R a b w wr) (d:(wr.alloc o).grownBy w1 row) (f:∀k,row=Q k->w.heap.size<=k):ZJ R a b w w1:=
 ⟨d.os.trans h.os,d.tape.trans h.tape,d.output.trans h.output,by have:=d.size;have:=h.size;simp at *;omega,
  fun k hk h1 h2=>((d.block k (by have:=h.size;simp;omega) (fun e=>by have:=f k e.symm;omega)).trans (jx wr o k (zX hk h.size))).trans (h.block k hk h1 h2),h.own⟩
theorem mA (f:(wr.alloc o).grownBy w1 row) (h:R < wr.heap.size) (d:∀k,row=Q k->R < k):∀k,k<=R->w1.heap[k]?=wr.heap[k]?:=fun k hk=>by
 rw[f.block k (by simp;omega) (fun e=>by have:=d k e.symm;omega),jx wr o k (by omega)]
theorem Cb {ops:List qM} (d:kC w R tv ts n ov ops):Calls Tryz.prog 170 #[H (Q ⟨R,0,Z⟩)] w fun e w'=>e=T (A (decide (n < G ts)))/\kC w' R tv ts n ov ops/\ZJ R ov ov w w':=
 (QL d).mono (by rintro e w' ⟨rfl,q,rfl⟩;exact⟨rfl,d.quiet q⟩)
theorem Kz {M:Nat} (h:w.heap[N]?=Q o) (d:N≠M) (i:Nat) (v:Value):(w.setCell ⟨M,i,Z⟩ v).heap[N]?=Q o:=by
 rw[zO w ⟨M,i,Z⟩ v N d];exact h
theorem B8 {e f:Value}:(#[a,b,c,d,e,f].setIfInBounds 3 x)=#[a,b,c,x,e,f]:=rfl
theorem oL {nm2:Ia} (d:n2 < G ts) (h:Rt.kE (ts.drop n2)=Q (nm2,ts.drop (n2+1))) (f:G acc < 4):Rt.jO acc (ts.drop n2)=Rt.jO (acc++[nm2]) (ts.drop (n2+1)):=by
 rw[ql d,Rt.kE]at h;rw[ql d,Rt.jO];split at h
 ·next hk=>
  rw[zE ⟨hk,f⟩];simp at h;rw[h]
 ·cases h
theorem oM (d:n2 < G ts) (f:4<=G acc):Rt.jO acc (ts.drop n2)=Z:=by
 rw[ql d,Rt.jO,zA (by omega)]
theorem sQ (d:n2 < G ts) (h:Rt.kE (ts.drop n2)=Z):Rt.jO acc (ts.drop n2)=Z:=by
 rw[ql d,Rt.kE]at h;rw[ql d,Rt.jO];split at h
 ·cases h
 ·next hk=>rw[zA (fun x=>hk x.1)]
theorem lJ (h:Rt.kE rem=Q (nm,r)) (d:Rt.jO [] r=Z):Rt.pProc rem=Z:=by
 rw[Rt.pProc,h];simp only;rw[d]
theorem wu {ps:Ib} (h:Rt.kE rem=Q (nm,r)) (d:Rt.jO [] r=Q ps):Rt.pProc rem=Q (⟨3,nm,0,ps,[],[]⟩,[]):=by
 rw[Rt.pProc,h];simp only;rw[d]
theorem iV (hr:kC w R tv ts n zg []):Calls Tryz.prog 198 #[H (Q ⟨R,0,Z⟩)] w (YQ Rt.pProc R tv ts n w):=by
 have g7:R < w.heap.size:=zt w _ (zC hr.block 0 (by simp));obtain⟨i0,hi,g6,g5,g4⟩:=yi eT;go_enter func198,ntmps198;go_wp2_with fail;obtain⟨d8,a5⟩:=hr.zP ((zI w.heap.size w).alloc (zB _) (V yo 143));have b7:(w.alloc (V yo 143)).heap[w.heap.size]?=Q (V yo 143 (0,0)):=zN w _;refine(JH d8).mono ?_;rintro e w1 (⟨nm,hn,hs,rfl,d7,o⟩| ⟨hs,rfl,d7,o⟩)
 ·have hN:=o.qT b7 (by omega);have h1:=zQ hN;have b8:=a5.trans o;have HS:=zD hs;have hst:kC (w1.alloc (V #[J U 3,O nm,J U 0,zg,zg,zg] 143)) R tv ts (n+1) zg []:=(d7.zP ((zI w1.heap.size w1).alloc (zB _) _)).1;have hfrB:=b8.alloc (V #[J U 3,O nm,J U 0,zg,zg,zg] 143);have hNB:=yR hN (V #[J U 3,O nm,J U 0,zg,zg,zg] 143);have hMB:=zN w1 (V #[J U 3,O nm,J U 0,zg,zg,zg] 143);clear hr d8 a5 o hs b7 b8 hN d7;go_wp2_with fail;go_loopg [7,8] (G ts-(n+1)) (fun k _ _ wr=>∃(n2:Nat) (pv:Value) (acc:Ib),k=G ts-n2/\n+1<=n2/\G acc<=4/\Rt.jO acc (ts.drop n2)=Rt.jO [] (ts.drop (n+1))/\
   kC wr R tv ts n2 zg []/\ZJ R zg zg w wr/\wr.heap[w.heap.size]?=Q (V yo 143 (0,0))/\
   wr.heap[w1.heap.size]?=Q (V #[J U 3,O nm,J U 0,pv,zg,zg] 143 (0,0))/\wr.ownsRow (w1.heap.size+1) 9 1 pv (G acc) (acc.map Value.string))
  case atStart=>exact⟨n+1,zg,[],rfl,zB _,by simp,rfl,hst,hfrB,hNB,hMB,zW _ _ _ _⟩
  case round=>
   clear hst hfrB hNB hMB;obtain⟨n2,pv,acc,hk,h4,h0,hT,f8,d6,g1,g2,b1⟩:=hrel;have HK:=zD hk;have HT:=zD hT;clear hk hT;obtain⟨ad,cap,rfl⟩:=zK b1;go_wp2_with fail;refine(Cb f8).mono ?_;rintro e w3 ⟨rfl,b0,T⟩;have a6:=T.qT g1 (by omega);have b3:=T.qT g2 (by omega);have f:=T.ZH b1 (by omega);have x:=d6.trans T;clear f8 d6 g1 g2 b1 T;by_cases hn3:n2 < G ts
   ·have hd:decide (n2 < G ts)=D:=by simpa using hn3
    rw[hd];go_wp2_with fail;refine(JH b0).mono ?_;rintro e w4 (⟨f6,h3,a8,rfl,a9,d⟩| ⟨a8,rfl,a9,d⟩)
    ·have a1:=d.qT a6 (by omega);have a7:=d.qT b3 (by omega);have a0:=d.ZH f (by omega);have a3:=x.trans d;have g9:=zD a8;clear b0 a6 b3 f x d a8;by_cases hfull:4<=G acc
     ·obtain⟨c0,c1,c2,c3,c4,c5,f0,f1,f2,f3,f4,f5⟩:=YD a1;have ⟨_,_,_,d3,_,_,_,_,_,_,_,_⟩:=YD a7;have a2:=zD a3;have HE:=zD (lJ HS.u (HT.u.symm.trans (oM hn3 hfull)));have b5:(4:Int)<=(G acc:Int):=by omega
      clear a1 a7 a9 a3;go_wp2_with fail;refine zT (v:=E #[L yo,A W]) ?_ rfl (Or.inr ⟨HE.u,rfl,_,a2.u.jM (zB _) _ _ _ _ _ _⟩);simp[results,results198,go_sem,c0,c1,c2,c3,c4,c5]
     ·have b5:¬(4:Int)<=(G acc:Int):=by omega
      have g8:=zD ((oL hn3 g9.u (by omega)).symm.trans HT.u);have ⟨_,_,_,d3,_,_,_,_,_,g3,_,_⟩:=YD a7;have h2:=zQ a7;have f9:R < w4.heap.size:=by omega
      go_wp2_with (at_builtin;refine xQ _ rfl (.tmp 36) (.tmp 38) 87 rfl (w1.heap.size+1) 9 i0 _ 1 16 underlying87 hi g6 g5 g4 rfl (by decide) _ _ _ rfl (a0.alloc _) ⟨_,0,Z⟩ 1 1 [O f6] rfl rfl (cell_one_new _ _ _) ?c2 ?c3 ?c4 ?c5 ?_)
      case c2=>intro u hu;simp at hu;rcases hu with rfl;rfl
      case c3=>unfold maxLen;omega
      case c4=>omega
      case c5=>simp;omega
      intro v' w5 z j _;have F:∀k,(Value.slice ad (G acc) cap).ownBlock=Q k->w1.heap.size < k:=fun k hk=>by have:=(a0.lt k hk).1;omega
      have d9:=QW j a7 (fun h=>by have:=F _ h;omega);have g0:=QW j a1 (fun h=>by have:=F _ h;omega);have f7:=a9.kept (mA j f9 (fun k hk=>by have:=F k hk;omega));have b9:=a3.grown j (fun k hk=>by have:=F k hk;omega);obtain⟨ad5,cap5,rfl⟩:=zK z;have ⟨_,_,_,e3,_,_,_,_,_,k3,_,_⟩:=YD d9;have b2:=zf d9 3 (Value.slice ad5 (G acc+1) cap5);rw[B8]at b2;have b6:=Kz g0 (M:=w1.heap.size) (by omega) 3 (Value.slice ad5 (G acc+1) cap5);have b4:=f7.setOther (N:=w1.heap.size) (i:=3) (by omega) (by intro g h;cases h) (Value.slice ad5 (G acc+1) cap5);have a4:=b9.YS (N:=w1.heap.size) (i:=3) (by omega) (Value.slice ad5 (G acc+1) cap5);have y:=yk z (a:=⟨w1.heap.size,3,Z⟩) (fun g hg=>by have:=(z.lt g hg).1;show g≠w1.heap.size;omega) (Value.slice ad5 (G acc+1) cap5);have HH:=DA b2 b6 b4 a4 y;clear b2 b6 b4 a4 y d9 g0 f7 b9 z j a9 a3 a7 a1 a0 F;go_wp2;go_roundg (G ts-(n2+1))
      case measure=>have:=HK.u;omega
      case rel=>
       obtain⟨b2,b6,b4,a4,y⟩:=HH.u;exact⟨n2+1,_,acc++[f6],rfl,by omega,by simp;omega,g8.u,b4,a4,b6,b2,by simpa using y⟩
    ·have a1:=d.qT a6 (by omega);obtain⟨c0,c1,c2,c3,c4,c5,f0,f1,f2,f3,f4,f5⟩:=YD a1;have a2:=zD (x.trans d);have HE:=zD (lJ HS.u (HT.u.symm.trans (sQ hn3 a8)));clear b0 a9 a6 b3 f x d a8 a1;go_wp2_with fail;refine zT (v:=E #[L yo,A W]) ?_ rfl (Or.inr ⟨HE.u,rfl,_,a2.u.jM (zB _) _ _ _ _ _ _⟩);simp[results,results198,go_sem,c0,c1,c2,c3,c4,c5]
   ·have hd:decide (n2 < G ts)=W:=by simpa using hn3
    rw[hd];have HE:Hd (Rt.pProc (ts.drop n)=Q (⟨3,nm,0,acc,[],[]⟩,ts.drop n2)):=by
     refine zD ?_;have h:=HT.u;rw[vW hn3,Rt.jO]at h;rw[wu HS.u h.symm,vW hn3]
    obtain⟨c0,c1,c2,c3,c4,c5,f0,f1,f2,f3,f4,f5⟩:=YD a6;have ⟨d0,d1,d2,d3,d4,d5,_,_,_,_,_,_⟩:=YD b3;have HR:=zD b0;have a2:=zD x;have HO:=zD (yn (b':=w.heap.size) (ZU (N:=w.heap.size) f (fun g hg=>by have:=(f.lt g hg).1;omega) (J U 3) (O nm) (J U 0) (I ad (G acc) cap) zg zg) (by omega));clear b0 a6 b3 f x;go_wp2_with fail;refine zT (v:=E #[L #[J U 3,O nm,J U 0,I ad (G acc) cap,zg,zg],A D]) ?_ rfl
     (Or.inl ⟨⟨3,nm,0,acc,[],[]⟩,n2,_,HE.u,rfl,HR.u.jM g7 _ _ _ _ _ _,⟨_,zg,zg,[],rfl,HO.u,zW _ _ _ _,zW _ _ _ _,trivial⟩,a2.u.jM (zB _) _ _ _ _ _ _⟩);simp[results,results198,go_sem,c0,c1,c2,c3,c4,c5]
 ·obtain⟨c0,c1,c2,c3,c4,c5,f0,f1,f2,f3,f4,f5⟩:=YD (o.qT b7 (by omega));have HS:=zD hs;have a2:=zD (a5.trans o);clear hr d8 a5 o hs b7;go_wp2_with fail;refine zT (v:=E #[L yo,A W]) ?_ rfl (Or.inr ⟨by rw[Rt.pProc,HS.u],rfl,_,a2.u.jM (zB _) _ _ _ _ _ _⟩);simp[results,results198,go_sem,c0,c1,c2,c3,c4,c5]
end Go.Proofs.YthleadfkfnnadaaGreat
