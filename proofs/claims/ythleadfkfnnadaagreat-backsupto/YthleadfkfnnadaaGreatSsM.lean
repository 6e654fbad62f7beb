/- A line of a session is marked. -/
import Derived.Test.YthleadfkfnnadaaGreatSsP
set_option maxHeartbeats 4000000
set_option maxRecDepth 100000
set_option linter.unusedSimpArgs false
namespace Go.Proofs.YthleadfkfnnadaaGreat
open Rt Go.Proofs.Tryz
open Go.RowKit
variable {cap kind fuel d0:Int} {mk:List Bool} {X:ZK} {n low P B k:Nat} {s:Se} {S:Rt.Src} {jv:Value} {w:World}
section
attribute [local go_sem ↓] Go.wp_at_zero Go.wp_at_succ
namespace Rt
def uQ (S:Src):Se:=⟨firstM S,[],0,0,List.replicate 101 false⟩
end Rt
def Gw (S:Rt.Src) (cap:Int) (w:World) (e:Ending) (w':World):Prop:=
 Below w.heap.size w w'/\∃P B X,e=.returned (.tuple #[.pointer (some ⟨P,0,none⟩),.int .i64 0,.int .i64 0])/\w.heap.size<=P/\(∀k∈Z4 X,w.heap.size<=k)/\Zv w' P B S cap (uQ S) X (.slice none 0 0)
theorem Cq (cap:Int):Calls Tryz.prog 57 #[.int .i64 cap] w fun e w'=>e=.returned (.agg #[.int .i64 cap,.slice none 0 0,.int .i64 0])/\Below w.heap.size w w':=by
 go_enter func57,ntmps57;go_wp2_with fail;have E:=yb (zN w (.cells #[.int .i64 cap,.slice none 0 0,.int .i64 0] 101));refine zT (v:=.agg #[.int .i64 cap,.slice none 0 0,.int .i64 0]) ?_ rfl ⟨rfl,(zI _ _).alloc (zB _) _⟩;revert E;generalize w.alloc (.cells #[.int .i64 cap,.slice none 0 0,.int .i64 0] 101)=wz;intro E;simp[results,results57,go_sem,E.1,E.2.1,E.2.2]
theorem wg {v0 v1 v2 v3 v4 v5 v6 v7 v8 v9 v10:Value}:(((((((((((Tryz.zeroCells105.setIfInBounds 0 v0).setIfInBounds 1 v1).setIfInBounds 2 v2).setIfInBounds 3 v3).setIfInBounds 4 v4).setIfInBounds 5 v5).setIfInBounds 6 v6).setIfInBounds 7 v7).setIfInBounds 8 v8).setIfInBounds 9 v9).setIfInBounds 10 v10)=(#[v0,v1,v2,v3,v4,v5,v6,v7]++([v8,v9,v10,.int .i64 0]++(List.replicate 101 false).map Value.bool).toArray:Array Value):=by kernel_rfl
theorem snew_any (s:ByteArray) {iv:Value} {qo:List Int} (cap:Int) (zL:List Rt.PL) (hs:s.size<=maxLen) (hi:kA w iv qo) (hR:Rt.qx s=(0,0,zL)) (hl:qo.length<=100) (hc:5<=cap/\cap<=500):Calls Tryz.prog 30 #[.string s,iv,.int .i64 cap] w (Gw (Zs s zL qo) cap w):=by
 have j:=tQ hR;have HI:=zD hi;have a6:¬cap < 5:=by omega
 have a5:¬500 < cap:=by omega
 obtain⟨a3,a1,rfl,_⟩:=hi;go_enter func30,ntmps30;go_wp2_with fail;refine(nC s hs HI.u (fun p hp=>by rw[hR]at hp;injection hp with _ hp;injection hp with _ hp;rw[<-hp];exact j)).mono ?_;rintro e w1 ⟨f,hcase⟩;rcases hcase with⟨hlt,_⟩| ⟨_,er,ln,a0,i,hcc⟩
 ·exact absurd hlt (by omega)
 rw[hR]at i;injection i with e1 i;injection i with e2 e3;subst e1 e2 e3;rcases hcc with⟨h0,_⟩| ⟨_,_,hlen,M0,X,rfl,hM0,hblk,hmc⟩
 ·exact absurd rfl h0
 obtain⟨H,G,J,I,M,L,A,z,F,D,q1,Z,W,V,U⟩:=hmc.shape;generalize h:Rt.firstM (Zs s zL qo)=m0 at *;have d:xC X m0 []=#[.slice H zL.length G,.slice J qo.length I,.slice M m0.zH.length L,.slice A m0.values.length z,.int .i64 m0.taken,.slice F m0.output.length D,.int .i64 m0.line,.int .i64 m0.fin]:=by
  simp only[xC,q1,Z,W,V,U,Zs,qR];rfl
 rw[d];have HX:=DA f hblk hmc d h;clear f hblk hmc d h q1 Z W V U hR j;go_wp2_with fail;have y:=(zI w1.heap.size w1).alloc (zB _) (.cells #[.slice H zL.length G,.slice J qo.length I,.slice M m0.zH.length L,.slice A m0.values.length z,.int .i64 m0.taken,.slice F m0.output.length D,.int .i64 m0.line,.int .i64 m0.fin] 90);refine(Cq cap).mono ?_;rintro e w2 ⟨rfl,k⟩;have T:=zU (zN w1 (.cells #[.slice H zL.length G,.slice J qo.length I,.slice M m0.zH.length L,.slice A m0.values.length z,.int .i64 m0.taken,.slice F m0.output.length D,.int .i64 m0.line,.int .i64 m0.fin] 90)) k;obtain⟨y0,y1,y2,y3,y4,y5,y6,y7⟩:=xH T;have a2:=zQ T;have a4:¬w1.heap.size=w2.heap.size:=by omega
 have o:=zD (y.trans (k.mono (B':=w1.heap.size) (by simp)));clear y k T;go_wp2_with fail;have O:(((((((((((Tryz.zeroCells105.setIfInBounds 0 (.slice H zL.length G)).setIfInBounds 1 (.slice J qo.length I)).setIfInBounds 2 (.slice M m0.zH.length L)).setIfInBounds 3 (.slice A m0.values.length z)).setIfInBounds 4 (.int .i64 m0.taken)).setIfInBounds 5 (.slice F m0.output.length D)).setIfInBounds 6 (.int .i64 m0.line)).setIfInBounds 7 (.int .i64 m0.fin)).setIfInBounds 8 (.int .i64 cap)).setIfInBounds 9 (.slice none 0 0)).setIfInBounds 10 (.int .i64 0))=xC X m0 (vF cap (.slice none 0 0) 0 0 (List.replicate 101 false)):=by
  rw[wg];have:=HX.u.2.2.2.1;have e:(xC X m0 (vF cap (.slice none 0 0) 0 0 (List.replicate 101 false)))=xC X m0 []++(vF cap (.slice none 0 0) 0 0 (List.replicate 101 false)).toArray:=by
   unfold xC;rw[yX,List.append_toArray]
  rw[e,this];simp[vF]
 rw[O];obtain⟨f,hblk,hmc,_,h⟩:=HX.u;have R:=((zI w2.heap.size w2).alloc (zB _) (.cells #[.int .i64 cap,.slice none 0 0,.int .i64 0] 101)).alloc (by simp) (.cells (xC X m0 (vF cap (.slice none 0 0) 0 0 (List.replicate 101 false))) 105);have bS:=qD w2 (.cells #[.int .i64 cap,.slice none 0 0,.int .i64 0] 101) (.cells (xC X m0 (vF cap (.slice none 0 0) 0 0 (List.replicate 101 false))) 105);have x:=o.u.trans (R.mono (B':=w1.heap.size) o.u.size);have N:=hmc.Gg x bS (by unfold FE;decide);refine zT (v:=.tuple #[.pointer (some ⟨w2.heap.size+1,0,none⟩),.int .i64 0,.int .i64 0]) ?_ rfl ⟨f.trans (x.mono (B':=w.heap.size) f.size),_,_,X,rfl,by have:=o.u.size;have:=f.size;omega,hblk,⟨by rw[uQ,h];exact N,zW _ _ _ _⟩⟩;simp[results,results30,go_sem]
namespace Rt
def backRun (kind fuel d0:Int):Nat->Se->Nat->Se×Nat×Int
 | 0,s,k=>(s,k,4)
 | f+1,s,k=>if G2 s kind fuel d0 k=0 then backRun kind fuel d0 f (Hg s) (k+1)else (s,k,G2 s kind fuel d0 k)
end Rt
structure Be (S:Rt.Src):Prop where
 Gj:Good S
 call:iN S
 first:XW S (Rt.firstM S)
theorem Be.qT (h:Be S) (n:Nat):XW S (Rt.atM S n):=wD h.Gj h.first n
theorem Be.par (h:Be S) (n:Nat):iK (Rt.atM S n):=wC h.call n
theorem Be.Ad (h:Be S) (n:Nat):Mid S (Rt.atM S n) 10:=mid_of (h.qT n) (h.par n)
theorem Be.input {S:Rt.Src} (h:Be S):S.input.length<=100:=h.first.Zi.input
theorem Be.Gh (h:Be S) (i:VK S cap n low) (d:List Bool) (f:d.length=101):rT S cap (XY S n low d):=⟨h.qT n,h.par n,i.room,f⟩
def AtP (S:Rt.Src) (cap:Int) (n low:Nat) (mk:List Bool) (s:Se):Prop:=∃n',s=XY S n' low mk/\VK S cap n' low/\n'<=n
theorem AtP.back {S:Rt.Src} {cap:Int} {n low:Nat} {mk:List Bool} {s:Se} (h:AtP S cap n low mk s) (o:Be S) (D:cap<=500) (z:n < 4611686018427387000) {kind fuel d0 mv:Int} (k:G2 s kind fuel d0 mv=0):AtP S cap n low mk (Hg s)/\Mid S s.m 10/\0 < s.YU.length/\s.YU.length<=500:=by
 obtain⟨n',rfl,f,A⟩:=h;obtain⟨j,i,_⟩:=Hc k;clear k;have j:(n':Int)≠0:=j;have i:(n':Int)≠(low:Int):=i;have x:=f.le;obtain⟨q,rfl⟩:∃q,n'=q+1:=⟨n'-1,by omega⟩;have d:low<=q:=by omega
 have y:((xT S low (q+1-low)).length:Int)<=cap:=f.room;refine⟨⟨q,seBack_at f d o.input (by omega) mk,f.back d,by omega⟩,o.Ad _,last_lt f d,?_⟩;show (xT S low (q+1-low)).length<=500;omega
theorem AtP.marks {S:Rt.Src} {cap:Int} {n low:Nat} {mk:List Bool} {s:Se} (h:AtP S cap n low mk s) (d:mk.length=101):s.marks.length=101:=by
 obtain⟨n',rfl,_,_⟩:=h;exact d
theorem backward_any (h:Zv w P B S cap s X jv) (hS:Be S) (hc:cap<=500) (hk:AtP S cap n low mk s) (hn:n < 4611686018427387000) (V:mk.length=101) (kind:Int) (fuel:Nat) (a1:0<=kind/\kind<=3) (a7:fuel<=1000):Calls Tryz.prog 67 #[.pointer (some ⟨P,0,none⟩),.int .i64 kind,.int .i64 fuel] w (FwdP P B S cap X jv (Rt.backRun kind fuel s.m.zH.length (fuel+1) s 0) w):=by
 have a3:=zQ h.mc.block;have HH:=gN h hk (fun s' (h:AtP S cap n low mk s')=>h.marks V) (fun s' (h:AtP S cap n low mk s') (mv:Int) (d0:Int) (hz:G2 s' kind fuel d0 mv=0)=>h.back hS hc hn hz);clear h hS hk V hn;go_enter func67,ntmps67;go_wp2_with fail;refine(rz kind fuel a1 (by omega)).mono ?_;rintro e w0 ⟨rfl,rfl⟩;go_wp2_with fail;have L:=(zI w.heap.size w).alloc (zB _) (.cells #[.int .i64 0,.int .i64 0,.int .i64 0,.int .i64 0,.int .i64 0,.int .i64 0] 111);refine(dE (HH.u.1.mc.zP L)).mono ?_;rintro e w0 ⟨rfl,rfl⟩;generalize hd:(s.m.zH.length:Int)=d at *;have HD:=zD hd;clear hd;go_wp2_with fail;have M:=L.alloc (by simp) (.cells (om kind fuel d 0) 169);have A:=yR (zN w (.cells #[.int .i64 0,.int .i64 0,.int .i64 0,.int .i64 0,.int .i64 0,.int .i64 0] 111)) (.cells (om kind fuel d 0) 169);have i:=qD w (.cells #[.int .i64 0,.int .i64 0,.int .i64 0,.int .i64 0,.int .i64 0,.int .i64 0] 111) (.cells (om kind fuel d 0) 169);refine(He (HH.u.1.zP M) (HH.u.2.2.1 _ HH.u.2.1) kind fuel d 0).mono ?_;rintro e w1 ⟨rfl,I⟩;have HA:=XX (vX.start HH.u.1 (M.trans (I.mono (B':=w.heap.size) (by simp;omega)))) (zU A I) (zU i I);clear L M A i I;go_wp2_with fail;go_loopw [10] (fun rv wr=>∃(k:Nat) (s':Se) (X':ZK) (jv':Value),k<=fuel/\rv=.int .i64 (G2 s' kind fuel d k)/\wr.heap[w.heap.size]?=some (.cells #[.int .i64 0,.int .i64 0,.int .i64 0,.int .i64 0,.int .i64 0,.int .i64 0] 111 (0,0))/\wr.heap[w.heap.size+1]?=some (.cells (om kind fuel d k) 169 (0,0))/\vX P B S cap X X' jv jv' s' w wr/\AtP S cap n low mk s'/\Rt.backRun kind fuel d (fuel+1-k) s' k=Rt.backRun kind fuel d (fuel+1) s 0) (fun _ wr=>fuel+1-so wr (w.heap.size+1))
 case atStart=>exact⟨0,s,X,jv,zo _,rfl,HA.u.2.1,HA.u.2.2,HA.u.1,HH.u.2.1,rfl⟩
 case round=>
  obtain⟨k,s',X',jv',hk,rfl,A,i,o,D,f⟩:=hrel;have m3:wr.cell? ⟨w.heap.size+1,3,none⟩=some (.int .i64 (k:Int)):=by have:=zC i 3 (by simp);simpa using this
  have f3:=zS i 3;have HM:=zD (show so wr (w.heap.size+1)=k by unfold so;rw[m3];simp);have R:=DA A i o D f;have a8:=zQ A;have a9:=zQ i;clear A i o D f HA;have a5:wrap64 ((k:Int)+1)=(k:Int)+1:=yC _ (by omega);have a4:IntKind.i64.wrap ((k:Int)+1)=(k:Int)+1:=by rw[yv,yC _ (by omega)]
  by_cases hz:G2 s' kind fuel d k=0
  ·have U:(G2 s' kind fuel d k==0)=true:=by simpa using hz
   have a6:=(Hc hz).2.2;have hq:=zD (HH.u.2.2.2 _ R.u.2.2.2.1 _ _ hz);have HN:=zD (show Rt.backRun kind fuel d (fuel+1-(k+1)) (Hg s') (k+1)=Rt.backRun kind fuel d (fuel+1) s 0 by
    rw[<-R.u.2.2.2.2,show fuel+1-k=(fuel+1-(k+1))+1 by omega,Rt.backRun,zE hz])
   clear hz;go_wp2_with fail;clear U;obtain⟨A,i,o,D,f⟩:=R.u;refine(takeBack_any o.Yo hq.u.2.1 hq.u.2.2.1 hq.u.2.2.2).mono ?_;rintro e w2 ⟨rfl,X2,jv2,J⟩;have W:=vX.keeps o.Yo J A (by omega) (by unfold bg Xe;decide);have j:=vX.keeps o.Yo J i (by omega) (by unfold bg Xe;decide);have G:=(o.trans J).other j (by omega) (by unfold bg Xe;decide) 3 (.int .i64 ((k:Int)+1));have Z:(w2.setCell ⟨w.heap.size+1,3,none⟩ (.int .i64 ((k:Int)+1))).heap[w.heap.size+1]?=some (.cells (om kind fuel d ((k:Int)+1)) 169 (0,0)):=by
    have:=zf j 3 (.int .i64 ((k:Int)+1));simpa using this
   have F:(w2.setCell ⟨w.heap.size+1,3,none⟩ (.int .i64 ((k:Int)+1))).heap[w.heap.size]?=some (.cells #[.int .i64 0,.int .i64 0,.int .i64 0,.int .i64 0,.int .i64 0,.int .i64 0] 111 (0,0)):=(zO w2 ⟨w.heap.size+1,3,none⟩ _ _ (by show w.heap.size≠w.heap.size+1;omega)).trans W;have HY:=XX G Z F;have n0:w2.cell? ⟨w.heap.size+1,0,none⟩=some (.int .i64 kind):=by have:=zC j 0 (by simp);simpa using this
   have n1:w2.cell? ⟨w.heap.size+1,1,none⟩=some (.int .i64 (fuel:Int)):=by have:=zC j 1 (by simp);simpa using this
   have n2:w2.cell? ⟨w.heap.size+1,2,none⟩=some (.int .i64 d):=by have:=zC j 2 (by simp);simpa using this
   have n3:w2.cell? ⟨w.heap.size+1,3,none⟩=some (.int .i64 (k:Int)):=by have:=zC j 3 (by simp);simpa using this
   have g3:=zS j 3;clear A i o D f J W j G Z F m3 f3;go_wp2_with fail;refine(He HY.u.1.Yo (HH.u.2.2.1 _ hq.u.1) kind fuel d ((k:Int)+1)).mono ?_;rintro e w4 ⟨rfl,H⟩;have O:=zU HY.u.2.1 H;have T:w4.cell? ⟨w.heap.size+1,3,none⟩=some (.int .i64 ((k:Int)+1)):=by have:=zC O 3 (by simp);simpa using this
   have a2:=zD (show so w4 (w.heap.size+1)=k+1 by unfold so;rw[T];show ((k:Int)+1).toNat=k+1;omega);have HZ:=XX (HY.u.1.below H) O (zU HY.u.2.2 H);clear H O T n0 n1 n2 n3 g3;go_wp2_with fail;go_roundw
   case rel=>exact⟨k+1,Hg s',X2,jv2,by omega,rfl,HZ.u.2.2,HZ.u.2.1,HZ.u.1,hq.u.1,HN.u⟩
   case measure=>
    show fuel+1-so w4 (w.heap.size+1) < fuel+1-so wr (w.heap.size+1);rw[HM.u,a2.u];omega
  ·have U:(G2 s' kind fuel d k==0)=false:=by simpa using hz
   have HE:=zD (show Rt.backRun kind fuel d (fuel+1) s 0=(s',k,G2 s' kind fuel d k) by
    rw[<-R.u.2.2.2.2,show fuel+1-k=(fuel-k)+1 by omega,Rt.backRun,zA hz])
   clear hz;obtain⟨A,i,o,D,f⟩:=R.u;have n0:wr.cell? ⟨w.heap.size+1,0,none⟩=some (.int .i64 kind):=by have:=zC i 0 (by simp);simpa using this
   have n1:wr.cell? ⟨w.heap.size+1,1,none⟩=some (.int .i64 (fuel:Int)):=by have:=zC i 1 (by simp);simpa using this
   have n2:wr.cell? ⟨w.heap.size+1,2,none⟩=some (.int .i64 d):=by have:=zC i 2 (by simp);simpa using this
   clear A i o D f;generalize a0:G2 s' kind fuel d k=rs at *;clear a0;go_wp2_with fail;obtain⟨A,i,o,_,_⟩:=R.u;refine(wj o.Yo kind fuel d k rs).mono ?_;rintro e w3 ⟨rfl,N⟩;have F:=zU A N;have G:=o.below N;obtain⟨y0,y1,y2,y3,y4,y5,z⟩:=YA F;have HF:=zD (fun a b c x y q=>vX.YD G F (zB _) (by unfold bg Xe;decide) a b c x y q);clear A i o N F G n0 n1 n2 m3;go_wp2_with fail;refine zT (v:=.tuple #[.agg (Yp rs k s'),.int .i64 0]) ?_ rfl ⟨_,_,by rw[HE.u],by rw[HE.u];exact HF.u _ _ _ _ _ _⟩;simp[results,results67,go_sem,y0,y1,y2,y3,y4,y5]
end
namespace Rt
def Qq (S:Src) (mk:List Bool) (kind fuel d0:Int) (n k:Nat):Int:=kq (XY S n 0 mk) kind fuel d0 k
def fwdN (S:Src) (mk:List Bool) (kind fuel d0:Int):Nat->Nat->Nat->Nat×Nat×Int
 | 0,n,k=>(n,k,4)
 | f+1,n,k=>if Qq S mk kind fuel d0 n k=0 then fwdN S mk kind fuel d0 f (n+1) (k+1)else (n,k,Qq S mk kind fuel d0 n k)
def JI (S:Src) (cap:Int):Nat->Nat->Nat->Nat
 | 0,_,low=>low
 | j+1,n,low=>JI S cap j (n+1) (ik S cap n low)
theorem lX (S:Src) (cap:Int):∀i j n low,JI S cap (i+j) n low=JI S cap j (n+i) (JI S cap i n low)
 | 0,j,n,low=>by rw[xW];rfl
 | i+1,j,n,low=>by
  rw[show i+1+j=(i+j)+1 by omega,JI,lX S cap i j (n+1) _,JI,show n+1+i=n+(i+1) by omega]
theorem dC (S:Src) (mk:List Bool) (kind:Int) (fuel:Nat) (d0:Int):∀(f n k:Nat),k+f=fuel+1->0 < f->∃j,fwdN S mk kind fuel d0 f n k=(n+j,k+j,Qq S mk kind fuel d0 (n+j) (k+j))/\k+j<=fuel/\¬Qq S mk kind fuel d0 (n+j) (k+j)=0/\∀i,i < j->Qq S mk kind fuel d0 (n+i) (k+i)=0
 | 0,_,_,_,h=>by omega
 | f+1,n,k,he,_=>by
  rw[fwdN];by_cases hz:Qq S mk kind fuel d0 n k=0
  ·rw[zE hz];have x:(k:Int) < fuel:=(Xo hz).2;obtain⟨j,o,D,d,y⟩:=dC S mk kind fuel d0 f (n+1) (k+1) (by omega) (by omega);have A:n+1+j=n+(j+1):=by omega
   have z:k+1+j=k+(j+1):=by omega
   rw[A,z]at o d;refine⟨j+1,o,by omega,d,fun i hi=>?_⟩;cases i with
   | zero=>exact hz
   | succ i=>
    have:=y i (by omega)
    rwa [show n+1+i=n+(i+1) by omega,show k+1+i=k+(i+1) by omega]at this
  ·rw[zA hz];exact⟨0,rfl,by omega,hz,fun i hi=>by omega⟩
theorem mE {S:Src} {cap:Int} (i:0<=cap) (mk:List Bool) (kind fuel d0:Int):∀(f n k low:Nat),VK S cap n low->n+f<=4611686018427387000->
  fwdRun S cap kind fuel d0 f (XY S n low mk) k=(XY S (fwdN S mk kind fuel d0 f n k).1 (JI S cap ((fwdN S mk kind fuel d0 f n k).1-n) n low) mk,(fwdN S mk kind fuel d0 f n k).2)/\VK S cap (fwdN S mk kind fuel d0 f n k).1 (JI S cap ((fwdN S mk kind fuel d0 f n k).1-n) n low)/\n<=(fwdN S mk kind fuel d0 f n k).1
 | 0,n,k,low,h,_=>by
  rw[fwdN,fwdRun];simp only[jC,JI];exact⟨trivial,h,zB _⟩
 | f+1,n,k,low,h,hn=>by
  rw[fwdN,fwdRun];have j:kq (XY S n low mk) kind fuel d0 k=Qq S mk kind fuel d0 n k:=rfl;rw[j];by_cases hz:Qq S mk kind fuel d0 n k=0
  ·rw[zE hz,zE hz];have d:(atM S n).fin=0:=(Xo hz).1;rw[wh h i d (by omega) mk];obtain⟨x,o,z⟩:=mE i mk kind fuel d0 f (n+1) (k+1) (ik S cap n low) (h.step i d) (by omega);generalize fwdN S mk kind fuel d0 f (n+1) (k+1)=r at *;have y:JI S cap (r.1-n) n low=JI S cap (r.1-(n+1)) (n+1) (ik S cap n low):=by
    rw[show r.1-n=(r.1-(n+1))+1 by omega,JI]
   rw[y];exact⟨x,o,by omega⟩
  ·rw[zA hz,zA hz];simp only[jC,JI];exact⟨trivial,h,zB _⟩
def G4 (S:Src) (mk:List Bool) (low:Nat) (kind fuel d0:Int) (n k:Nat):Int:=G2 (XY S n low mk) kind fuel d0 k
def G7 (S:Src) (mk:List Bool) (low:Nat) (kind fuel d0:Int):Nat->Nat->Nat->Nat×Nat×Int
 | 0,n,k=>(n,k,4)
 | f+1,n,k=>if G4 S mk low kind fuel d0 n k=0 then G7 S mk low kind fuel d0 f (n-1) (k+1)else (n,k,G4 S mk low kind fuel d0 n k)
theorem bends_zero {S:Src} (h:G4 S mk low kind fuel d0 n k=0):n≠0/\n≠low/\(k:Int) < fuel:=by
 obtain⟨f,d,i⟩:=Hc h;clear h;have f:(n:Int)≠0:=f;have d:(n:Int)≠(low:Int):=d;exact⟨by omega,by omega,i⟩
theorem Hl (S:Src) (mk:List Bool) (low:Nat) (kind:Int) (fuel:Nat) (d0:Int):∀(f n k:Nat),low<=n->k+f=fuel+1->0 < f->∃j,G7 S mk low kind fuel d0 f n k=(n-j,k+j,G4 S mk low kind fuel d0 (n-j) (k+j))/\low+j<=n/\k+j<=fuel/\¬G4 S mk low kind fuel d0 (n-j) (k+j)=0/\∀i,i < j->G4 S mk low kind fuel d0 (n-i) (k+i)=0
 | 0,_,_,_,_,h=>by omega
 | f+1,n,k,hl,he,_=>by
  rw[G7];by_cases hz:G4 S mk low kind fuel d0 n k=0
  ·rw[zE hz];obtain⟨H,A,x⟩:=bends_zero hz;obtain⟨j,o,z,G,d,y⟩:=Hl S mk low kind fuel d0 f (n-1) (k+1) (by omega) (by omega) (by omega);have F:n-1-j=n-(j+1):=by omega
   have D:k+1+j=k+(j+1):=by omega
   rw[F,D]at o d;refine⟨j+1,o,by omega,by omega,d,fun i hi=>?_⟩;cases i with
   | zero=>exact hz
   | succ i=>
    have:=y i (by omega)
    rwa [show n-1-i=n-(i+1) by omega,show k+1+i=k+(i+1) by omega]at this
  ·rw[zA hz];exact⟨0,rfl,by omega,by omega,hz,fun i hi=>by omega⟩
theorem backRun_at {S:Src} {cap:Int} (d:S.input.length<=100) (mk:List Bool) (low:Nat) (kind fuel d0:Int):∀(f n k:Nat),VK S cap n low->n<=4611686018427387000->
  backRun kind fuel d0 f (XY S n low mk) k=(XY S (G7 S mk low kind fuel d0 f n k).1 low mk,(G7 S mk low kind fuel d0 f n k).2)/\VK S cap (G7 S mk low kind fuel d0 f n k).1 low/\(G7 S mk low kind fuel d0 f n k).1<=n
 | 0,n,k,h,_=>by
  rw[G7,backRun];exact⟨rfl,h,zB _⟩
 | f+1,n,k,h,hn=>by
  rw[G7,backRun];have o:G2 (XY S n low mk) kind fuel d0 k=G4 S mk low kind fuel d0 n k:=rfl;rw[o];by_cases hz:G4 S mk low kind fuel d0 n k=0
  ·rw[zE hz,zE hz];obtain⟨D,z,i⟩:=bends_zero hz;obtain⟨q,rfl⟩:∃q,n=q+1:=⟨n-1,by omega⟩;have j:=h.le;rw[seBack_at h (by omega) d (by omega) mk,zu];obtain⟨y,x,A⟩:=backRun_at d mk low kind fuel d0 f q (k+1) (h.back (by omega)) (by omega);exact⟨y,x,by omega⟩
  ·rw[zA hz,zA hz];exact⟨rfl,h,zB _⟩
end Rt
section
attribute [local go_sem ↓] Go.wp_at_zero Go.wp_at_succ
def J7 (P:Nat) (X:ZK) (jv:Value):List Nat:=P::Z4 X++jv.ownBlock.toList
theorem oZ (h:k∉J7 P X jv):k∉P::Z4 X/\jv.ownBlock≠some k:=by
 unfold J7 at h;simp only[yF,zw,zd,Qu,not_or]at h;exact⟨by simp only[zw,not_or];exact⟨h.1,h.2.1⟩,h.2.2⟩
theorem eV (h:k∈J7 P X jv):k=P\/k∈Z4 X\/jv.ownBlock=some k:=by
 unfold J7 at h;simpa only[yF,zw,zd,Qu] using h
theorem K2 (h:k=P\/k∈Z4 X\/jv.ownBlock=some k):k∈J7 P X jv:=by
 unfold J7;simpa only[yF,zw,zd,Qu] using h
section
variable {w w':World} {P B:Nat} {S:Rt.Src} {cap:Int} {s s':Se} {X X':ZK} {jv jv':Value}
theorem vX.kept (h:vX P B S cap X X' jv jv' s' w w') (f:k < w.heap.size) (d:k∉J7 P X jv):w'.heap[k]?=w.heap[k]?:=h.vz.block k f (oZ d).1 (oZ d).2
theorem vX.owns (h:vX P B S cap X X' jv jv' s' w w') (hk:k∈J7 P X' jv'):k∈J7 P X jv\/w.heap.size<=k:=by
 rcases eV hk with e | e | e
 ·exact Or.inl (K2 (Or.inl e))
 ·rcases h.grow k e with e | e
  ·exact Or.inl (K2 (Or.inr (Or.inl e)))
  ·exact Or.inr e
 ·rcases h.jg k e with e | e
  ·exact Or.inl (K2 (Or.inr (Or.inr e)))
  ·exact Or.inr e
theorem Zv.Vq (h:Zv w P B S cap s X jv) (hk:k∈J7 P X jv):k < w.heap.size:=by
 rcases eV hk with e | e | e
 ·rw[e];exact zQ h.mc.block
 ·rw[<-h.mc.xh]at e;exact h.mc.own.lt k e
 ·obtain⟨c,d⟩:=yW h.jr e;exact zQ d
end
def Vn (S:Rt.Src) (rs:Int) (k n:Nat):Array Value:=#[.int .i64 rs,.int .i64 (k:Int),.int .i64 (Rt.atM S n).fin,.int .i64 (Rt.atM S n).line,.int .i64 ((Rt.atM S n).zH.length:Int),.int .i64 (n:Int)]
structure Jx (w:World) (P B:Nat) (S:Rt.Src) (cap:Int) (n low:Nat) (mk:List Bool) (X:ZK) (jv:Value):Prop where
 Yo:Zv w P B S cap (XY S n low mk) X jv
 ok:VK S cap n low
structure Cst (S:Rt.Src) (cap:Int) (mk:List Bool):Prop where
 Gc:Be S
 lo:5<=cap
 hi:cap<=500
 Yw:mk.length=101
def MvP (P B:Nat) (S:Rt.Src) (cap:Int) (mk:List Bool) (X:ZK) (jv:Value) (n' low' k:Nat) (rs:Int) (w:World) (e:Ending) (w':World):Prop:=
 e=.returned (.tuple #[.agg (Vn S rs k n'),.int .i64 0])/\∃X' jv',vX P B S cap X X' jv jv' (XY S n' low' mk) w w'/\VK S cap n' low'
section
variable {w:World} {P B:Nat} {S:Rt.Src} {cap:Int} {n low:Nat} {mk:List Bool} {X:ZK} {jv:Value}
theorem Jx.zP {w':World} (h:Jx w P B S cap n low mk X jv) (d:Below w.heap.size w w'):Jx w' P B S cap n low mk X jv:=⟨h.Yo.zP d,h.ok⟩
theorem Jx.FU (h:Jx w P B S cap n low mk X jv):Calls Tryz.prog 59 #[.pointer (some ⟨P,0,none⟩)] w fun e w'=>e=.returned (.agg (Vn S 0 0 n))/\Below w.heap.size w w':=iw h.Yo
theorem Jx.fwd (h:Jx w P B S cap n low mk X jv) (i:Cst S cap mk) (f:Int) (d:Nat) (o:0<=f/\f<=3) (x:d<=1000) (F:n+1001<=4611686018427386000):Calls Tryz.prog 65 #[.pointer (some ⟨P,0,none⟩),.int .i64 f,.int .i64 d] w (MvP P B S cap mk X jv (Rt.fwdN S mk f d (Rt.atM S n).zH.length (d+1) n 0).1 (JI S cap ((Rt.fwdN S mk f d (Rt.atM S n).zH.length (d+1) n 0).1-n) n low) (Rt.fwdN S mk f d (Rt.atM S n).zH.length (d+1) n 0).2.1 (Rt.fwdN S mk f d (Rt.atM S n).zH.length (d+1) n 0).2.2 w):=by
 have j:0<=cap:=by have:=i.lo;omega
 obtain⟨D,A,_⟩:=mE j mk f d (Rt.atM S n).zH.length (d+1) n 0 low h.ok (by omega);refine(pe h.Yo i.Gc.Gj i.Gc.call ⟨j,i.hi⟩ (i.Gc.Gh h.ok mk i.Yw) f d o x).mono ?_;rintro e w' ⟨X',k,y,z⟩;rw[show ((XY S n low mk).m.zH.length:Int)=((Rt.atM S n).zH.length:Int)from rfl,D]at y z;exact⟨y,X',k,z,A⟩
theorem Jx.bwd (h:Jx w P B S cap n low mk X jv) (i:Cst S cap mk) (f:Int) (d:Nat) (k:0<=f/\f<=3) (o:d<=1000) (D:n+1001<=4611686018427386000):Calls Tryz.prog 67 #[.pointer (some ⟨P,0,none⟩),.int .i64 f,.int .i64 d] w (MvP P B S cap mk X jv (G7 S mk low f d (Rt.atM S n).zH.length (d+1) n 0).1 low (G7 S mk low f d (Rt.atM S n).zH.length (d+1) n 0).2.1 (G7 S mk low f d (Rt.atM S n).zH.length (d+1) n 0).2.2 w):=by
 obtain⟨A,z,_⟩:=backRun_at (cap:=cap) i.Gc.input mk low f d (Rt.atM S n).zH.length (d+1) n 0 h.ok (by omega);refine(backward_any h.Yo i.Gc i.hi ⟨n,rfl,h.ok,zB _⟩ (by omega) i.Yw f d k o).mono ?_;rintro e w' ⟨X',j,x,y⟩;rw[show ((XY S n low mk).m.zH.length:Int)=((Rt.atM S n).zH.length:Int)from rfl,A]at x y;exact⟨x,X',j,y,z⟩
end
theorem dd {M:Nat} {ty:TypeId} {tail:List Value} {m:Rt.Mc} (h:jz w M B ty tail S m X) (n:Int):Calls Tryz.prog 105 #[.pointer (some ⟨M,0,none⟩),.int .i64 n] w fun e w'=>e=.returned (.bool (Rt.xV S.zL (yM S.zL n)))/\Below w.heap.size w w':=by
 have f:=zD (pQ n h.prog);clear h;go_enter func105,ntmps105;go_wp2_with fail;refine f.u.mono ?_;rintro e w1 ⟨rfl,d⟩;have i:=zD d;clear d;go_wp2;go_ret;exact⟨rfl,i.u⟩
theorem ti (X:ZK) (m:Rt.Mc) (cap:Int) (jv:Value) (low d:Int) (marks:List Bool) (l:Nat) (b:Bool):(xC X m (vF cap jv low d marks)).setIfInBounds (12+l) (.bool b)=xC X m (vF cap jv low d (marks.set l b)):=by
 rw[Xs];simp[xC,vF,bk]
theorem Zv.marked (h:Zv w P B S cap s X jv) (l:Nat) (b:Bool):vX P B S cap X X jv jv { s with marks:=s.marks.set l b } w (w.setCell ⟨P,12+l,none⟩ (.bool b)):=by
 have j:KB P jv w (w.setCell ⟨P,12+l,none⟩ (.bool b)):=⟨rfl,rfl,rfl,by simp[World.setCell],fun k _ hp _=>zO _ _ _ _ hp⟩;have o:=zf h.mc.block (12+l) (.bool b);have e:(([X.lv,X.iv,X.fv,X.vv,.int .i64 s.m.taken,X.ov,.int .i64 s.m.line,.int .i64 s.m.fin]++vF cap jv s.low s.idx s.marks).toArray).setIfInBounds (12+l) (.bool b)=xC X s.m (vF cap jv s.low s.idx (s.marks.set l b)):=ti X s.m cap jv s.low s.idx s.marks l b;rw[e]at o;have f:=h.mc.ru h.jr j o;have d:jv.ownBlock≠some P:=h.jrS.ne;have i:=yP (w':=w.setCell ⟨P,12+l,none⟩ (.bool b)) h.jr (fun g hg=>zO _ _ _ _ (fun e=>d (by rw[hg,show g=P from e])));exact⟨⟨f,i⟩,⟨rfl,rfl,rfl,by simp[World.setCell],fun k _ hn _=>zO _ _ _ _ (fun e=>hn (by rw[show k=P from e];exact xB ..))⟩,vd.refl _ _,fun _ h=>Or.inl h,zQ h.mc.block⟩
theorem lV (h:Zv w P B S cap s X jv) (l:Nat) (k:l < 101) (f:Rt.xV S.zL (yM S.zL l)=false):Calls Tryz.prog 63 #[.pointer (some ⟨P,0,none⟩),.int .i64 l] w fun e w'=>e=.returned (.tuple #[.bool false,.int .i64 8])/\Below w.heap.size w w':=by
 have i:=zD (dd h.mc l);rw[f]at i;have x:¬(l:Int) < 0:=by omega
 have o:¬(101:Int)<=(l:Int):=by omega
 clear h f;go_enter func63,ntmps63;go_wp2_with fail;refine i.u.mono ?_;rintro e w1 ⟨rfl,d⟩;have j:=zD d;clear d;go_wp2_with fail;refine zT (v:=.tuple #[.bool false,.int .i64 8]) ?_ rfl ⟨rfl,j.u⟩;simp[results,results63,go_sem]
theorem Ag (h:Zv w P B S cap s X jv) (x:s.marks.length=101) (l:Nat) (z:l < 101) (o:Rt.xV S.zL (yM S.zL l)=true) (b:Bool) (k:s.marks[l]?=some b):Calls Tryz.prog 63 #[.pointer (some ⟨P,0,none⟩),.int .i64 l] w fun e w'=>e=.returned (.tuple #[.bool (!b),.int .i64 0])/\vX P B S cap X X jv jv { s with marks:=s.marks.set l (!b) } w w':=by
 have y:=zD (dd h.mc l);rw[o]at y;have I:¬(l:Int) < 0:=by omega
 have A:(0:Int)<=(l:Int):=by omega
 have H:¬(101:Int)<=(l:Int):=by omega
 have G:(l:Int) < 101:=by omega
 have j:=qG h x;clear h o x;go_enter func63,ntmps63;go_wp2_with fail;refine y.u.mono ?_;rintro e w1 ⟨rfl,f⟩;have d:=j.u.1.zP f;have D:=d.ow j.u.2 l z;have J:w1.frozen? ⟨P,12+l,none⟩=false:=zS d.mc.block _;have F:=zD (fun b=>(vX.start j.u.1 f).trans (d.marked l b));have i:s.marks[l]'(by have:=j.u.2;omega)=b:=by
  rw[zJ (by have:=j.u.2;omega)]at k;exact Option.some.inj k
 rw[i]at D;clear f d i k;go_wp2_with fail;go_region;go_wp2_with fail;refine zT (v:=.tuple #[.bool (!b),.int .i64 0]) ?_ rfl ⟨rfl,(F.u _).below (zh _)⟩;simp[results,results63,go_sem]
end
end Go.Proofs.YthleadfkfnnadaaGreat
