/- The journal: the last step is withdrawn. -/
import Derived.Test.YthleadfkfnnadaaGreatCaD
import Derived.Laws.OwnMore
set_option maxHeartbeats 4000000
set_option maxRecDepth 100000
set_option linter.all false
namespace Go.Proofs.YthleadfkfnnadaaGreat
open Value renaming int->J,slice->I,pointer->H,bool->A,agg->L,tuple->E
open IntKind renaming i64->U
open Option renaming none->Z,some->Q
open Bool renaming false->W,true->D
open List renaming length->G
open Ending renaming returned->T
open Obj renaming cells->V
open Rt Go.Proofs.Tryz
open Go.RowKit
variable {cs:Array Value} {s:Ia} {cap low low' idx:Int} {marks:List Bool} {qo:List Int} {zL:List Rt.PL} {rs rs' st:List Rt.Rec} {tail tail' xs:List Value} {X X':ZK} {M B k g n P c q N jcap:Nat} {m:Rt.Mc} {S:Rt.Src} {ty t:TypeId} {jv jv' a b d e v:Value} {w w' w2 wr w1:World}
section
attribute [local go_sem ↓] Go.wp_at_zero Go.wp_at_succ
theorem oJ {BB:Nat} {fm:Rt.qS} {a1 a2 a3:Option Addr} {c1 c2 c3:Nat} (h:jz w M B ty tail S m X) (j:dL S m) (hf:qk w BB (Qd fm a1 a2 a3 c1 c2 c3) fm) (d:Rt.Small fm):Calls Tryz.prog 91 #[H (Q ⟨M,0,Z⟩),L (Qd fm a1 a2 a3 c1 c2 c3)] w (eE M B ty tail S X (Rt.perform S m fm) w):=by
 have f:=d.each;have F:=d.index;have k:=((zI w.heap.size w).alloc (zB _) (V (Qd fm a1 a2 a3 c1 c2 c3) 143)).alloc (by simp) (V #[J U 0,J U 0,I Z 0 0] 157);have bR:=qD w (V (Qd fm a1 a2 a3 c1 c2 c3) 143) (V #[J U 0,J U 0,I Z 0 0] 157);have x:=h.zP k;have i:=ZY hf k;have HL:=iX S m fm;generalize y:Rt.perform S m fm=o at *;go_enter func91,ntmps91;go_wp2_with fail
 all_goals
  first
   | (refine(Ae x j i d (by simpa using ‹(fm.kind==12)=D›)).mono ?_;rw[y])
   | (refine(nw x j i d f (by simpa using ‹(fm.kind==8)=D›)).mono ?_;rw[y])
   | (refine(setCell_any x j i d f (by simpa using ‹(fm.kind==9)=D›) F).mono ?_;rw[y])
   | (refine(AA x j i d f (by simpa using ‹(fm.kind==10)=D›)).mono ?_;rw[y])
   | (refine(sD fm a1 a2 a3 c1 c2 c3 x j (by simpa using ‹(fm.kind==11)=D›)).mono ?_;rw[y])
   | (refine(tm x j i d f (by first | exact Or.inl (by simpa using ‹(fm.kind==5)=D›)| exact Or.inr (by simpa using ‹(fm.kind==7)=D›))).mono ?_;rw[y])
   | (refine(sr x j).mono ?_;rw[<-HL (by simpa using ‹(fm.kind==8)=W›) (by simpa using ‹(fm.kind==9)=W›) (by simpa using ‹(fm.kind==10)=W›) (by simpa using ‹(fm.kind==11)=W›) (by simpa using ‹(fm.kind==5)=W›) (by simpa using ‹(fm.kind==7)=W›) (by simpa using ‹(fm.kind==12)=W›)])
  (rintro e w4 ⟨rv,X',rfl,N,A⟩;obtain⟨ad,cp,rfl⟩:=zK A;have q:=eE.held h k bR (by omega) N A;have HQ:=zD q.2;obtain⟨T,R,O⟩:=yb q.1;have z:=zS q.1;clear q N A)
  go_wp2_with fail;refine zT (v:=L #[J U o.fin,J U o.next,I ad (G o.YU) cp]) ?_ rfl (HQ.u _ _ _);simp[results,results91,go_sem,T,R,O]
theorem Bx (h:jz w M B ty tail S m X) (hm:dL S m) (b2:Rt.Small (Rt.yA S.zL m.line)) (hfw:mX S.zL S.lk):Calls Tryz.prog 51 #[H (Q ⟨M,0,Z⟩)] w (Gu M B ty tail S X m w):=by
 have c6:=h.c6;have c7:=h.c7;have HH:=zD h;have HM:=zD hm;have b8:=zQ h.block;by_cases hz:m.fin=0
 ·clear h hm;rw[hz]at c7;have a8:=(zI w.heap.size w).alloc (zB _) (V #[J U 0,.string ⟨#[]⟩,J U 0,I Z 0 0,I Z 0 0,I Z 0 0] 143);have b7:¬M=w.heap.size:=by omega
  have HF:=zD (show (yM S.zL m.line).form=Rt.yA S.zL m.line from Zk _ _);have HB:=zD a8;have HO:=zD (zN w (V #[J U 0,.string ⟨#[]⟩,J U 0,I Z 0 0,I Z 0 0,I Z 0 0] 143));clear a8;go_enter func51,ntmps51;go_wp2_with fail;apply cutL (F:=fun O a0 a1 a2 a3 c0 c1 c2 c3 wy=>iH B (yM S.zL m.line).form w O a1 a2 a3 c1 c2 c3 wy)
  ·intro HT;have b4:=zD HT;clear HT;go_region_with (first | (go_at_call 90;refine(Kp m.line (HH.u.prog.zP (zh _))).mono ?_;rintro e w1 ⟨a0,a1,a2,a3,k0,k1,k2,T,rfl,-,f,R⟩;have hf:=VA a0 (yM S.zL m.line).yY.length k0 (yM S.zL m.line).form.kind (yM S.zL m.line).form.name (yM S.zL m.line).form.cells a1 (yM S.zL m.line).form.params.length k1 a2 (yM S.zL m.line).form.index.length k2 a3 (yM S.zL m.line).form.values.length T (yM S.zL m.line).depth (yM S.zL m.line).opener (Rt.jR S.lk m.line).1 (Rt.jR S.lk m.line).2 (yM S.zL m.line).proc;have HR:=zD (iH.one (yh R) f);clear R f)| (go_at_call 90;refine(Kp m.line (HH.u.prog.zP (HB.u.drew))).mono ?_;rintro e w1 ⟨a0,a1,a2,a3,k0,k1,k2,T,rfl,-,f,R⟩;have hf:=VA a0 (yM S.zL m.line).yY.length k0 (yM S.zL m.line).form.kind (yM S.zL m.line).form.name (yM S.zL m.line).form.cells a1 (yM S.zL m.line).form.params.length k1 a2 (yM S.zL m.line).form.index.length k2 a3 (yM S.zL m.line).form.values.length T (yM S.zL m.line).depth (yM S.zL m.line).opener (Rt.jR S.lk m.line).1 (Rt.jR S.lk m.line).2 (yM S.zL m.line).proc;have hO:=zU HO.u (yh R);have HR:=zD (iH.two (HB.u.trans ((yh R).mono (by simp))) hO f (zB _));obtain⟨y0,y1,y2,y3,y4,y5,z0,z1,z2,z3,z4,z5⟩:=YD hO;have yz:=zQ hO;clear R f hO))
   all_goals
    rename_i hKK;refine hKK _ _ ?_;have A:=HR.u;revert A
    first
     | (generalize w1.alloc (V (Qd (yM S.zL m.line).form a1 a2 a3 k1 k2 T) 143)=wy;generalize w1.heap.size=O)
     | (generalize W6 w1 w.heap.size (J U (yM S.zL m.line).form.kind) (.string (yM S.zL m.line).form.name) (J U (yM S.zL m.line).form.cells) (I a1 (yM S.zL m.line).form.params.length k1) (I a2 (yM S.zL m.line).form.index.length k2) (I a3 (yM S.zL m.line).form.values.length T)=wy;generalize w.heap.size=O)
    intro A;exact b4.u _ a0 _ _ _ k0 _ _ _ _ A
  ·intro O a0 a1 a2 a3 c0 c1 c2 c3 wy hR;have HS:=zD (show Rt.qd S m=if (Rt.perform S m (Rt.yA S.zL m.line)).fin=0 then ({ (Rt.perform S m (Rt.yA S.zL m.line)).m with line:=Rt.goOn S.zL S.lk 102 (Rt.perform S m (Rt.yA S.zL m.line)).next },(Rt.perform S m (Rt.yA S.zL m.line)).YU)else ({ m with fin:=(Rt.perform S m (Rt.yA S.zL m.line)).fin },[Rt.stay m.line]) by unfold Rt.qd;rw[zE hz]);rw[HF.u]at hR ⊢;obtain⟨x,bO,f,d0⟩:=hR;have hY:=HH.u.zP x;obtain⟨y0,y1,y2,y3,y4,y5,z0,z1,z2,z3,z4,z5⟩:=YD bO;go_wp2_with fail;refine(oJ hY HM.u f b2).mono ?_;rintro e w4 ⟨rv,X',rfl,ha,ho⟩;have b5:=zD (iZ S m (Rt.yA S.zL m.line));have HRG:=zD (iW S m (Rt.yA S.zL m.line));generalize Rt.perform S m (Rt.yA S.zL m.line)=o at *;obtain⟨ad,cp,rfl⟩:=zK ho;have d:=Z8.from HH.u x ha;have a6:=yn ho x.size;have y:=(zI w4.heap.size w4).alloc (zB _) (V #[J U o.fin,J U o.next,I ad (G o.YU) cp] 157);have HA5:=XX (d.below y) (yG a6 y) (zN w4 (V #[J U o.fin,J U o.next,I ad (G o.YU) cp] 157));have b6:=zD d;have d3:M < w4.heap.size:=zX d.lt d.vz.size;have d2:¬M=w4.heap.size:=by omega
   have d1:w.heap.size<=w4.heap.size:=d.vz.size;have d7:=d.mc.c7;have d6:=d.mc.c6;have e7:=d.mc.fz 7;have e6:=d.mc.fz 6;clear ha ho d a6 y hY f bO y0 y1 y2 y3 y4 y5 z0 z1 z2 z3 z4 z5 c6 c7;by_cases hfn:o.fin=0
   ·replace HS:=zD (HS.u.trans (zE hfn))
    have a7:(o.fin != 0)=W:=by simpa using hfn
    rw[hfn]at HA5;go_wp2_with fail;go_region_with ((go_at_call 92;refine(pW o.next (HA5.u.1.mc.prog.zP (zh _)) HM.u.zL hfw HRG.u).mono ?_;rintro e w6 ⟨rfl,j⟩;have i:=yh j;obtain⟨a9,a5,b1⟩:=HA5.u;have hA6:=a9.below i;have ho6:=yG a5 i;have b0:=zU b1 i;have g6:=hA6.mc.c6;have k6:=hA6.mc.fz 6;obtain⟨r0,r1,r2⟩:=yb b0;have N:=zD (hA6.own (m':={ o.m with line:=Rt.goOn S.zL S.lk 102 o.next }) 6 (J U (Rt.goOn S.zL S.lk 102 o.next)) (by simp[xC]) rfl rfl rfl);have L:=zD (yP (w':=w6.setCell ⟨M,6,Z⟩ (J U (Rt.goOn S.zL S.lk 102 o.next))) ho6 (fun g hg=>zO w6 ⟨M,6,Z⟩ _ g (by have:=(ho6.lt g hg).1;show g≠M;omega)));clear a9 a5 b1 hA6 ho6 b0 i j))
    all_goals
     clear d6 d7 e6 e7;go_wp2;go_ret;exact⟨_,_,rfl,by rw[HS.u];exact N.u,by rw[HS.u];exact L.u⟩
   ·replace HS:=zD (HS.u.trans (zA hfn))
    have a7:(o.fin != 0)=D:=by simpa using hfn
    have b3:=b5.u hfn;have z:=b6.u;rw[b3]at z d6 d7;have hA6:=(z.own (m':={ m with fin:=o.fin }) 7 (J U o.fin) (by simp[xC]) rfl rfl rfl).below ((zI _ _).alloc (zB _) (V #[J U o.fin,J U o.next,I ad (G o.YU) cp] 157));have a4:((w4.setCell ⟨M,7,Z⟩ (J U o.fin)).alloc (V #[J U o.fin,J U o.next,I ad (G o.YU) cp] 157)).heap.size=w4.heap.size+1:=by simp[World.setCell]
    have N:=zD (hA6.below ((zI _ _).alloc (zB _) (V #[J U 1,J U m.line,J U 0,J U 0,J U 0] 162)));have k:=lH 1 ((w4.setCell ⟨M,7,Z⟩ (J U o.fin)).alloc (V #[J U o.fin,J U o.next,I ad (G o.YU) cp] 157)) w.heap.size #[J U 1,J U m.line,J U 0,J U 0,J U 0] (hA6.vz.size) rfl (by omega);rw[a4]at k;have L:=zD k;clear z hA6 k a4;go_wp2;go_ret;exact⟨_,_,rfl,by rw[HS.u];exact N.u,by rw[HS.u];exact L.u⟩
 ·have b9:(m.fin != 0)=D:=by simpa using hz
  have HS:=zD (show Rt.qd S m=(m,[]) by unfold Rt.qd;rw[zA hz]);clear h hm;go_enter func51,ntmps51;go_wp2;go_ret;exact⟨_,X,rfl,by rw[HS.u];exact Z8.start HH.u (zI _ _),by rw[HS.u];exact zW _ _ _ _⟩
theorem ur (h:jz w M B ty tail S m X):Calls Tryz.prog 50 #[H (Q ⟨M,0,Z⟩)] w fun e w'=>e=T (J U m.fin)/\w'=w:=by
 have d:=h.c7;clear h;go_enter func50,ntmps50;go_wp2;go_ret;exact⟨rfl,rfl⟩
theorem IW (h:jz w M B ty tail S m X) (hl:G m.output<=1000):Calls Tryz.prog 52 #[H (Q ⟨M,0,Z⟩)] w fun e w'=>Below w.heap.size w w'/\∃v,e=T v/\w'.ownsRow w.heap.size 3 1 v (G m.output) (xR m.output):=by
 obtain⟨i0,L,D,A,a0⟩:=yi XL;have c5:=h.c5;have z:=h.out;have f:kA w X.ov m.output:=by
  obtain⟨O,N,e⟩:=zK z;refine⟨O,N,e,?_⟩;by_cases hn:m.output=[]
  ·exact Or.inl hn
  ·refine Or.inr ?_;have x:0 < G m.output:=kO.mpr hn;obtain⟨g,cap,I,_,_,_⟩:=yD z (j:=0) (u:=J U m.output[0]) (by simp[xR,x]);refine⟨g,0,by rw[e]at I;injection I,fun j hj=>?_⟩;obtain⟨g',cap',F,_,_,hc⟩:=yD z (j:=j) (u:=J U m.output[j]) (by simp[xR,hj]);have e1:g=g':=by
    have h1:X.ov.ownBlock=Q g:=by rw[I];rfl
    have V:X.ov.ownBlock=Q g':=by rw[F];rfl
    rw[h1]at V;exact Option.some.inj V
   subst e1;rw[xW];exact hc
 obtain⟨O,N,y⟩:=zK z;rw[y]at c5 f;have HS:=zD f;clear h z f y;go_enter func52,ntmps52;go_wp2_with (at_builtin;refine Qh _ rfl _ _ 24 24 rfl w.heap.size 3 i0 _ underlying24 L D A (by omega) rfl _ 0 [] rfl (zW _ _ _ _) _ (G m.output) (m.output.map (Value.int U)) rfl HS.u.src ?c1 ?c2 ?_)
 case c1=>omega
 case c2=>exact zB _
 intro v' w3 o d;have R:Below w.heap.size w w3:=⟨d.os,d.tape,d.output,d.size,fun k hk=>d.block k hk (by simp[Value.ownBlock])⟩;have i:w3.ownsRow w.heap.size 3 1 v' (G m.output) (xR m.output):=o;have W:=qG R i;clear R o i d;go_wp2;go_ret;exact⟨W.u.1,_,rfl,W.u.2⟩
theorem jz.Gg {M':Nat} {ty':TypeId} (h:jz w M B ty tail S m X) (j:Below w.heap.size w w') (f:w'.heap[M']?=Q (V (xC X m tail') ty' (0,0))) (i:FE ty'):jz w' M' B ty' tail' S m X:=by
 have d:=h.zP j;refine⟨f,⟨zQ f,?_,d.prog.own,d.prog.lines,d.prog.gE,d.prog.len⟩,d.own,d.fl,d.vl,i⟩;have:=zC f 0 (by simp[xC]);simpa[xC] using this
theorem run_frame (f:Z8 M B ty tail S X X' m w2 wr) (d:Below w.heap.size w w2) (i:w.heap.size < M) (h:∀k∈Z4 X,w.heap.size<=k):Below w.heap.size w wr:=
 ⟨f.vz.os.trans d.os,f.vz.tape.trans d.tape,f.vz.output.trans d.output,zi d.size f.vz.size,fun j hj=>(f.vz.block j (zX hj d.size) (fun hm=>by
  rcases zw.mp hm with rfl | hm
  ·omega
  ·have:=h j hm;omega)).trans (d.block j hj)⟩
abbrev zRes:Array Value:=#[J U 0,J U 0,I Z 0 0]
def RunP (S:Rt.Src) (n:Nat) (w:World) (e:Ending) (w':World):Prop:=
 Below w.heap.size w w'/\∃v,e=T (E #[L #[J U (Rt.runM S n (Rt.firstM S)).1.fin,J U (Rt.runM S n (Rt.firstM S)).2,v],J U 0,J U 0])/\w'.ownsRow w.heap.size 3 1 v (Rt.runM S n (Rt.firstM S)).1.output.length (xR (Rt.runM S n (Rt.firstM S)).1.output)
theorem dD (P:List Rt.PL) (n:Int):Rt.yA P n=Rt.zF\/∃p∈P,Rt.yA P n=p.form:=by
 unfold Rt.yA;split
 ·exact Or.inl rfl
 ·cases e:P[n.toNat]? with
  | none=>exact Or.inl rfl
  | some p=>exact Or.inr ⟨p,qF e,rfl⟩
theorem ui (h:Rt.qx s=(0,0,zL)) (x:G qo<=100):Good (Zs s zL qo):=by
 obtain⟨y,k,_⟩:=QH h;have d:∀p∈(Zs s zL qo).zL,Rt.Small p.form:=fun p hp=>by
  obtain⟨q,o,rfl⟩:=xr.mp hp;exact y q o
 refine⟨fun n=>?_,oE h,?_⟩
 ·rcases dD (Zs s zL qo).zL n with e | ⟨p,hp,e⟩
  ·rw[e];exact eN
  ·rw[e];exact d p hp
 ·refine⟨by simpa[Zs] using k,x,by simp[Rt.firstM],by simpa[Rt.firstM,Zs] using k,by simp[Rt.firstM],?_,?_,d⟩
  ·intro f j;simp only[Rt.firstM,yN]at j;rw[j];simp[Rt.Qe]
  ·intro l i;simp only[Rt.firstM,xr]at i;obtain⟨p,hp,rfl⟩:=i;have:=(d p hp).cells;unfold Rt.ji;rw[qN];split <;> omega
end
namespace Rt
theorem aY (zL:List PL):∀(rem:List PL) (n:Nat),0 < n->nameErr zL n rem=0->∀(j:Nat) (p:PL),rem[j]?=Q p->qh zL (n+j) p=D
 | [],_,_,_,j,p,h=>by simp at h
 | q::r,n,h0,he,j,p,h=>by
  unfold nameErr at he;split at he
  ·next hq=>
   cases j with
   | zero=>simp at h;subst h;exact hq
   | succ j=>
    have:=aY zL r (n+1) (by omega) he j p (by simpa using h);rw[show n+(j+1)=n+1+j by omega];exact this
  ·omega
end Rt
theorem VR:∀(ps:List Rt.PL) (n:Nat) (bs:List Rt.Zx) (acc ls:List Rt.PL) (b2:List Rt.Zx) (p:Rt.PL),Rt.nestFrom ps n bs (p::acc)=(0,ls,b2)->0 < n->ls[0]?=Q p
 | [],n,bs,acc,ls,b2,p,h,_=>by simp[Rt.nestFrom]at h;rw[<-h.1];rfl
 | q::r,n,bs,acc,ls,b2,p,h,h0=>by
  rw[Rt.nestFrom]at h;split at h
  ·rw[yF]at h;exact VR r (n+1) _ _ ls b2 p h (by omega)
  ·simp at h;omega
theorem AZ {ps ls:List Rt.PL} {b2:List Rt.Zx} (h:Rt.nestFrom ps 1 [] [Rt.kb]=(0,ls,b2)):ls[0]?=Q Rt.kb:=VR ps 1 [] [] ls b2 Rt.kb h (by omega)
def iN (S:Rt.Src):Prop:=∀n,(Rt.yA S.zL n).kind=12->(Rt.yA S.zL n).values.length<=4
theorem Dd (h:Rt.qx s=(0,0,zL)):iN (Zs s zL qo):=by
 obtain⟨o,_,_⟩:=QH h;obtain⟨_,_,_,x,_⟩:=Rt.JG h;have k:∀p∈zL,p.form.kind=12->G p.form.values<=4:=by
  intro p hp d;obtain⟨i,f⟩:=List.mem_iff_getElem?.mp hp;cases i with
  | zero=>
   have z:zL[0]?=Q Rt.kb:=by
    obtain⟨A,j,y,_,_⟩:=Rt.JG h;exact AZ y
   rw[z]at f;injection f with f;subst f;exact absurd d (by decide)
  | succ i=>
   have:=aY zL (zL.drop 1) 1 (by omega) x i p (by rw[vp,Xs];exact f);unfold Rt.qh at this;rw[zA (by omega),zA (by omega),zA (by omega),zA (by omega),zE d,zy]at this;have j:=this.1;unfold Rt.XF at j;rw[zy,yS,yS]at j;rw[<-j.2];unfold Rt.yJ;rcases dD zL (Rt.xb zL p.form.name)with e | ⟨q,hq,e⟩
   ·rw[e];simp[Rt.zF]
   ·rw[e];exact(o q hq).params
 intro n d;rcases dD (Zs s zL qo).zL n with e | ⟨p,hp,e⟩
 ·rw[e];simp[Rt.zF]
 ·rw[e]at d ⊢;obtain⟨q,hq,rfl⟩:=xr.mp hp;exact k q hq d
def iK (m:Rt.Mc):Prop:=∀f∈m.zH,G f.params<=4
theorem CC (h:iK m) (s:Rt.Q9) {v:Int}:iK (Rt.jN m s v):=by
 unfold Rt.jN;split
 ·split
  ·exact h
  ·intro l d;obtain⟨i,f,rfl⟩:=XT.mp d;simp only[jW];split
   ·simp only[jD];exact h _ (zj _)
   ·exact h _ (zj _)
 ·exact h
theorem my (h:iK m) (f:Rt.qS) (j:f.kind=12->G f.values<=4):iK (Rt.perform S m f).m/\(Rt.perform S m f).YU.length<=5/\((Rt.perform S m f).fin=0->0 < (Rt.perform S m f).YU.length):=by
 unfold Rt.perform;simp only
 repeat' split
 all_goals first
  | (refine⟨h,by simp[Rt.ended],fun hz=>?_⟩;first | (simp;done)| exact absurd hz (by assumption)| (simp[Rt.ended]at hz;done))
  | exact⟨CC h _,by simp,by simp⟩
  | skip
 ·next hk ha hn=>
  refine⟨?_,by simp,by simp⟩;intro g hg;rcases zd.mp hg with hg | hg
  ·exact h g hg
  ·rw[yN.mp hg];have:=VG S m f.values [] ha;have:=j hk;simp only[qQ]at *;omega
 ·next hn=>
  refine⟨fun g hg=>h g (vL _ hg),?_,by simp⟩;obtain⟨k,g,d,_,i,_⟩:=gH hn;rw[i];have:=h g (by rw[d];simp);simp;omega
theorem Kw (d:iN S) (h:iK m):iK (Rt.qd S m).1/\(Rt.qd S m).2.length<=5/\(m.fin=0->0 < (Rt.qd S m).2.length):=by
 unfold Rt.qd;obtain⟨h1,h2,h3⟩:=my (S:=S) h (Rt.yA S.zL m.line) (d m.line);split
 ·simp only;split
  ·next hz=>exact⟨h1,h2,fun _=>h3 hz⟩
  ·exact⟨h,by simp,by simp⟩
 ·next hz=>exact⟨h,by simp,fun e=>absurd e hz⟩
theorem tS (S:Rt.Src):iK (Rt.firstM S):=by
 intro f d;simp only[Rt.firstM,yN]at d;rw[d];simp[Rt.Qe]
section
attribute [local go_sem ↓] Go.wp_at_zero Go.wp_at_succ
namespace Rt
def jt (r:Rec):Bool:=decide (r.kind=1)|| decide (r.kind=2)|| decide (r.kind=3)
def restLen:List Rec->Nat
 | []=>0
 | r::t=>if jt r=true then 0 else restLen t+1
def qV:List Rec->Nat
 | []=>0
 | _::t=>restLen t+1
theorem Vm:∀l:List Rec,restLen l<=G l
 | []=>zB _
 | r::t=>by
  have:=Vm t;unfold restLen;split
  ·omega
  ·simp;omega
theorem Kh (l:List Rec):qV l<=G l:=by
 cases l with
 | nil=>exact zB _
 | cons r t=>
  have:=Vm t;simp[qV];omega
theorem Zm {l:List Rec} (h:0 < G l):0 < qV l:=by
 cases l with
 | nil=>simp at h
 | cons r t=>simp[qV]
theorem dT:∀(l:List Rec) (j:Nat) (h:j < restLen l),jt (l[j]'(zX h (Vm l)))=W
 | [],j,h=>by simp[restLen]at h
 | r::t,j,h=>by
  unfold restLen at h;split at h
  ·omega
  ·next hb=>
   cases j with
   | zero=>simpa using hb
   | succ j=>exact dT t j (by omega)
theorem fR:∀(l:List Rec) (h:restLen l < G l),jt l[restLen l]=D
 | [],h=>by simp at h
 | r::t,h=>by
  by_cases hb:jt r=D
  ·have:restLen (r::t)=0:=by unfold restLen;rw[zE hb]
   simp only[this];exact hb
  ·have e:restLen (r::t)=restLen t+1:=by rw[restLen,zA hb]
   simp only[e,yH];exact fR t (by rw[e]at h;simpa using h)
theorem BC {rs:List Rec} (f:0 < k) (h:k < qV rs) (d:k < G rs):jt rs[k]=W:=by
 cases rs with
 | nil=>simp at d
 | cons r t=>
  cases k with
  | zero=>omega
  | succ k=>exact dT t k (by simp[qV]at h;omega)
theorem DK {rs:List Rec} (h:qV rs < G rs):jt rs[qV rs]=D:=by
 cases rs with
 | nil=>simp at h
 | cons r t=>
  simp only[qV,yH];exact fR t (by simpa[qV] using h)
def jnL (cap:Int):Nat->List Rec->Int->List Rec×Int
 | 0,rs,low=>(rs,low)
 | f+1,rs,low=>if cap < rs.length/\0 < rs.length then jnL cap f (rs.drop (qV rs)) (wrap64 (low+1))else (rs,low)
def QR (cap:Int) (rs:List Rec) (low:Int):List Rec×Int:=jnL cap (G rs) rs low
theorem pO (cap:Int):∀(f g:Nat) (rs:List Rec) (low:Int),G rs<=f->G rs<=g->jnL cap f rs low=jnL cap g rs low
 | 0,0,_,_,_,_=>rfl
 | 0,g+1,rs,low,h,_=>by
  have:¬(cap < G rs/\0 < G rs):=by omega
  rw[jnL,jnL,zA this]
 | f+1,0,rs,low,_,h=>by
  have:¬(cap < G rs/\0 < G rs):=by omega
  rw[jnL,jnL,zA this]
 | f+1,g+1,rs,low,h1,h2=>by
  rw[jnL,jnL];split
  ·next hc=>
   have:=Zm hc.2;exact pO cap f g _ _ (by rw[xp];omega) (by rw[xp];omega)
  ·rfl
theorem gJ {rs:List Rec} (low:Int) (h:cap < G rs/\0 < G rs):QR cap rs low=QR cap (rs.drop (qV rs)) (wrap64 (low+1)):=by
 unfold QR;have d:=Zm h.2;have:=Kh rs;cases e:G rs with
 | zero=>omega
 | succ f=>
  rw[jnL,zE h];exact pO cap _ _ _ _ (by rw[xp];omega) (zB _)
theorem Vx {rs:List Rec} (low:Int) (h:¬(cap < G rs/\0 < G rs)):QR cap rs low=(rs,low):=by
 unfold QR;cases (G rs) with
 | zero=>rfl
 | succ f=>rw[jnL,zA h]
end Rt
theorem XB (rs:List Rt.Rec):(xE rs).length=G rs*5:=by
 induction rs with
 | nil=>rfl
 | cons r t ih=>
  simp only[xE,Q0,ze,yE]at ih ⊢;simp[YV]at ih ⊢;omega
theorem Z0 {a b:List Rt.Rec}:xE (a++b)=xE a++xE b:=by simp[xE]
theorem VO (rs:List Rt.Rec) (i:Nat) (h:i < G rs) (j:Nat) (f:j < 5):(xE rs)[i*5+j]?=(YV rs[i])[j]?:=by
 conv=>lhs;rw[<-kt i rs,Z0]
 have d:(xE (rs.take i)).length=i*5:=by rw[XB,jw,vD (by omega)]
 rw[yU (by omega),d,zZ h];have:i*5+j-i*5=j:=by omega
 rw[this];show (YV rs[i]++xE (rs.drop (i+1)))[j]?=_;rw[yp (by simp[YV];omega)]
theorem sB {cap:Nat} (h:w.ownsRow B 162 5 (I (Q ⟨g,0,Z⟩) n cap) n (xE rs)) (i:Nat) (x:i < G rs):w.cell? ⟨g,i*5,Z⟩=Q (J U rs[i].kind)/\w.cell? ⟨g,i*5+1,Z⟩=Q (J U rs[i].line)/\w.cell? ⟨g,i*5+2,Z⟩=Q (J U rs[i].at_.line)/\w.cell? ⟨g,i*5+3,Z⟩=Q (J U rs[i].at_.cell)/\w.cell? ⟨g,i*5+4,Z⟩=Q (J U rs[i].value):=by
 have d:∀j u,j < 5->(YV rs[i])[j]?=Q u->w.cell? ⟨g,i*5+j,Z⟩=Q u:=by
  intro j u o k;obtain⟨g',cap',f,_,_,y⟩:=yD h (j:=i*5+j) (u:=u) (by rw[VO rs i x j o];exact k);simp at f;obtain⟨rfl,rfl⟩:=f;exact y
 exact⟨d 0 _ (by omega) rfl,d 1 _ (by omega) rfl,d 2 _ (by omega) rfl,d 3 _ (by omega) rfl,d 4 _ (by omega) rfl⟩
theorem tn (w:World) (r:Rt.Rec):Calls Tryz.prog 189 #[L #[J U r.kind,J U r.line,J U r.at_.line,J U r.at_.cell,J U r.value]] w fun e w'=>e=T (A (jt r))/\Below w.heap.size w w':=by
 have f:=(zI w.heap.size w).alloc (zB _) (V #[J U r.kind,J U r.line,J U r.at_.line,J U r.at_.cell,J U r.value] 162);by_cases h1:r.kind=1
 ·have d:=zD (show jt r=D by simp[jt,h1]);have j:(r.kind==1)=D:=by simpa using h1
  clear h1;go_enter func189,ntmps189;go_wp2;go_ret;exact⟨by rw[d.u];rfl,f⟩
 ·have j:(r.kind==1)=W:=by simpa using h1
  by_cases h2:r.kind=2
  ·have d:=zD (show jt r=D by simp[jt,h2]);have i:(r.kind==2)=D:=by simpa using h2
   clear h1 h2;go_enter func189,ntmps189;go_wp2;go_ret;exact⟨by rw[d.u];rfl,f⟩
  ·have i:(r.kind==2)=W:=by simpa using h2
   by_cases h3:r.kind=3
   ·have d:=zD (show jt r=D by simp[jt,h3]);have h:(r.kind==3)=D:=by simpa using h3
    clear h1 h2 h3;go_enter func189,ntmps189;go_wp2;go_ret;exact⟨by rw[d.u];rfl,f⟩
   ·have d:=zD (show jt r=W by simp[jt,h1,h2,h3]);have h:(r.kind==3)=W:=by simpa using h3
    go_enter func189,ntmps189;go_wp2;go_ret;exact⟨by rw[d.u];rfl,f⟩
structure aD (w:World) (P:Nat) (ty:TypeId) (cs:Array Value) (cap:Int) (rs:List Rt.Rec) (low:Int) (jv:Value):Prop where
 block:w.heap[P]?=some (.cells cs ty (0,0))
 c8:cs[8]?=some (.int .i64 cap)
 c9:cs[9]?=some jv
 GF:cs[10]?=some (.int .i64 low)
 own:w.ownsRow 0 162 5 jv rs.length (xE rs)
 ty:ty≠162
theorem aD.zP (h:aD w P ty cs cap rs low jv) (d:Below w.heap.size w w'):aD w' P ty cs cap rs low jv:=
 ⟨zU h.block d,h.c8,h.c9,h.GF,yG h.own d,h.ty⟩
section
variable {w:World} {P:Nat} {ty:TypeId} {cs:Array Value} {cap:Int} {rs:List Rt.Rec} {low:Int} {jv:Value} (h:aD w P ty cs cap rs low jv)
include h
theorem aD.k8:w.cell? ⟨P,8,Z⟩=Q (J U cap):=(vj w P 8 cs ty (0,0) h.block).trans h.c8
theorem aD.k9:w.cell? ⟨P,9,Z⟩=Q jv:=(vj w P 9 cs ty (0,0) h.block).trans h.c9
theorem aD.ud:w.cell? ⟨P,10,Z⟩=Q (J U low):=(vj w P 10 cs ty (0,0) h.block).trans h.GF
theorem aD.fz (i:Nat):w.frozen? ⟨P,i,Z⟩=W:=zS h.block i
theorem aD.ne:jv.ownBlock≠Q P:=by
 intro e;obtain⟨c,d⟩:=yW h.own e;rw[h.block]at d;injection d with d;injection d with _ d;exact h.ty d
end
theorem nW (h:aD w P ty cs cap rs low jv) (hl:G rs<=1000):Calls Tryz.prog 210 #[H (Q ⟨P,8,Z⟩)] w fun e w'=>e=T (J U ((qV rs:Nat):Int))/\Below w.heap.size w w':=by
 obtain⟨ad,A,rfl⟩:=zK h.own;have O:=zD h;go_enter func210,ntmps210;go_wp2_with fail;go_loopw [3] (fun c wr=>∃k:Nat,k<=G rs/\c=J U k/\(0 < k->0 < G rs/\k<=qV rs)/\Below w.heap.size w wr) (fun c _=>G rs+1-(intOf c).toNat)
 case atStart=>exact⟨0,zo _,rfl,fun h=>by omega,zI _ _⟩
 case round=>
  obtain⟨k,hk,rfl,d,f⟩:=hrel;have x:=O.u.zP f;have k9:=x.k9;by_cases hlt:k < G rs
  ·have i:(k:Int) < (G rs:Int):=by omega
   obtain⟨g,gc,I,F,_⟩:=yD x.own (j:=k*5) (u:=J U rs[k].kind) (by have:=VO rs k hlt 0 (by omega);simpa[YV] using this);simp at I;obtain⟨rfl,rfl⟩:=I;obtain⟨r0,r1,r2,r3,V⟩:=sB x.own k hlt;have o:=zD f;by_cases hz:k=0
   ·subst hz;have N:=zD (show 0 < G rs/\1<=qV rs from⟨hlt,Zm hlt⟩);go_wp2_with fail;exact⟨⟨1,by omega,rfl,fun _=>N.u,o.u⟩,by simp[intOf]⟩
   ·have L:((k:Int)==0)=false:=by rw[zV];omega
    have HIN:=zD (d (by omega));have R:=zD (fun (W:World)=>tn W rs[k]);have M:=zD (show jt rs[k]=D->k=qV rs from fun e=>by
     have:=(d (by omega)).2;by_cases hke:k=qV rs
     ·exact hke
     ·rw[BC (by omega) (by omega) hlt]at e;cases e)
    have z:=zD (show jt rs[k]=false->k+1<=qV rs from fun e=>by
     have:=(d (by omega)).2;by_cases hke:k=qV rs
     ·subst hke;rw[DK hlt]at e;cases e
     ·omega)
    generalize rs[k]=r at *;go_wp2_with fail;refine(R.u _).mono ?_;rintro e w1 ⟨rfl,y⟩;have HB1:=zD (o.u.trans (y.mono o.u.size));cases hb:jt r with
    | true=>
     have HE:=zD (M.u hb);go_wp2;go_ret;exact⟨by rw[<-HE.u];rfl,HB1.u⟩
    | false=>
     have HE:=zD (z.u hb);go_wp2;go_roundw
     ·exact⟨k+1,by omega,by go_num,fun _=>⟨HIN.u.1,HE.u⟩,HB1.u⟩
     ·simp[intOf];omega
  ·have i:¬(k:Int) < (G rs:Int):=by omega
   have HE:=zD (show k=qV rs by
    have:=Kh rs;by_cases h0:0 < k
    ·have:=d h0;omega
    ·omega)
   have o:=zD f;go_wp2;go_ret;exact⟨by rw[<-HE.u];rfl,o.u⟩
structure KB (P:Nat) (jv:Value) (w w':World):Prop where
 os:w'.os=w.os
 tape:w'.tape=w.tape
 output:w'.output=w.output
 size:w.heap.size<=w'.heap.size
 block:∀k,k < w.heap.size->k≠P->jv.ownBlock≠some k->w'.heap[k]?=w.heap[k]?
theorem KB.jQ (jv:Value) (h:Below w.heap.size w w'):KB P jv w w':=⟨h.os,h.tape,h.output,h.size,fun k hk _ _=>h.block k hk⟩
theorem KB.trans {P:Nat} {jv jv':Value} {w w1 w2:World} (h:KB P jv w w1) (d:KB P jv' w1 w2) (hg:∀g,jv'.ownBlock=Q g->jv.ownBlock=Q g\/w.heap.size<=g):KB P jv w w2:=
 ⟨d.os.trans h.os,d.tape.trans h.tape,d.output.trans h.output,zi h.size d.size,fun k hk hp hv=>(d.block k (zX hk h.size) hp (fun e=>by rcases hg k e with e | e;exact hv e;omega)).trans (h.block k hk hp hv)⟩
theorem ES {n' cap size:Nat} {a b:List Value} (h:w.ownsRow B t size (I (Q ⟨g,0,Z⟩) n cap) n (a++b)) (f:n'<=n) (d:G a=n'*size):w.ownsRow B t size (I (Q ⟨g,0,Z⟩) n' cap) n' a:=by
 obtain⟨_,h2⟩:=h;rcases h2 with⟨h0,_⟩| ⟨g',cap',cur,hv,hg,hh,hc,hm,hs,ht⟩
 ·cases h0
 ·cases hv;refine⟨d,.inr ⟨g,cap,cur,rfl,hg,hh,by omega,hm,hs,?_⟩⟩;have:=qB (List.take (n'*size)) ht;rw[Ko,J4 d,vD (Nat.mul_le_mul_right _ f)]at this;exact this
def Zf (rs:List Rt.Rec) (c k:Nat):List Rt.Rec:=(rs.drop c).take k++rs.drop k
theorem dR (h:c+k<=G rs):(Zf rs c k).length=G rs:=by
 unfold Zf;simp;omega
theorem ri (h:c+k < G rs):(Zf rs c k)[c+k]?=Q rs[c+k]:=by
 unfold Zf;have d:((rs.drop c).take k).length=k:=by simp;omega
 rw[yU (by omega),d,vp,show k+(c+k-k)=c+k by omega,zJ h]
theorem mi (h:c+k < G rs):(Zf rs c k).set k rs[c+k]=Zf rs c (k+1):=by
 unfold Zf;have d:((rs.drop c).take k).length=k:=by simp;omega
 rw[qe _ _ (by omega),d,jC,zZ (show k < G rs by omega),List.set_cons_zero,kI,vp,zJ h];simp
theorem iT (rs:List Rt.Rec) (i:Nat) (h:i < G rs) (r:Rt.Rec):xE (rs.set i r)=(((((xE rs).set (i*5) (J U r.kind)).set (i*5+1) (J U r.line)).set (i*5+2) (J U r.at_.line)).set (i*5+3) (J U r.at_.cell)).set (i*5+4) (J U r.value):=by
 have d:(xE (rs.take i)).length=i*5:=by rw[XB,jw,vD (by omega)]
 have j:rs.set i r=rs.take i++r::rs.drop (i+1):=List.set_eq_take_append_cons_drop.trans (by rw[zE h]);have f:xE rs=xE (rs.take i)++(YV rs[i]++xE (rs.drop (i+1))):=by
  conv=>lhs;rw[<-kt i rs,Z0,zZ h]
  rfl
 rw[j,Z0,f];rw[qe _ _ (by omega),qe _ _ (by omega),qe _ _ (by omega),qe _ _ (by omega),qe _ _ (by omega),d];have z:i*5-i*5=0:=by omega
 have y:i*5+1-i*5=1:=by omega
 have x:i*5+2-i*5=2:=by omega
 have o:i*5+3-i*5=3:=by omega
 have k:i*5+4-i*5=4:=by omega
 rw[z,y,x,o,k];rfl
abbrev tz (w:World) (g k:Nat) (a b c d e:Value):World:=((((w.setCell ⟨g,k,Z⟩ a).setCell ⟨g,k+1,Z⟩ b).setCell ⟨g,k+2,Z⟩ c).setCell ⟨g,k+3,Z⟩ d).setCell ⟨g,k+4,Z⟩ e
theorem sA {cap:Nat} (h:w.ownsRow B 162 5 (I (Q ⟨g,0,Z⟩) n cap) n (xE rs)) (i:Nat) (d:i < G rs) (r:Rt.Rec):(tz w g (i*5) (J U r.kind) (J U r.line) (J U r.at_.line) (J U r.at_.cell) (J U r.value)).ownsRow B 162 5 (I (Q ⟨g,0,Z⟩) n cap) n (xE (rs.set i r)):=by
 rw[iT rs i d r];exact(((((h.stored _ _).1.stored _ _).1.stored _ _).1.stored _ _).1.stored _ _).1
theorem BV {c:Value} (f:q≠g):(tz w g k a b c d e).heap[q]?=w.heap[q]?:=by
 simp only[tz]
 repeat rw[zO _ _ _ _ f]
theorem Dj {c:Value} {q:Addr} (h:w.cell? q=Q v) (hq:q.block≠g\/k+5<=q.off):(tz w g k a b c d e).cell? q=Q v:=by
 have f:∀j,j < 5->q≠⟨g,k+j,Z⟩:=fun j hj e=>by
  rw[e]at hq;rcases hq with hq | hq
  ·exact hq rfl
  ·simp at hq;omega
 simp only[tz];rw[xD _ _ _ _ (xK (f 4 (by omega))),xD _ _ _ _ (xK (f 3 (by omega))),xD _ _ _ _ (xK (f 2 (by omega))),xD _ _ _ _ (xK (f 1 (by omega))),xD _ _ _ _ (xK (f 0 (by omega)):(⟨g,k,Z⟩:Addr)≠q)];exact h
theorem BD {a:Addr}:w.drew.cell? a=w.cell? a:=rfl
theorem JU {c:Value} {q:Addr} (h:w.cell? q=Q v) (f:q.block≠g\/k+5<=q.off):(tz w g k a b c d e).drew.cell? q=Q v:=(BD).trans (Dj h f)
theorem KB.put (i:Nat) (v:Value):KB P (I (Q ⟨g,0,Z⟩) n c) w (w.setCell ⟨g,i,Z⟩ v):=⟨rfl,rfl,rfl,by simp[World.setCell],fun k _ _ hv=>zO w ⟨g,i,Z⟩ v k (fun e=>hv (by rw[show k=g from e];rfl))⟩
theorem KB.tz {P:Nat} {w:World} {g n c k:Nat} {a b x d e:Value}:KB P (I (Q ⟨g,0,Z⟩) n c) w (tz w g k a b x d e):=
 ((((KB.put k a).trans (KB.put (k+1) b) (fun _ h=>Or.inl h)).trans (KB.put (k+2) x) (fun _ h=>Or.inl h)).trans (KB.put (k+3) d) (fun _ h=>Or.inl h)).trans (KB.put (k+4) e) (fun _ h=>Or.inl h)
theorem B1 {l l':List Rt.Rec} {c:Value} (f:aD wr P ty cs cap l low (I (Q ⟨g,0,Z⟩) N jcap)) (k:KB P (I (Q ⟨g,0,Z⟩) N jcap) w wr) (i:(tz wr g q a b c d e).ownsRow 0 162 5 (I (Q ⟨g,0,Z⟩) N jcap) N (xE l')) (o:G l'=N):aD (tz wr g q a b c d e).drew P ty cs cap l' low (I (Q ⟨g,0,Z⟩) N jcap)/\KB P (I (Q ⟨g,0,Z⟩) N jcap) w (tz wr g q a b c d e).drew:=by
 have j:P≠g:=fun e=>f.ne (by rw[e];rfl);have h1:aD (tz wr g q a b c d e) P ty cs cap l' low (I (Q ⟨g,0,Z⟩) N jcap):=⟨by rw[BV j];exact f.block,f.c8,f.c9,f.GF,by rw[o];exact i,f.ty⟩;have h2:KB P (I (Q ⟨g,0,Z⟩) N jcap) wr (Go.Proofs.YthleadfkfnnadaaGreat.tz wr g q a b c d e):=KB.tz;revert h1 h2;generalize tz wr g q a b c d e=wq;intro h1 h2;exact⟨h1.zP (zh _),(k.trans h2 (fun _ h=>Or.inl h)).trans (KB.jQ _ (zh _)) (fun _ h=>Or.inl h)⟩
theorem aD.two (h:aD w P ty cs cap rs low jv) (d:w.ownsRow 0 162 5 jv' (G rs') (xE rs')):aD ((w.setCell ⟨P,9,Z⟩ jv').setCell ⟨P,10,Z⟩ (J U low')) P ty ((cs.setIfInBounds 9 jv').setIfInBounds 10 (J U low')) cap rs' low' jv'/\KB P jv w ((w.setCell ⟨P,9,Z⟩ jv').setCell ⟨P,10,Z⟩ (J U low')):=by
 have j:10 < cs.size:=by
  have:=h.GF;exact(Zd.mp this).1
 have i:∀g,jv'.ownBlock=Q g->g≠P:=fun g hg e=>by
  obtain⟨c,f⟩:=yW d hg;rw[e,h.block]at f;injection f with f;injection f with _ f;exact h.ty f
 refine⟨⟨zf (zf h.block 9 jv') 10 (J U low'),?_,?_,?_,?_,h.ty⟩,?_⟩
 ·rw[xn (by omega),xn (by omega)];exact h.c8
 ·rw[xn (by omega),qj (by omega)]
 ·rw[qj (by simp;omega)]
 ·exact yP d (fun g hg=>by rw[zO _ _ _ _ (i g hg),zO _ _ _ _ (i g hg)])
 ·exact⟨rfl,rfl,rfl,by simp[World.setCell],fun k _ hp _=>by rw[zO _ _ _ _ hp,zO _ _ _ _ hp]⟩
theorem Ar (h:aD w P ty cs cap rs low jv) (hl:G rs<=1000) (h0:0 < G rs):Calls Tryz.prog 188 #[H (Q ⟨P,8,Z⟩)] w fun e w'=>e=T (E #[])/\∃jv',aD w' P ty ((cs.setIfInBounds 9 jv').setIfInBounds 10 (J U (wrap64 (low+1)))) cap (rs.drop (qV rs)) (wrap64 (low+1)) jv'/\KB P jv w w'/\jv'.ownBlock=jv.ownBlock:=by
 have a5:=Zm h0;have a6:=Kh rs;obtain⟨g,jcap,rfl⟩:∃g jcap,jv=I (Q ⟨g,0,Z⟩) (G rs) jcap:=by
  rcases h.own.2 with⟨e,e2⟩| ⟨g,jcap,cur,e,_⟩
  ·omega
  ·exact⟨g,jcap,e⟩
 have HH:=zD h;go_enter func188,ntmps188;go_wp2_with fail;refine(nW h hl).mono ?_;rintro e w1 ⟨rfl,O⟩;generalize hc:qV rs=c at *;have HC:=zD hc;have HB1:=zD O;clear h O hc;go_wp2_with fail;go_loopw [3] (fun i wr=>∃n k:Nat,c+k=n/\n<=G rs/\i=J U (n:Int)/\aD wr P ty cs cap (Zf rs c k) low (I (Q ⟨g,0,Z⟩) (G rs) jcap)/\KB P (I (Q ⟨g,0,Z⟩) (G rs) jcap) w wr) (fun i _=>G rs-(intOf i).toNat)
 case atStart=>exact⟨c,0,rfl,by omega,rfl,by have:=HH.u.zP HB1.u;simpa[Zf] using this,KB.jQ _ HB1.u⟩
 case round=>
  obtain⟨n,k,N,hk,rfl,o,x⟩:=hrel;have k9:=o.k9;have D:(Zf rs c k).length=G rs:=dR (by omega);by_cases hlt:n < G rs
  ·have a0:¬g=P:=fun e=>o.ne (by rw[e];rfl);have f:=o.own;rw[D]at f;obtain⟨r0,r1,r2,r3,r4⟩:=sB f n (by omega);have z:(Zf rs c k)[n]'(by omega)=rs[n]:=by
    have:=ri (rs:=rs) (c:=c) (k:=k) (by omega);simp only[N]at this;rw[zJ (by omega)]at this;injection this
   rw[z]at r0 r1 r2 r3 r4;have HN:=zD N;have i1:(n:Int) < (G rs:Int):=by omega
   have i2:(0:Int)<=(n:Int):=by omega
   have i6:k+1<=n:=by omega
   have i3:(0:Int)<=(k:Int):=by omega
   have i4:(k:Int) < (G rs:Int):=by omega
   have i5:IntKind.i64.wrap ((n:Int)-(c:Int))=(k:Int):=by rw[yv,yC _ (by omega)];omega
   have A:=sA f k (by omega) rs[n];have F:=mi (rs:=rs) (c:=c) (k:=k) (by omega);simp only[N]at F;rw[F]at A;have HX:=XX o x A;obtain⟨t0,t1,t2,t3,t4⟩:=sB f k (by omega);have z0:=f.frozenAt (k*5);have z1:=f.frozenAt (k*5+1);have z2:=f.frozenAt (k*5+2);have z3:=f.frozenAt (k*5+3);have z4:=f.frozenAt (k*5+4);have a1:=(f.lt g rfl).2;clear o x f A z F N;generalize rs[n]=r at *;have L:=GW k9 r0 r1 r2 r3 r4;go_wp2_with fail;go_region_held3 (fun w'=>w'.cell? ⟨P,9,Z⟩=Q (I (Q ⟨g,0,Z⟩) (G rs) jcap)/\w'.cell? ⟨g,n*5,Z⟩=Q (J U r.kind)/\w'.cell? ⟨g,n*5+1,Z⟩=Q (J U r.line)/\w'.cell? ⟨g,n*5+2,Z⟩=Q (J U r.at_.line)/\w'.cell? ⟨g,n*5+3,Z⟩=Q (J U r.at_.cell)/\w'.cell? ⟨g,n*5+4,Z⟩=Q (J U r.value))
    (first | (go_keep;done)| exact⟨JU L.u.1 (Or.inl (xK a0)),JU L.u.2.1 (Or.inr (show k*5+5<=n*5 by omega)),JU L.u.2.2.1 (Or.inr (show k*5+5<=n*5+1 by omega)),JU L.u.2.2.2.1 (Or.inr (show k*5+5<=n*5+2 by omega)),JU L.u.2.2.2.2.1 (Or.inr (show k*5+5<=n*5+3 by omega)),JU L.u.2.2.2.2.2 (Or.inr (show k*5+5<=n*5+4 by omega))⟩) (fail);go_wp2_with fail;obtain⟨q1,q2,q3⟩:=HX.u;obtain⟨V,R⟩:=B1 q1 q2 q3 (dR (by have:=HN.u;omega));exact⟨⟨n+1,k+1,by have:=HN.u;omega,by omega,by go_num,V,R⟩,by simp[intOf];omega⟩
  ·have a4:k=G rs-c:=by omega
   have W:n=G rs:=by omega
   subst W;have i1:¬(G rs:Int) < (G rs:Int):=by omega
   have hrow:=o.own;rw[D]at hrow;have M:Zf rs c k=rs.drop c++rs.drop k:=by unfold Zf;rw[yw (by simp;omega)]
   rw[M,Z0]at hrow;have y:wr.ownsRow 0 162 5 (I (Q ⟨g,0,Z⟩) (G rs-c) jcap) (G rs-c) (xE (rs.drop c)):=ES hrow (by omega) (by rw[XB,xp]);have ud:=o.ud;have f9:=o.fz 9;have a7:=o.fz 10;have a2:G rs<=jcap:=by
    rcases hrow.2 with⟨e,_⟩| ⟨g',a3,cur,e,_,_,e3,_⟩
    ·cases e
    ·simp at e;omega
   have j:wr.ownsRow 0 162 5 (I (Q ⟨g,0,Z⟩) (G rs-c) jcap) (rs.drop c).length (xE (rs.drop c)):=by rw[xp];exact y
   obtain⟨V,R⟩:=o.two (low':=wrap64 (low+1)) j;have hq:∀wq,aD wq P ty ((cs.setIfInBounds 9 (I (Q ⟨g,0,Z⟩) (G rs-c) jcap)).setIfInBounds 10 (J U (wrap64 (low+1)))) cap (rs.drop c) (wrap64 (low+1)) (I (Q ⟨g,0,Z⟩) (G rs-c) jcap)->KB P (I (Q ⟨g,0,Z⟩) (G rs) jcap) wr wq->aD wq.drew P ty ((cs.setIfInBounds 9 (I (Q ⟨g,0,Z⟩) (G rs-c) jcap)).setIfInBounds 10 (J U (wrap64 (low+1)))) cap (rs.drop (qV rs)) (wrap64 (low+1)) (I (Q ⟨g,0,Z⟩) (G rs-c) jcap)/\KB P (I (Q ⟨g,0,Z⟩) (G rs) jcap) w wq.drew:=fun wq a b=>⟨by rw[HC.u];exact a.zP (zh _),(x.trans b (fun _ h=>Or.inl h)).trans (KB.jQ _ (zh _)) (fun _ h=>Or.inl h)⟩;have HF:=zD (hq _ V R);clear V R hq j;have i2:IntKind.i64.wrap ((G rs:Int)-(c:Int))=((G rs-c:Nat):Int):=by rw[yv,yC _ (by omega)];omega
   clear o x hrow y M N hk D;generalize hd:G rs-c=d at *;have i3:(0:Int)<=(d:Int):=by omega
   have i4:(d:Int)<=(jcap:Int):=by omega
   clear hd;go_wp2_with fail;go_region_law (fail)
   all_goals
    go_wp2;go_end0;exact⟨rfl,_,HF.u.1,HF.u.2,rfl⟩
theorem C1:(Tryz.prog.info? 162).map (fun i=>(i.zero,i.size,i.bytes))=Q (Q (L #[J U 0,J U 0,J U 0,J U 0,J U 0]),5,40):=by kernel_rfl
theorem wY {a' b':Value}:(((cs.setIfInBounds 9 a).setIfInBounds 10 b).setIfInBounds 9 a').setIfInBounds 10 b'=(cs.setIfInBounds 9 a').setIfInBounds 10 b':=by
 rw[Array.setIfInBounds_comm (i:=10) (j:=9) b a' (by omega),Array.setIfInBounds_setIfInBounds,Array.setIfInBounds_setIfInBounds]
theorem B2 (h:cs[10]?=Q b):(cs.setIfInBounds 9 a).setIfInBounds 10 b=cs.setIfInBounds 9 a:=by
 have d:=(Zd.mp h).1;apply Array.ext_getElem?;intro i;by_cases hi:i=10
 ·subst hi;rw[qj (by simp;omega),xn (by omega),h]
 ·rw[xn (by omega)]
theorem aD.one (h:aD w P ty cs cap rs low jv) (d:w.grownBy w1 jv.ownBlock) (i:w1.ownsRow 0 162 5 jv' (G rs') (xE rs')):aD (w1.setCell ⟨P,9,Z⟩ jv') P ty (cs.setIfInBounds 9 jv') cap rs' low jv'/\KB P jv w (w1.setCell ⟨P,9,Z⟩ jv')/\w1.cell? ⟨P,9,Z⟩=Q jv/\w1.frozen? ⟨P,9,Z⟩=W:=by
 have x:10 < cs.size:=(Zd.mp h.GF).1;have f:w1.heap[P]?=Q (V cs ty (0,0)):=(d.block P (zQ h.block) (xK h.ne)).trans h.block;have o:∀g,jv'.ownBlock=Q g->g≠P:=fun g d e=>by
  obtain⟨c,j⟩:=yW i d;rw[e,f]at j;injection j with j;injection j with _ j;exact h.ty j
 refine⟨⟨zf f 9 jv',?_,?_,?_,?_,h.ty⟩,?_,?_,?_⟩
 ·rw[xn (by omega)];exact h.c8
 ·rw[qj (by omega)]
 ·rw[xn (by omega)];exact h.GF
 ·exact yP i (fun g d=>zO _ _ _ _ (o g d))
 ·exact⟨d.os,d.tape,d.output,zi d.size (by simp[World.setCell]),fun k hk hp hv=>by rw[zO _ _ _ _ hp];exact d.block k hk (xK hv)⟩
 ·exact(vj w1 P 9 cs ty (0,0) f).trans h.c9
 ·exact zS f 9
def Au (w:World) (P:Nat):Nat:=match w.cell? ⟨P,9,none⟩with
 | some (.slice _ n _)=>n
 | _=>0
theorem Cp (h:aD w P ty cs cap rs low jv) {sv:Value} (hs:w.ownsRow B 162 5 sv (G st) (xE st)) (h0:0 < G st) (hl:G rs+G st<=1000):Calls Tryz.prog 159 #[H (Q ⟨P,8,Z⟩),sv] w fun e w'=>e=T (E #[])/\∃jv',aD w' P ty ((cs.setIfInBounds 9 jv').setIfInBounds 10 (J U (QR cap (rs++st) low).2)) cap (QR cap (rs++st) low).1 (QR cap (rs++st) low).2 jv'/\KB P jv w w'/\∀g,jv'.ownBlock=Q g->jv.ownBlock=Q g\/w.heap.size<=g:=by
 obtain⟨i0,a6,a4,a3,a2⟩:=yi C1;obtain⟨g,scap,rfl⟩:∃g scap,sv=I (Q ⟨g,0,Z⟩) (G st) scap:=by
  rcases hs.2 with⟨_,e2⟩| ⟨g,scap,cur,e,_⟩
  ·omega
  ·exact⟨g,scap,e⟩
 have A:∀j u,(xE st)[j]?=Q u->w.cell? ((⟨g,0,Z⟩:Addr).add j)=Q u:=fun j u hu=>by
  obtain⟨g',c',he,_,_,hc⟩:=yD hs hu;simp at he;obtain⟨rfl,rfl⟩:=he;rw[show (⟨g,0,Z⟩:Addr).add j=⟨g,j,Z⟩ by unfold Addr.add;split <;> simp_all];exact hc
 obtain⟨i,d,rfl⟩:=zK h.own;have k9:=h.k9;have M:=h.own;have HH:=qG h A;have N:∀u∈xE st,u.oneCell'=D:=fun u hu=>by
  obtain⟨r,_,hr⟩:=List.mem_flatMap.mp hu;simp[YV]at hr;rcases hr with rfl | rfl | rfl | rfl | rfl <;> rfl
 have HO:=zD N;go_enter func159,ntmps159;go_wp2_with (at_builtin;refine wpList_append_lies _ rfl _ _ 94 rfl 0 162 i0 _ 5 40 underlying94 a6 a4 a3 a2 rfl (by decide) _ _ _ rfl M ⟨g,0,Z⟩ (G st) scap (xE st) rfl (XB st) HH.u.2 HO.u h0 (by unfold maxLen;omega) (by omega) (zo _) w.heap.size rfl ?_);intro g1 cap1 w1 z F hat a8;obtain⟨p1,p2,p3,p4⟩:=HH.u.1.one (rs':=rs++st) F (by rw[Z0,ze];exact z);rw[<-B2 HH.u.1.GF]at p1;have HX:=XX p1 p2 (show ∀g,(Value.slice (Q ⟨g1,0,Z⟩) (G rs+G st) cap1).ownBlock=Q g->(Value.slice i (G rs) d).ownBlock=Q g\/w.heap.size<=g from fun q hq=>by
  simp[Value.ownBlock]at hq;subst hq;rcases hat with e | e
  ·exact Or.inl e
  ·exact Or.inr (by omega))
 go_wp2_with fail;go_loopw [] (fun wr=>∃(rk:List Rt.Rec) (lk:Int) (jk:Value),aD wr P ty ((cs.setIfInBounds 9 jk).setIfInBounds 10 (J U lk)) cap rk lk jk/\QR cap rk lk=QR cap (rs++st) low/\G rk<=1000/\KB P (I i (G rs) d) w wr/\∀g,jk.ownBlock=Q g->(Value.slice i (G rs) d).ownBlock=Q g\/w.heap.size<=g) (fun wr=>Au wr P)
 case atStart=>exact⟨_,_,_,HX.u.1,rfl,by simp;omega,HX.u.2.1,HX.u.2.2⟩
 case round=>
  obtain⟨rk,lk,jk,R,O,a5,V,hat⟩:=hrel;obtain⟨y,f,rfl⟩:=zK R.own;have k9:=R.k9;have k8:=R.k8;have HM:=zD (show Au wr P=G rk by unfold Au;rw[k9]);by_cases hc:cap < G rk/\0 < G rk
  ·have hc1:cap < (G rk:Int):=hc.1;have a7:(0:Int) < (G rk:Int):=by omega
   have HJ:=zD ((gJ lk hc).symm.trans O);have o:=XX R V hat;go_wp2_with fail;go_quiet (fail);go_wp2_with fail;refine(Ar (o.u.1.zP (below_drewN wr _)) a5 hc.2).mono ?_;rintro e w2 ⟨rfl,a1,k,L,x⟩;rw[wY]at k;have HZ:=XX k (((o.u.2.1.trans (KB.jQ (jv:=I y (G rk) f) (below_drewN wr _)) o.u.2.2)).trans L o.u.2.2) (show ∀g,a1.ownBlock=Q g->(Value.slice i (G rs) d).ownBlock=Q g\/w.heap.size<=g from fun g hg=>o.u.2.2 g (by rw[<-x];exact hg));obtain⟨b1,b0,rfl⟩:=zK k.own;have a0:=k.k9;have HL:=zD (show Au w2 P < Au wr P by
    rw[HM.u];unfold Au;rw[a0];have:=Zm hc.2;simp only[xp];omega)
   go_wp2;go_roundw
   ·exact⟨_,_,_,HZ.u.1,HJ.u,by rw[xp];omega,HZ.u.2.1,HZ.u.2.2⟩
   ·exact HL.u
  ·have HJ:=zD (show QR cap (rs++st) low=(rk,lk) by rw[<-O];exact Vx lk hc);have o:=zD (show aD _ _ _ _ _ _ _ _/\_/\_ from And.intro R (And.intro V hat));by_cases hc1:cap < (G rk:Int)
   ·have a7:¬(0:Int) < (G rk:Int):=by omega
    go_wp2_with fail;go_quiet (fail);go_wp2;go_end0;obtain⟨k,L,x⟩:=o.u;exact⟨rfl,_,by rw[HJ.u];exact k.zP (below_drewN wr _),L.trans (KB.jQ (jv:=I y (G rk) f) (below_drewN wr _)) x,x⟩
   ·have a9:decide (cap < (G rk:Int))=W:=by simpa using hc1
    go_wp2_with fail;go_quiet (fail);go_wp2;go_end0;obtain⟨k,L,x⟩:=o.u;exact⟨rfl,_,by rw[HJ.u];exact k.zP (below_drewN wr _),L.trans (KB.jQ (jv:=I y (G rk) f) (below_drewN wr _)) x,x⟩
namespace Rt
structure Se where
 m:Mc
 YU:List Rec
 low:Int
 idx:Int
 marks:List Bool
def Vl (S:Src) (cap:Int) (s:Se):Se:=⟨(qd S s.m).1,(QR cap (s.YU++(qd S s.m).2) s.low).1,(QR cap (s.YU++(qd S s.m).2) s.low).2,wrap64 (s.idx+1),s.marks⟩
end Rt
def vF (cap:Int) (jv:Value) (low idx:Int) (marks:List Bool):List Value:=[J U cap,jv,J U low,J U idx]++marks.map Value.bool
structure Zv (w:World) (P B:Nat) (S:Rt.Src) (cap:Int) (s:Se) (X:ZK) (jv:Value):Prop where
 mc:jz w P B 105 (vF cap jv s.low s.idx s.marks) S s.m X
 jr:w.ownsRow 0 162 5 jv s.YU.length (xE s.YU)
theorem Zv.zP {w w':World} {P B:Nat} {S:Rt.Src} {cap:Int} {s:Se} {X:ZK} {jv:Value} (h:Zv w P B S cap s X jv) (d:Below w.heap.size w w'):Zv w' P B S cap s X jv:=⟨h.mc.zP d,yG h.jr d⟩
theorem Zv.jrS {s:Se} (h:Zv w P B S cap s X jv):aD w P 105 (xC X s.m (vF cap jv s.low s.idx s.marks)) cap s.YU s.low jv:=
 ⟨h.mc.block,by simp[xC,vF],by simp[xC,vF],by simp[xC,vF],h.jr,by decide⟩
structure SFr (P:Nat) (X:ZK) (jv:Value) (w w':World):Prop where
 os:w'.os=w.os
 tape:w'.tape=w.tape
 output:w'.output=w.output
 size:w.heap.size<=w'.heap.size
 block:∀k,k < w.heap.size->k∉P::Z4 X->jv.ownBlock≠some k->w'.heap[k]?=w.heap[k]?
theorem SFr.jQ (X:ZK) (jv:Value) (h:Below w.heap.size w w'):SFr P X jv w w':=⟨h.os,h.tape,h.output,h.size,fun k hk _ _=>h.block k hk⟩
structure vX (P B:Nat) (S:Rt.Src) (cap:Int) (X X':ZK) (jv jv':Value) (s':Se) (w w':World):Prop where
 Yo:Zv w' P B S cap s' X' jv'
 vz:SFr P X jv w w'
 grow:vd w (Z4 X) (Z4 X')
 jg:∀g,jv'.ownBlock=some g->jv.ownBlock=some g\/w.heap.size<=g
 lt:P < w.heap.size
theorem vX.start {s:Se} (h:Zv w P B S cap s X jv) (d:Below w.heap.size w w'):vX P B S cap X X jv jv s w w':=
 ⟨h.zP d,SFr.jQ X jv d,vd.refl _ _,fun _ h=>Or.inl h,zQ h.mc.block⟩
theorem vX.trans {w w1 w2:World} {P B:Nat} {S:Rt.Src} {cap:Int} {s1 s2:Se} {X X1 X2:ZK} {jv jv1 jv2:Value} (h:vX P B S cap X X1 jv jv1 s1 w w1) (g:vX P B S cap X1 X2 jv1 jv2 s2 w1 w2):vX P B S cap X X2 jv jv2 s2 w w2:=by
 refine⟨g.Yo,⟨g.vz.os.trans h.vz.os,g.vz.tape.trans h.vz.tape,g.vz.output.trans h.vz.output,zi h.vz.size g.vz.size,?_⟩,h.grow.trans g.grow h.vz.size,?_,h.lt⟩
 ·intro k j f i;refine(g.vz.block k (zX j h.vz.size) (fun hm=>?_) (fun e=>?_)).trans (h.vz.block k j f i)
  ·rcases zw.mp hm with rfl | hm
   ·exact f (xB ..)
   ·rcases h.grow k hm with d | d
    ·exact f (zm _ d)
    ·omega
  ·rcases h.jg k e with d | d
   ·exact i d
   ·omega
 ·intro q hq;rcases g.jg q hq with d | d
  ·exact h.jg q d
  ·exact Or.inr (zi h.vz.size d)
theorem jz.ru (h:jz w P B ty tail S m X) (A:w.ownsRow 0 162 5 jv n xs) (hf:KB P jv w w2) (hb:w2.heap[P]?=Q (V (xC X m tail') ty (0,0))):jz w2 P B ty tail' S m X:=by
 have i:∀k,jv.ownBlock=Q k->∃c,w.heap[k]?=Q (V c 162 (0,0)):=fun k hk=>yW A hk;refine h.next hb hf.size ?_ ?_ rfl rfl h.fl h.vl
 ·intro k x y z j;rw[hf.block k (zQ y) z (fun e=>by
   obtain⟨c,f⟩:=i k e;rw[y]at f;injection f with f;obtain⟨D,F,o,j⟩:=j;rw[f]at o;injection o with _ o;rw[<-o]at j;exact absurd j (by unfold Xe;decide))]
  exact y
 ·refine⟨fun r hr=>yP (h.own.rows r hr) (fun g hg=>?_),h.own.apart⟩;obtain⟨c,f⟩:=yW (h.own.rows r hr) hg;have h3:=JF hr;refine hf.block g (zQ f) (fun e=>?_) (fun e=>?_)
  ·rw[e,h.block]at f;injection f with f;injection f with _ f;rw[<-f]at h3;rcases h3 with e | e | e
   ·exact h.ty.1 e
   ·exact h.ty.2.1 e
   ·exact h.ty.2.2.1 e
  ·obtain⟨D,d⟩:=i g e;rw[f]at d;injection d with d;injection d with _ d;rw[d]at h3;exact absurd h3 (by decide)
theorem na:((xC X m (vF cap jv low idx marks)).setIfInBounds 9 jv').setIfInBounds 10 (J U low')=xC X m (vF cap jv' low' idx marks):=by
 simp[xC,vF]
theorem BK {idx':Int}:(xC X m (vF cap jv low idx marks)).setIfInBounds 11 (J U idx')=xC X m (vF cap jv low idx' marks):=by
 simp[xC,vF]
theorem Z8.row {m':Rt.Mc} (i:jz w M B ty tail S m X) (h:Z8 M B ty tail S X X' m' w w') (j:w.ownsRow 0 162 5 jv n xs) (f:ty≠162):w'.ownsRow 0 162 5 jv n xs:=by
 refine yP j (fun g hg=>?_);obtain⟨c,d⟩:=yW j hg;rw[d];exact Z8.keeps i h d (fun e=>by
  rw[e,i.block]at d;injection d with d;injection d with _ d;exact f d) (by decide)
theorem nF {s:Se} (h:Zv w P B S cap s X jv) (hS:Good S) (L:XW S s.m) (h4:iN S) (N:iK s.m) (hz:s.m.fin=0) (hr:G s.YU<=900):Calls Tryz.prog 108 #[H (Q ⟨P,0,Z⟩)] w fun e w'=>e=T (E #[])/\∃X' jv',vX P B S cap X X' jv jv' (Vl S cap s) w w':=by
 obtain⟨_,a2,M⟩:=Kw h4 N;have F:=zQ h.mc.block;go_enter func108,ntmps108;go_wp2_with fail;refine(Bx h.mc L.Zi (hS.small _) hS.fwd).mono ?_;rintro e w1 ⟨rv,X1,rfl,d,I⟩;have i:=Z8.row h.mc d h.jr (by decide);have R:aD w1 P 105 (xC X1 (Rt.qd S s.m).1 (vF cap jv s.low s.idx s.marks)) cap s.YU s.low jv:=⟨d.mc.block,by simp[xC,vF],by simp[xC,vF],by simp[xC,vF],i,by decide⟩;obtain⟨a1,a0,rfl⟩:=zK I;have W:=gN d i h I;have HJ:=zD (Cp R I (M hz) (by omega));generalize (Rt.qd S s.m).2.length=rn at *;go_wp2_with fail;refine HJ.u.mono ?_;rintro e w2 ⟨rfl,o,f,j,q3⟩;rw[na]at f;have z:=W.u.1.mc.ru W.u.2.1 j f.block;have a4:w2.cell? ⟨P,11,Z⟩=Q (J U s.idx):=by
  have:=vj w2 P 11 _ _ _ f.block;rw[this];simp[xC,vF]
 have a3:=zS f.block 11;have D:KB P o w2 (w2.setCell ⟨P,11,Z⟩ (J U (wrap64 (s.idx+1)))):=⟨rfl,rfl,rfl,by simp[World.setCell],fun k _ N _=>zO _ _ _ _ N⟩;have b3:=zf f.block 11 (J U (wrap64 (s.idx+1)));rw[BK]at b3;have y:=z.ru f.own D b3;have x:=f.ne;have V:=yP (w':=w2.setCell ⟨P,11,Z⟩ (J U (wrap64 (s.idx+1)))) f.own (fun g hg=>zO _ _ _ _ (fun e=>x (by rw[hg,show g=P from e])));have HF:=zD (show vX P B S cap X X1 jv o (Vl S cap s) w (w2.setCell ⟨P,11,Z⟩ (J U (wrap64 (s.idx+1))))from by
  obtain⟨d,i,h,I⟩:=W.u;refine⟨⟨y,V⟩,⟨j.os.trans d.vz.os,j.tape.trans d.vz.tape,j.output.trans d.vz.output,zi d.vz.size (zi j.size D.size),?_⟩,d.grow,?_,F⟩
  ·intro k L hn hv;have A:k≠P:=fun e=>hn (by rw[e];exact xB ..);have O:k < w1.heap.size:=zX L d.vz.size;rw[zO _ _ _ _ A,j.block k O A hv];exact d.vz.block k L hn
  ·intro g hg;rcases q3 g hg with e | e
   ·exact Or.inl e
   ·exact Or.inr (zi d.vz.size e))
 go_wp2;go_end0;exact⟨rfl,_,_,HF.u⟩
namespace Rt
def kf (kind d0:Int) (d:Nat):Bool:=if kind=0 then D else if kind=1 then decide ((d:Int)<=d0)else if kind=2 then decide ((d:Int) < d0)else W
def Qk (s:Se):Bool:=decide (0<=s.m.line/\s.m.line < 101) && (s.marks[s.m.line.toNat]?).getD W
def jS (s:Se) (kind d0 mv:Int):Int:=if mv=0 then 0 else if kf kind d0 (G s.m.zH)=D then 1 else if Qk s=D then 2 else 0
def kq (s:Se) (kind fuel d0 mv:Int):Int:=if ¬s.m.fin=0 then 3 else if jS s kind d0 mv=0/\fuel<=mv then 4 else jS s kind d0 mv
end Rt
theorem dE (h:jz w M B ty tail S m X):Calls Tryz.prog 101 #[H (Q ⟨M,0,Z⟩)] w fun e w'=>e=T (J U (G m.zH:Int))/\w'=w:=by
 have j:=h.c2;obtain⟨i,f,d⟩:=zK h.zH;rw[d]at j;go_enter func101,ntmps101;go_wp2;go_ret;exact⟨rfl,rfl⟩
theorem lf (h:jz w M B ty tail S m X):Calls Tryz.prog 100 #[H (Q ⟨M,0,Z⟩)] w fun e w'=>e=T (J U m.line)/\w'=w:=by
 have d:=h.c6;go_enter func100,ntmps100;go_wp2;go_ret;exact⟨rfl,rfl⟩
theorem rz (d f:Int) (h:0<=d/\d<=3) (i:0<=f/\f<=1000):Calls Tryz.prog 106 #[J U d,J U f] w fun e w'=>e=T (J U 0)/\w'=w:=by
 go_enter func106,ntmps106;go_wp2;go_ret;exact⟨rfl,rfl⟩
abbrev om (kind fuel d0 mv:Int):Array Value:=#[J U kind,J U fuel,J U d0,J U mv]
theorem oG {s:Se} (h:Zv w P B S cap s X jv) (kind f i x:Int):Calls Tryz.prog 187 #[H (Q ⟨P,0,Z⟩),L (om kind f i x)] w fun e w'=>e=T (A (kf kind i (G s.m.zH)))/\Below w.heap.size w w':=by
 have I:=(zI w.heap.size w).alloc (zB _) (V (om kind f i x) 169);have N:=zN w (V (om kind f i x) 169);have J:=h.zP I;have o:=zD I;go_enter func187,ntmps187;go_wp2_with fail;refine(dE J.mc).mono ?_;rintro e w1 ⟨rfl,rfl⟩;generalize M:G s.m.zH=d at *;have k:=zD M;by_cases h0:kind=0
 ·have j:=zD (show kf kind i d=D by unfold kf;rw[zE h0]);have F:(kind==0)=D:=by simpa using h0
  clear h0;go_wp2;go_ret;exact⟨by rw[k.u,j.u];rfl,o.u⟩
 ·have F:(kind==0)=W:=by simpa using h0
  by_cases h1:kind=1
  ·have j:=zD (show kf kind i d=decide ((d:Int)<=i) by unfold kf;rw[zA h0,zE h1]);have z:(kind==1)=D:=by simpa using h1
   clear h0 h1;go_wp2;go_ret;exact⟨by rw[k.u,j.u];rfl,o.u⟩
  ·have z:(kind==1)=W:=by simpa using h1
   by_cases h2:kind=2
   ·have j:=zD (show kf kind i d=decide ((d:Int) < i) by unfold kf;rw[zA h0,zA h1,zE h2]);have y:(kind==2)=D:=by simpa using h2
    clear h0 h1 h2;go_wp2;go_ret;exact⟨by rw[k.u,j.u];rfl,o.u⟩
   ·have j:=zD (show kf kind i d=W by unfold kf;rw[zA h0,zA h1,zA h2]);have y:(kind==2)=W:=by simpa using h2
    go_wp2;go_ret;exact⟨by rw[k.u,j.u];rfl,o.u⟩
theorem Zv.ow {s:Se} (h:Zv w P B S cap s X jv) (d:G s.marks=101) (j:Nat) (f:j < 101):w.cell? ⟨P,12+j,Z⟩=Q (A (s.marks[j]'(by omega))):=by
 have:=vj w P (12+j) _ _ _ h.mc.block;rw[this];simp only[List.getElem?_toArray];unfold vF;rw[<-yK,yU (by simp),yt,zJ (by simp;omega)];simp
theorem rL {s:Se} (h:Zv w P B S cap s X jv) (N:G s.marks=101) (kind d d0 mv:Int):Calls Tryz.prog 158 #[H (Q ⟨P,0,Z⟩),L (om kind d d0 mv)] w fun e w'=>e=T (J U (jS s kind d0 mv))/\Below w.heap.size w w':=by
 have M:=(zI w.heap.size w).alloc (zB _) (V (om kind d d0 mv) 169);have F:=h.zP M;have A:=zD M;by_cases h0:mv=0
 ·have HE:=zD (show jS s kind d0 mv=0 by unfold jS;rw[zE h0]);have z:(mv==0)=D:=by simpa using h0
  clear h0;go_enter func158,ntmps158;go_wp2;go_ret;exact⟨by rw[HE.u];rfl,A.u⟩
 ·have z:(mv==0)=W:=by simpa using h0
  have HE:=zD (show jS s kind d0 mv=if kf kind d0 (G s.m.zH)=D then 1 else if Qk s=D then 2 else 0 by unfold jS;rw[zA h0]);go_enter func158,ntmps158;go_wp2_with fail;refine(oG F kind d d0 mv).mono ?_;rintro e w1 ⟨rfl,y⟩;have f:=zD (A.u.trans (y.mono A.u.size));have x:=F.zP y;cases hr:kf kind d0 (G s.m.zH) with
  | true=>
   replace HE:=zD (HE.u.trans (zE hr))
   go_wp2;go_ret;exact⟨by rw[HE.u];rfl,f.u⟩
  | false=>
   replace HE:=zD (HE.u.trans (show _=if Qk s=D then (2:Int)else 0 by rw[hr];rfl))
   go_wp2_with fail;refine(lf x.mc).mono ?_;rintro e w2 ⟨rfl,rfl⟩;by_cases hl:0<=s.m.line/\s.m.line < 101
   ·obtain⟨j,I⟩:=yr hl.1;have o:j < 101:=by omega
    have k:j < G s.marks:=by omega
    have R:=x.ow N j o;have i:Qk s=s.marks[j]'k:=by
     unfold Qk;rw[show decide (0<=s.m.line/\s.m.line < 101)=D by simpa using hl,I];simp[k]
    replace HE:=zD (HE.u.trans (by rw[i]))
    rw[I];generalize s.marks[j]'k=b at *;cases b with
    | true=>
     replace HE:=zD (HE.u.trans (zE rfl))
     go_wp2;go_ret;exact⟨by rw[HE.u];rfl,f.u⟩
    | false=>
     replace HE:=zD (HE.u.trans (zA (by simp)))
     go_wp2;go_ret;exact⟨by rw[HE.u];rfl,f.u⟩
   ·have i:Qk s=W:=by
     unfold Qk;rw[show decide (0<=s.m.line/\s.m.line < 101)=W by simpa using hl];rfl
    replace HE:=zD (HE.u.trans (show _=(0:Int) by rw[i];rfl))
    by_cases hl0:0<=s.m.line
    ·have O:¬s.m.line < 101:=fun e=>hl ⟨hl0,e⟩;go_wp2;go_ret;exact⟨by rw[HE.u];rfl,f.u⟩
    ·clear hl;go_wp2;go_ret;exact⟨by rw[HE.u];rfl,f.u⟩
theorem J2 {s:Se} (h:Zv w P B S cap s X jv) (F:G s.marks=101) (d fuel f mv:Int):Calls Tryz.prog 107 #[H (Q ⟨P,0,Z⟩),L (om d fuel f mv)] w fun e w'=>e=T (J U (kq s d fuel f mv))/\Below w.heap.size w w':=by
 have A:=(zI w.heap.size w).alloc (zB _) (V (om d fuel f mv) 169);have I:=zN w (V (om d fuel f mv) 169);have z:=h.zP A;have y:=zD A;go_enter func107,ntmps107;go_wp2_with fail;refine(ur z.mc).mono ?_;rintro e w1 ⟨rfl,rfl⟩;by_cases hz:s.m.fin=0
 ·have o:(s.m.fin != 0)=W:=by simpa using hz
  have HE:=zD (show kq s d fuel f mv=if jS s d f mv=0/\fuel<=mv then 4 else jS s d f mv by unfold kq;rw[zA (by simpa using hz)]);go_wp2_with fail;refine(rL z F d fuel f mv).mono ?_;rintro e w2 ⟨rfl,j⟩;have i:=zD (y.u.trans (j.mono y.u.size));have k:=zU I j;have N:w2.cell? ⟨w.heap.size,1,Z⟩=Q (J U fuel):=by have:=zC k 1 (by simp);simpa using this
  have M:w2.cell? ⟨w.heap.size,3,Z⟩=Q (J U mv):=by have:=zC k 3 (by simp);simpa using this
  generalize jS s d f mv=a at *;by_cases ha:a=0
  ·have x:(a==0)=D:=by simpa using ha
   by_cases hf:fuel<=mv
   ·replace HE:=zD (HE.u.trans (zE ⟨ha,hf⟩))
    go_wp2;go_ret;exact⟨by rw[HE.u];rfl,i.u⟩
   ·replace HE:=zD (HE.u.trans (zA (fun e=>hf e.2)))
    clear ha;go_wp2;go_ret;exact⟨by rw[HE.u];rfl,i.u⟩
  ·have x:(a==0)=W:=by simpa using ha
   replace HE:=zD (HE.u.trans (zA (fun e=>ha e.1)))
   go_wp2;go_ret;exact⟨by rw[HE.u];rfl,i.u⟩
 ·have o:(s.m.fin != 0)=D:=by simpa using hz
  have HE:=zD (show kq s d fuel f mv=3 by unfold kq;rw[zE hz]);go_wp2;go_ret;exact⟨by rw[HE.u];rfl,y.u⟩
theorem Zv.c11 {s:Se} (h:Zv w P B S cap s X jv):w.cell? ⟨P,11,Z⟩=Q (J U s.idx):=by
 have:=vj w P 11 _ _ _ h.mc.block;rw[this];simp[vF]
abbrev Yp (reason mv:Int) (s:Se):Array Value:=#[J U reason,J U mv,J U s.m.fin,J U s.m.line,J U (G s.m.zH:Int),J U s.idx]
theorem YA {b:Nat} {v0 v1 v2 v3 v4 v5:Value} (h:w.heap[b]?=Q (V #[v0,v1,v2,v3,v4,v5] t (0,0))):w.cell? ⟨b,0,Z⟩=Q v0/\w.cell? ⟨b,1,Z⟩=Q v1/\w.cell? ⟨b,2,Z⟩=Q v2/\w.cell? ⟨b,3,Z⟩=Q v3/\w.cell? ⟨b,4,Z⟩=Q v4/\w.cell? ⟨b,5,Z⟩=Q v5/\∀i,w.frozen? ⟨b,i,Z⟩=W:=by
 refine⟨?_,?_,?_,?_,?_,?_,fun i=>zS h i⟩
 ·have:=zC h 0 (by simp);simpa using this
 ·have:=zC h 1 (by simp);simpa using this
 ·have:=zC h 2 (by simp);simpa using this
 ·have:=zC h 3 (by simp);simpa using this
 ·have:=zC h 4 (by simp);simpa using this
 ·have:=zC h 5 (by simp);simpa using this
theorem iw {s:Se} (h:Zv w P B S cap s X jv):Calls Tryz.prog 59 #[H (Q ⟨P,0,Z⟩)] w fun e w'=>e=T (L (Yp 0 0 s))/\Below w.heap.size w w':=by
 have A:=h.c11;have i:=zQ h.mc.block;have d:=zD ((zI w.heap.size w).alloc (zB _) (V #[J U 0,J U 0,J U 0,J U 0,J U 0,J U 0] 111));have f:=zD h;go_enter func59,ntmps59;go_wp2_with fail;go_region_held3 (fun w'=>w'.cell? ⟨P,11,Z⟩=Q (J U s.idx)) (go_keep) (first | (go_at_call 50;refine(ur (f.u.mc.zP (d.u.drew))).mono ?_;rintro e w1 ⟨rfl,rfl⟩)| (go_at_call 100;refine(lf (f.u.mc.zP (d.u.drew))).mono ?_;rintro e w1 ⟨rfl,rfl⟩)| (go_at_call 101;refine(dE (f.u.mc.zP (d.u.drew))).mono ?_;rintro e w1 ⟨rfl,rfl⟩));go_wp2_with fail;have D:=zD (((zI w.heap.size w).alloc (zB _) (V (Yp 0 0 s) 111)).drew);have E:=zU (zN w (V (Yp 0 0 s) 111)) (zh _);refine zT (v:=L (Yp 0 0 s)) ?_ rfl ⟨rfl,D.u⟩;revert E;generalize (w.alloc (V (Yp 0 0 s) 111)).drew=wz;intro E;obtain⟨z,y,x,o,k,j,_⟩:=YA E;simp[results,results59,go_sem,z,y,x,o,k,j]
theorem wj {s:Se} (h:Zv w P B S cap s X jv) (i j D f d:Int):Calls Tryz.prog 109 #[H (Q ⟨P,0,Z⟩),L (om i j D f),J U d] w fun e w'=>e=T (L (Yp d f s))/\Below w.heap.size w w':=by
 have HH:=zD h;go_enter func109,ntmps109;go_wp2_with fail;have x:=((zI w.heap.size w).alloc (zB _) (V (om i j D f) 169)).alloc (by simp) (V #[J U 0,J U 0,J U 0,J U 0,J U 0,J U 0] 111);have bM:=yR (zN w (V (om i j D f) 169)) (V #[J U 0,J U 0,J U 0,J U 0,J U 0,J U 0] 111);have bZ:=qD w (V (om i j D f) 169) (V #[J U 0,J U 0,J U 0,J U 0,J U 0,J U 0] 111);refine(iw (HH.u.zP x)).mono ?_;rintro e w1 ⟨rfl,k⟩;have A:=zU bM k;have o:=zU bZ k;have F:=zD (x.trans (k.mono (B':=w.heap.size) (by simp;omega)));have m3:w1.cell? ⟨w.heap.size,3,Z⟩=Q (J U f):=by have:=zC A 3 (by simp);simpa using this
 obtain⟨y0,y1,y2,y3,y4,y5,z⟩:=YA o;have M:=zQ o;have I:=zQ A;have HZ:=zD o;go_wp2_with fail;have y:=YI F.u (N:=w.heap.size+1) (by omega) (J U d) (J U f) (J U s.m.fin) (J U s.m.line) (J U (G s.m.zH:Int)) (J U s.idx);have b6:(W6 w1 (w.heap.size+1) (J U d) (J U f) (J U s.m.fin) (J U s.m.line) (J U (G s.m.zH:Int)) (J U s.idx)).heap[w.heap.size+1]?=Q (V (Yp d f s) 111 (0,0)):=by
  have:=zf (zf (zf (zf (zf (zf HZ.u 0 (J U d)) 1 (J U f)) 2 (J U s.m.fin)) 3 (J U s.m.line)) 4 (J U (G s.m.zH:Int))) 5 (J U s.idx);simpa using this
 have HF:=zD (y.trans (((zI _ (W6 w1 (w.heap.size+1) (J U d) (J U f) (J U s.m.fin) (J U s.m.line) (J U (G s.m.zH:Int)) (J U s.idx))).alloc (zB _) (V (Yp d f s) 111)).mono (B':=w.heap.size) y.size));have E:=yR b6 (V (Yp d f s) 111);refine zT (v:=L (Yp d f s)) ?_ rfl ⟨rfl,HF.u⟩;revert E;generalize (W6 w1 (w.heap.size+1) (J U d) (J U f) (J U s.m.fin) (J U s.m.line) (J U (G s.m.zH:Int)) (J U s.idx)).alloc (V (Yp d f s) 111)=wz;intro E;obtain⟨x0,x1,x2,W,R,O,_⟩:=YA E;simp[results,results109,go_sem,x0,x1,x2,W,R,O]
namespace Rt
def fwdRun (S:Src) (cap kind fuel d0:Int):Nat->Se->Nat->Se×Nat×Int
 | 0,s,k=>(s,k,4)
 | f+1,s,k=>if kq s kind fuel d0 k=0 then fwdRun S cap kind fuel d0 f (Vl S cap s) (k+1)else (s,k,kq s kind fuel d0 k)
theorem ue (cap:Int):∀(f:Nat) (rs:List Rec) (low:Int),G rs<=f->0<=cap->((jnL cap f rs low).1.length:Int)<=cap
 | 0,rs,low,h,hc=>by
  have:G rs=0:=by omega
  rw[jnL];show (G rs:Int)<=cap;omega
 | f+1,rs,low,h,hc=>by
  rw[jnL];split
  ·next hh=>
   have:=Zm hh.2;exact ue cap f _ _ (by rw[xp];omega) hc
  ·next hh=>
   show (G rs:Int)<=cap;omega
theorem As (cap:Int) {rs:List Rec} (d:0<=cap):((QR cap rs low).1.length:Int)<=cap:=ue cap (G rs) rs low (zB _) d
theorem Xo {s:Se} {kind fuel d0 mv:Int} (h:kq s kind fuel d0 mv=0):s.m.fin=0/\mv < fuel:=by
 unfold kq at h;split at h
 ·omega
 ·next hz=>
  split at h
  ·omega
  ·next hn=>exact⟨Yg.mp hz,by omega⟩
end Rt
structure rT (S:Rt.Src) (cap:Int) (s:Se):Prop where
 g:XW S s.m
 p:iK s.m
 r:(s.YU.length:Int)<=cap
 ms:s.marks.length=101
theorem oA {s:Se} (f:Good S) (i:iN S) (d:0<=cap) (h:rT S cap s):rT S cap (Vl S cap s):=
 ⟨fK f h.g,(Kw i h.p).1,As cap d,h.ms⟩
def FwdP (P B:Nat) (S:Rt.Src) (cap:Int) (X:ZK) (jv:Value) (r:Se×Nat×Int) (w:World) (e:Ending) (w':World):Prop:=
 ∃X' jv',e=T (E #[L (Yp r.2.2 r.2.1 r.1),J U 0])/\vX P B S cap X X' jv jv' r.1 w w'
def bg (t:TypeId):Prop:=¬Xe t/\t≠3/\t≠153/\t≠24/\t≠162
theorem vX.keeps {s s':Se} (k:Zv w P B S cap s X jv) (h:vX P B S cap X X' jv jv' s' w w') {c:Array Value} (i:w.heap[N]?=Q (V c t (0,0))) (j:N≠P) (f:bg t):w'.heap[N]?=Q (V c t (0,0)):=by
 refine(h.vz.block N (zQ i) (fun hk=>?_) (fun e=>?_)).trans i
 ·rcases zw.mp hk with hk | hk
  ·exact j hk
  ·rw[<-k.mc.xh]at hk;exact QF k.mc.own i ⟨f.2.1,f.2.2.1,f.2.2.2.1⟩ hk
 ·obtain⟨o,d⟩:=yW k.jr e;rw[i]at d;injection d with d;injection d with _ d;exact f.2.2.2.2 d
theorem Zv.other {s:Se} (h:Zv w P B S cap s X jv) {c:Array Value} (z:w.heap[N]?=Q (V c t (0,0))) (hne:N≠P) (j:bg t) (i:Nat) (v:Value):Zv (w.setCell ⟨N,i,Z⟩ v) P B S cap s X jv:=by
 have hot:∀k,k≠N->(w.setCell ⟨N,i,Z⟩ v).heap[k]?=w.heap[k]?:=fun k hk=>zO w ⟨N,i,Z⟩ v k hk;refine⟨h.mc.next (by rw[hot P (xK hne)];exact h.mc.block) (by simp[World.setCell]) ?_ ⟨fun r hr=>yP (h.mc.own.rows r hr) (fun g hg=>hot g (fun e=>?_)),h.mc.own.apart⟩ rfl rfl h.mc.fl h.mc.vl,yP h.jr (fun g hg=>hot g (fun e=>?_))⟩
 ·intro k x f _ o;rw[hot k (fun e=>by
   rw[e,z]at f;injection f with f;obtain⟨A,D,y,o⟩:=o;rw[<-f]at y;injection y with _ y;rw[<-y]at o;exact j.1 o)]
  exact f
 ·obtain⟨A,d⟩:=yW (h.mc.own.rows r hr) hg;rw[e,z]at d;injection d with d;injection d with _ d;have h3:=JF hr;rw[<-d]at h3;rcases h3 with e | e | e
  ·exact j.2.1 e
  ·exact j.2.2.1 e
  ·exact j.2.2.2.1 e
 ·obtain⟨A,d⟩:=yW h.jr hg;rw[e,z]at d;injection d with d;injection d with _ d;exact j.2.2.2.2 d
theorem vX.other {w w':World} {P B:Nat} {S:Rt.Src} {cap:Int} {s':Se} {X X':ZK} {jv jv':Value} (h:vX P B S cap X X' jv jv' s' w w') {N:Nat} {c:Array Value} {t:TypeId} (j:w'.heap[N]?=Q (V c t (0,0))) (f:w.heap.size<=N) (d:bg t) (i:Nat) (v:Value):vX P B S cap X X' jv jv' s' w (w'.setCell ⟨N,i,Z⟩ v):=
 ⟨h.Yo.other j (by have:=h.lt;omega) d i v,⟨h.vz.os,h.vz.tape,h.vz.output,zi h.vz.size (by simp[World.setCell]),fun k hk hn hv=>by rw[zO w' ⟨N,i,Z⟩ v k (by show k≠N;omega)];exact h.vz.block k hk hn hv⟩,h.grow,h.jg,h.lt⟩
theorem vX.YD {s':Se} (h:vX P B S cap X X' jv jv' s' w w') (o:w'.heap[N]?=Q (V cs t (0,0))) (d:w.heap.size<=N) (f:bg t) (a b c x y q:Value):vX P B S cap X X' jv jv' s' w (W6 w' N a b c x y q):=by
 have k:=zf o 0 a;have n2:=zf k 1 b;have j:=zf n2 2 c;have i:=zf j 3 x;have z:=zf i 4 y;exact(((((h.other o d f 0 a).other k d f 1 b).other n2 d f 2 c).other j d f 3 x).other i d f 4 y).other z d f 5 q
theorem vX.below {s':Se} (h:vX P B S cap X X' jv jv' s' w w1) (d:Below w1.heap.size w1 w2):vX P B S cap X X' jv jv' s' w w2:=h.trans (vX.start h.Yo d)
def so (w:World) (N:Nat):Nat:=match w.cell? ⟨N,3,none⟩with
 | some (.int _ k)=>k.toNat
 | _=>0
theorem pe {s:Se} (h:Zv w P B S cap s X jv) (hS:Good S) (h4:iN S) (hc:0<=cap/\cap<=500) (hk:rT S cap s) (kind:Int) (fuel:Nat) (a7:0<=kind/\kind<=3) (b4:fuel<=1000):Calls Tryz.prog 65 #[H (Q ⟨P,0,Z⟩),J U kind,J U fuel] w (FwdP P B S cap X jv (Rt.fwdRun S cap kind fuel (G s.m.zH) (fuel+1) s 0) w):=by
 have b1:=zQ h.mc.block;have HH:=gN h hS h4 hk;go_enter func65,ntmps65;go_wp2_with fail;refine(rz kind fuel a7 (by omega)).mono ?_;rintro e w0 ⟨rfl,rfl⟩;go_wp2_with fail;have a1:=(zI w.heap.size w).alloc (zB _) (V #[J U 0,J U 0,J U 0,J U 0,J U 0,J U 0] 111);refine(dE (HH.u.1.mc.zP a1)).mono ?_;rintro e w0 ⟨rfl,rfl⟩;generalize hd:(G s.m.zH:Int)=d at *;clear hd;go_wp2_with fail;have a2:=a1.alloc (by simp) (V (om kind fuel d 0) 169);have I:=yR (zN w (V #[J U 0,J U 0,J U 0,J U 0,J U 0,J U 0] 111)) (V (om kind fuel d 0) 169);have j:=qD w (V #[J U 0,J U 0,J U 0,J U 0,J U 0,J U 0] 111) (V (om kind fuel d 0) 169);refine(J2 (HH.u.1.zP a2) HH.u.2.2.2.ms kind fuel d 0).mono ?_;rintro e w1 ⟨rfl,N⟩;have HA:=XX (vX.start HH.u.1 (a2.trans (N.mono (B':=w.heap.size) (by simp;omega)))) (zU I N) (zU j N);go_wp2_with fail;go_loopw [10] (fun rv wr=>∃(k:Nat) (s':Se) (X':ZK) (jv':Value),k<=fuel/\rv=J U (kq s' kind fuel d k)/\wr.heap[w.heap.size]?=Q (V #[J U 0,J U 0,J U 0,J U 0,J U 0,J U 0] 111 (0,0))/\wr.heap[w.heap.size+1]?=Q (V (om kind fuel d k) 169 (0,0))/\vX P B S cap X X' jv jv' s' w wr/\rT S cap s'/\Rt.fwdRun S cap kind fuel d (fuel+1-k) s' k=Rt.fwdRun S cap kind fuel d (fuel+1) s 0) (fun _ wr=>fuel+1-so wr (w.heap.size+1))
 case atStart=>exact⟨0,s,X,jv,zo _,rfl,HA.u.2.1,HA.u.2.2,HA.u.1,HH.u.2.2.2,rfl⟩
 case round=>
  obtain⟨k,s',X',jv',hk,rfl,I,j,A,f,o⟩:=hrel;have m3:wr.cell? ⟨w.heap.size+1,3,Z⟩=Q (J U (k:Int)):=by have:=zC j 3 (by simp);simpa using this
  have f3:=zS j 3;have HM:=zD (show so wr (w.heap.size+1)=k by unfold so;rw[m3];simp);have HX:=DA I j A f o;by_cases hz:kq s' kind fuel d k=0
  ·have a6:(kq s' kind fuel d k==0)=D:=by simpa using hz
   obtain⟨a0,b3⟩:=Xo hz;have HN:=zD (show Rt.fwdRun S cap kind fuel d (fuel+1-(k+1)) (Vl S cap s') (k+1)=Rt.fwdRun S cap kind fuel d (fuel+1) s 0 by
    rw[<-HX.u.2.2.2.2,show fuel+1-k=(fuel+1-(k+1))+1 by omega,Rt.fwdRun,zE hz])
   go_wp2_with fail;obtain⟨I,j,A,f,o⟩:=HX.u;obtain⟨_,hS,h4,_⟩:=HH.u;refine(nF A.Yo hS f.g h4 f.p a0 (by have:=f.r;omega)).mono ?_;rintro e w2 ⟨rfl,X2,jv2,R⟩;have a8:=vX.keeps A.Yo R I (by omega) (by unfold bg Xe;decide);have i:=vX.keeps A.Yo R j (by omega) (by unfold bg Xe;decide);have O:=(A.trans R).other i (by omega) (by unfold bg Xe;decide) 3 (J U ((k:Int)+1));have a9:(w2.setCell ⟨w.heap.size+1,3,Z⟩ (J U ((k:Int)+1))).heap[w.heap.size+1]?=Q (V (om kind fuel d ((k:Int)+1)) 169 (0,0)):=by
    have:=zf i 3 (J U ((k:Int)+1));simpa using this
   have F:(w2.setCell ⟨w.heap.size+1,3,Z⟩ (J U ((k:Int)+1))).heap[w.heap.size]?=Q (V #[J U 0,J U 0,J U 0,J U 0,J U 0,J U 0] 111 (0,0)):=(zO w2 ⟨w.heap.size+1,3,Z⟩ _ _ (by show w.heap.size≠w.heap.size+1;omega)).trans a8;have T:=oA hS h4 hc.1 f;have HY:=gN O a9 F T;have n0:w2.cell? ⟨w.heap.size+1,0,Z⟩=Q (J U kind):=by have:=zC i 0 (by simp);simpa using this
   have n1:w2.cell? ⟨w.heap.size+1,1,Z⟩=Q (J U (fuel:Int)):=by have:=zC i 1 (by simp);simpa using this
   have n2:w2.cell? ⟨w.heap.size+1,2,Z⟩=Q (J U d):=by have:=zC i 2 (by simp);simpa using this
   have n3:w2.cell? ⟨w.heap.size+1,3,Z⟩=Q (J U (k:Int)):=by have:=zC i 3 (by simp);simpa using this
   have g3:=zS i 3;go_wp2_with fail;refine(J2 HY.u.1.Yo HY.u.2.2.2.ms kind fuel d ((k:Int)+1)).mono ?_;rintro e w4 ⟨rfl,M⟩;have a4:=zU HY.u.2.1 M;have a5:w4.cell? ⟨w.heap.size+1,3,Z⟩=Q (J U ((k:Int)+1)):=by have:=zC a4 3 (by simp);simpa using this
   have b0:=zD (show so w4 (w.heap.size+1)=k+1 by unfold so;rw[a5];show ((k:Int)+1).toNat=k+1;omega);have HZ:=XX (HY.u.1.below M) a4 (zU HY.u.2.2.1 M);go_wp2;go_roundw
   case rel=>exact⟨k+1,_,X2,jv2,by omega,rfl,HZ.u.2.2,HZ.u.2.1,HZ.u.1,HY.u.2.2.2,HN.u⟩
   case measure=>
    show fuel+1-so w4 (w.heap.size+1) < fuel+1-so wr (w.heap.size+1);rw[HM.u,b0.u];omega
  ·have a6:(kq s' kind fuel d k==0)=W:=by simpa using hz
   have HE:=zD (show Rt.fwdRun S cap kind fuel d (fuel+1) s 0=(s',k,kq s' kind fuel d k) by
    rw[<-HX.u.2.2.2.2,show fuel+1-k=(fuel-k)+1 by omega,Rt.fwdRun,zA hz])
   obtain⟨I,j,A,f,o⟩:=HX.u;have n0:wr.cell? ⟨w.heap.size+1,0,Z⟩=Q (J U kind):=by have:=zC j 0 (by simp);simpa using this
   have n1:wr.cell? ⟨w.heap.size+1,1,Z⟩=Q (J U (fuel:Int)):=by have:=zC j 1 (by simp);simpa using this
   have n2:wr.cell? ⟨w.heap.size+1,2,Z⟩=Q (J U d):=by have:=zC j 2 (by simp);simpa using this
   generalize b2:kq s' kind fuel d k=rs at *;go_wp2_with fail;obtain⟨I,j,A,_,_⟩:=HX.u;refine(wj A.Yo kind fuel d k rs).mono ?_;rintro e w3 ⟨rfl,a3⟩;have F:=zU I a3;have O:=A.below a3;obtain⟨y0,y1,y2,y3,y4,y5,z⟩:=YA F;have HF:=zD (fun a b c x y q=>vX.YD O F (zB _) (by unfold bg Xe;decide) a b c x y q);go_wp2_with fail;refine zT (v:=E #[L (Yp rs k s'),J U 0]) ?_ rfl ⟨_,_,by rw[HE.u],by rw[HE.u];exact HF.u _ _ _ _ _ _⟩;simp[results,results65,go_sem,y0,y1,y2,y3,y4,y5]
namespace Rt
def lastFrom (rs:List Rec):Nat->Nat
 | 0=>0
 | k+1=>match rs[k+1]? with
  | some r=>if jt r=true then k+1 else lastFrom rs k
  | none=>lastFrom rs k
def He (rs:List Rec):Nat:=lastFrom rs (G rs-1)
end Rt
def WdrP (P:Nat) (ty:TypeId) (cs:Array Value) (cap:Int) (rs:List Rt.Rec) (low:Int) (jv:Value) (w:World) (e:Ending) (w':World):Prop:=
 ∃jv' v,e=T v/\aD w' P ty (cs.setIfInBounds 9 jv') cap (rs.take (He rs)) low jv'/\KB P jv w w'/\jv'.ownBlock=jv.ownBlock/\w'.ownsRow w.heap.size 162 5 v (rs.drop (He rs)).length (xE (rs.drop (He rs)))
theorem recs_take (rs:List Rt.Rec) (k:Nat):xE rs=xE (rs.take k)++xE (rs.drop k):=by
 rw[<-Z0,kt]
theorem recs_news {cap:Nat} (h:w.ownsRow B 162 5 (I (Q ⟨g,0,Z⟩) n cap) n (xE rs)) (k:Nat) (i:k<=G rs) (j:Nat) (u:Value) (f:(xE (rs.drop k))[j]?=Q u):w.cell? ((⟨g,k*5,Z⟩:Addr).add j)=Q u:=by
 obtain⟨g',x,d,_,_,o⟩:=yD h (j:=k*5+j) (u:=u) (by
  rw[recs_take rs k,yU (by rw[XB,jw];omega),XB,jw,vD i,vY];exact f)
 simp at d;obtain⟨rfl,rfl⟩:=d;rw[show (⟨g,k*5,Z⟩:Addr).add j=⟨g,k*5+j,Z⟩ by unfold Addr.add;split <;> simp_all];exact o
theorem recs_one:∀u∈xE st,u.oneCell'=D:=fun u hu=>by
 obtain⟨r,_,hr⟩:=List.mem_flatMap.mp hu;simp[YV]at hr;rcases hr with rfl | rfl | rfl | rfl | rfl <;> rfl
theorem wdr_end (H:P < w.heap.size) (h:aD wr P ty cs cap rs low (I (Q ⟨g,0,Z⟩) (G rs) jcap)) (D:Below w.heap.size w wr) (A:k < G rs) (j:He rs=k) {g1 cap1:Nat} (f:w1.ownsRow w.heap.size 162 5 (I (Q ⟨g1,0,Z⟩) (G rs-k) cap1) (G rs-k) (xE (rs.drop k))) (o:wr.grownBy w1 Z):WdrP P ty cs cap rs low (I (Q ⟨g,0,Z⟩) (G rs) jcap) w (T (I (Q ⟨g1,0,Z⟩) (G rs-k) cap1)) (w1.setCell ⟨P,9,Z⟩ (I (Q ⟨g,0,Z⟩) k jcap))/\w1.cell? ⟨P,9,Z⟩=Q (I (Q ⟨g,0,Z⟩) (G rs) jcap)/\w1.frozen? ⟨P,9,Z⟩=W:=by
 have x:Below wr.heap.size wr w1:=⟨o.os,o.tape,o.output,o.size,fun k A=>o.block k A (by simp)⟩;have y:=h.zP x;have hcut:=ES (n':=k) (a:=xE (rs.take k)) (b:=xE (rs.drop k)) (by rw[<-recs_take];exact y.own) (by omega) (by rw[XB,jw,vD (by omega)]);have F:10 < cs.size:=(Zd.mp h.GF).1;have z:∀q,(Value.slice (Q ⟨g,0,Z⟩) k jcap).ownBlock=Q q->q≠P:=fun q hq e=>y.ne (by rw[<-e];exact hq);have i:∀q,(Value.slice (Q ⟨g1,0,Z⟩) (G rs-k) cap1).ownBlock=Q q->q≠P:=fun q hq e=>by
  have:=(f.lt q hq).1;omega
 have d:=D.trans (x.mono (B':=w.heap.size) D.size);refine⟨⟨I (Q ⟨g,0,Z⟩) k jcap,_,rfl,⟨zf y.block 9 _,?_,?_,?_,?_,h.ty⟩,⟨d.os,d.tape,d.output,zi d.size (by simp[World.setCell]),fun q hq hp _=>?_⟩,rfl,?_⟩,y.k9,y.fz 9⟩
 ·rw[xn (by omega)];exact h.c8
 ·rw[qj (by omega)]
 ·rw[xn (by omega)];exact h.GF
 ·rw[j,jw,vD (by omega)];exact yP hcut (fun q hq=>zO _ _ _ _ (z q hq))
 ·rw[zO _ _ _ _ hp];exact d.block q hq
 ·rw[j,xp];exact yP f (fun q hq=>zO _ _ _ _ (i q hq))
theorem withdraw_any (h:aD w P ty cs cap rs low jv) (hl:G rs<=1000) (h0:0 < G rs):Calls Tryz.prog 160 #[H (Q ⟨P,8,Z⟩)] w (WdrP P ty cs cap rs low jv w):=by
 obtain⟨i0,R,L,F,A⟩:=yi C1;obtain⟨g,jcap,rfl⟩:∃g jcap,jv=I (Q ⟨g,0,Z⟩) (G rs) jcap:=by
  rcases h.own.2 with⟨e,e2⟩| ⟨g,jcap,cur,e,_⟩
  ·omega
  ·exact⟨g,jcap,e⟩
 obtain⟨n,hn⟩:∃n,G rs=n+1:=⟨G rs-1,by omega⟩;have HH:=zD h;have k9:=h.k9;have a6:IntKind.i64.wrap (n:Int)=(n:Int):=by rw[yv,yC _ (by omega)]
 have z:=zD hn;have o:=zQ h.block;have a4:n+1<=jcap:=by
  rcases h.own.2 with⟨e,_⟩| ⟨g',a5,cur,e,_,_,e3,_⟩
  ·cases e
  ·simp at e;omega
 rw[hn]at k9;go_enter func160,ntmps160;go_wp2_with fail;go_loopw [3] (fun c wr=>∃k:Nat,k<=n/\c=J U k/\Rt.lastFrom rs k=He rs/\Below w.heap.size w wr) (fun c _=>(intOf c).toNat)
 case atStart=>exact⟨n,zB _,rfl,by unfold He;rw[z.u];rfl,zI _ _⟩
 case round=>
  obtain⟨k,hk,rfl,x,j⟩:=hrel;have hj:=HH.u.zP j;have k9:=hj.k9;rw[z.u]at k9;have HL:=zD x;cases k with
  | zero=>
   have HZ:=zD (show He rs=0 by rw[<-HL.u];rfl);have y:=qG hj j;have hM:=j.size;have a2:=z.u;go_wp2_with (at_builtin;refine wpList_append_lies _ rfl _ _ 94 rfl w.heap.size 162 i0 _ 5 40 underlying94 R L F A rfl (by decide) (I Z 0 0) 0 [] rfl (zW _ _ _ _) ⟨g,0*5,Z⟩ (n+1) jcap (xE (rs.drop 0)) rfl (by have:=z.u;rw[XB,xp];omega) (recs_news y.u.1.own 0 (zo _)) (recs_one) (by omega) (by unfold maxLen;omega) (by omega) hM wr.heap.size rfl ?_);intro g1 cap1 w1 d f a1 O;obtain⟨T,p2,p3⟩:=wdr_end o y.u.1 y.u.2 h0 HZ.u (g1:=g1) (cap1:=cap1) (by rw[show (G rs)-0=n+1 by omega];first | exact d | simpa using d) f;have HF:=zD T;go_wp2;go_ret;have:=HF.u;rw[show (G rs)-0=n+1 by omega]at this;exact this
  | succ k=>
   have i:k+1 < G rs:=by have:=z.u;omega
   have M:=hj.own;obtain⟨r0,r1,r2,r3,r4⟩:=sB M (k+1) i;have HC:=zD (fun (W:World)=>tn W rs[k+1]);have HY:=zD (show jt rs[k+1]=D->He rs=k+1 from fun e=>by rw[<-HL.u,Rt.lastFrom,zJ i];simp[e]);have HZ:=zD (show jt rs[k+1]=false->Rt.lastFrom rs k=He rs from fun e=>by rw[<-HL.u,Rt.lastFrom,zJ i];simp[e]);have HB:=zD j;generalize rs[k+1]=r at *;go_wp2_with fail;refine(HC.u _).mono ?_;rintro e w1 ⟨rfl,a0⟩;have HB1:=zD (HB.u.trans (a0.mono HB.u.size));cases hb:jt r with
   | true=>
    have HE:=zD (HY.u hb);have V:=(HH.u.zP HB1.u).k9;rw[z.u]at V;have a3:=HB1.u.size;have y:=qG (HH.u.zP HB1.u) HB1.u;have a2:=z.u;go_wp2_with (at_builtin;refine wpList_append_lies _ rfl _ _ 94 rfl w.heap.size 162 i0 _ 5 40 underlying94 R L F A rfl (by decide) (I Z 0 0) 0 [] rfl (zW _ _ _ _) ⟨g,(k+1)*5,Z⟩ (n-k) (jcap-(k+1)) (xE (rs.drop (k+1))) rfl (by rw[XB,xp];omega) (recs_news y.u.1.own (k+1) (by omega)) (recs_one) (by omega) (by unfold maxLen;omega) (by omega) a3 w1.heap.size rfl ?_);intro g1 cap1 w2 d f a1 O;have N:G rs-(k+1)=n-k:=by omega
    obtain⟨T,p2,p3⟩:=wdr_end o y.u.1 y.u.2 i HE.u (g1:=g1) (cap1:=cap1) (by rw[N];first | exact d | simpa using d) f;have HF:=zD T;go_wp2;go_ret;have:=HF.u;rw[N]at this;exact this
   | false=>
    have HE:=zD (HZ.u hb);go_wp2;go_roundw
    ·exact⟨k,by omega,by go_num,HE.u,HB1.u⟩
    ·simp[intOf]
end
end Go.Proofs.YthleadfkfnnadaaGreat
