/- The document's session moves back. -/
import Derived.Test.YthleadfkfnnadaaGreatLnD
set_option maxHeartbeats 4000000
set_option maxRecDepth 100000
set_option linter.all false
namespace Go.Proofs.YthleadfkfnnadaaGreat
open Value renaming int->J,slice->I,string->O,pointer->H,bool->A,agg->L,tuple->E
open IntKind renaming i64->U
open Option renaming none->Z,some->Q
open Bool renaming false->W,true->D
open List renaming length->G
open Ending renaming returned->T
open Obj renaming cells->V
open Rf Rt Go.Proofs.Tryz
open Go.RowKit
attribute [local go_sem ↓] Go.wp_at_zero Go.wp_at_succ
variable {Y:iQ} {cap:Int} {ls:List Ib} {mk Yw:List Bool} {l:List Int} {prs:List mU} {ps zL:List Rt.PL} {vs:List Value} {S k i C len n low:Nat} {op:rS} {s:mU} {t:TypeId} {pv lv b c v tv rv:Value} {w w1 w2 w3:World}
theorem WI.FO {S0:Nat} {tag tag':Nat->Nat} (h:WI w S0 pv lv vs prs tag) (d:∀k,k < w.heap.size->tag' k=tag k):WI w S0 pv lv vs prs tag':=
 ⟨h.lg,h.ps,h.each,fun i hi k hk=>by rw[d k ((h.each i hi).lt hk)];exact h.tags i hi k hk,fun k e=>by rw[d k (h.lg.own.lt k e).2];exact h.Ce k e,fun k e=>by rw[d k (h.ps.lt k e).2];exact h.FP k e,fun i hi k e=>by rw[d k (h.lg.lt i hi k e).2];exact h.GR i hi k e⟩
theorem C2:(Tryz.prog.info? 36).map (fun i=>(i.zero,i.size,i.bytes))=Q (Q (H Z),1,8):=by kernel_rfl
def bf (S0:Nat) (vs:List Value) (prs:List mU) (w:World) (e:Ending) (w':World):Prop:=e=T (A D)/\Below S0 w w'/\∃pv' lv' vs' prs' tag',WI w' S0 pv' lv' vs' prs' tag'/\G vs'<=G vs+2/\G prs'<=G prs+1/\∀M,(∀s∈prs,s.len<=M)->∀s∈prs',s.len<=M+1000
theorem cZ (s:Ia) (cap er ln:Int) (HP:∀(w:World) (v:Value),kA w v l->Calls Tryz.prog 30 #[O s,v,J U cap] w fun e w'=>e=T (E #[H Z,J U er,J U ln])/\Below w.heap.size w w') (HR:∀(w:World) (v:Value),kA w v l->Calls Tryz.prog 31 #[O s,v,J U cap] w fun e w'=>e=T (E #[H Z,J U er,J U ln])/\Below w.heap.size w w') (D:Nat->Nat) {k:Value} (h:WI w S pv lv vs prs D) (hi:kA w v l) (hl:G l<=17592186044416) (b5:(G vs+2)*24<=140737488355328):Calls Tryz.prog 15 #[H (Q ⟨S,0,Z⟩),L #[k,J U cap,b,c,O s,v]] w (bf S vs prs w):=by
 have HH:=zD (h.FO (tag':=fun k=>if k < w.heap.size then D k else 0) (fun k hk=>zE hk));have HI:=zD hi;have b6:=zQ h.lg.block;have b4:=zD HP;have b3:=zD HR;obtain⟨A,z,rfl⟩:=hi.form;have b0:=(zI w.heap.size w).alloc (zB _) (V #[k,J U cap,b,c,O s,I A (G l) z] 32);have a6:=zN w (V #[k,J U cap,b,c,O s,I A (G l) z] 32);have f:=qG b0 a6;have HC:Hd (∀w',Below (w.alloc (V #[k,J U cap,b,c,O s,I A (G l) z] 32)).heap.size (w.alloc (V #[k,J U cap,b,c,O s,I A (G l) z] 32)) w'->w'.cell? ⟨w.heap.size,1,Z⟩=Q (J U cap)/\w'.cell? ⟨w.heap.size,4,Z⟩=Q (O s)/\w'.cell? ⟨w.heap.size,5,Z⟩=Q (I A (G l) z)):=zD (fun w' hb=>by
  have hh:=zU f.u.2 hb;exact⟨zC hh 1 (by simp),zC hh 4 (by simp),zC hh 5 (by simp)⟩)
 go_enter func15,ntmps15;go_wp2_with fail;refine(gO (HI.u.zP f.u.1) hl).mono ?_;generalize w.alloc (V #[k,J U cap,b,c,O s,I A (G l) z] 32)=wa at *;rintro e w1 ⟨a4,g,b8,rfl,a9⟩;obtain⟨c1,c4,c5⟩:=HC.u _ a4;have x:=qG a4 a9;go_wp2_with fail;refine(b4.u _ _ (V0 x.u.2)).mono ?_;rintro e w2 ⟨rfl,a3⟩;have b7:=zQ f.u.2;have F:=x.u.1.size;have d:=qG (x.u.1.trans (a3.mono (B':=wa.heap.size) F)) (zU x.u.2 a3);obtain⟨e1,e4,e5⟩:=HC.u _ d.u.1;go_wp2_with fail;refine(lA g d.u.2 (HI.u.zP (f.u.1.trans (d.u.1.mono (B':=w.heap.size) (by omega)))) hl).mono ?_;rintro e w4 ⟨rfl,a2⟩;have y:=d.u.1.trans (a2.mono (B':=wa.heap.size) d.u.1.size);obtain⟨e1,e4,e5⟩:=HC.u _ y;have o:=qG y (zU d.u.2 a2);go_wp2_with fail;refine(b3.u _ _ (HI.u.zP (f.u.1.trans (o.u.1.mono (B':=w.heap.size) (by omega))))).mono ?_;rintro e w5 ⟨rfl,a1⟩;have W:=o.u.1.trans (a1.mono (B':=wa.heap.size) o.u.1.size);have a0:=f.u.1.trans (W.mono (B':=w.heap.size) (by omega));have b1:=HH.u.zP a0;have a8:=zU o.u.2 a1;have N:=lz (B:=S+1) a8 (by omega) (by unfold maxLen;omega);have i:=XX b1 N a0;have a7:∀j (hj:j < G vs) q,vs[j].ownBlock=Q q->¬(Value.slice (Q ⟨g,0,Z⟩) (G l) (G l+2)).ownBlock=Q q:=fun j hj q hq e=>by
  have h1:=(HH.u.lg.lt j hj q hq).2;simp[Value.ownBlock]at e;omega
 have HN:=zD a7;go_wp2_with fail;refine(oT i.u.1.lg i.u.2.1 HN.u (by omega)).mono ?_;intro e w7 hO;have R:=i.u.1.own i.u.2.1 (fun q e=>by
  simp[Value.ownBlock]at e;rw[zA (by omega)]) hO
 have b2:=(i.u.2.2.mono (B':=S) (by omega)).trans hO.2.1;obtain⟨rfl,_⟩:=hO;have HF:=qG R b2;go_wp2_with (go_at_call 20;refine(K3 er).mono ?_;rintro e w' ⟨rfl,rfl⟩)
 all_goals
  go_ret;obtain⟨⟨a5,v',tag',h1,_⟩,h2⟩:=HF.u;exact⟨by first | rfl | simp,h2,pv,a5,vs++[v'],prs,tag',h1,by simp,by omega,fun M hM s hs=>by have:=hM s hs;omega⟩
theorem sX (s:Ia) (ls:List Ib) {R:Rt.Src} (hX:Lawful ls->Rf.Ctx ps zL ls R) (h6:Cst R cap Ba) (j4:G ls<=100) (HP:∀(w:World) (v:Value),kA w v l->Calls Tryz.prog 30 #[O s,v,J U cap] w fun e w'=>Below w.heap.size w w'/\∃P B X jv,e=T (E #[H (Q ⟨P,0,Z⟩),J U 0,J U 0])/\(∀k∈J7 P X jv,w.heap.size<=k)/\Jx w' P B R cap 0 0 Ba X jv) (HR:∀(w:World) (v:Value),kA w v l->Calls Tryz.prog 31 #[O s,v,J U cap] w fun e w'=>Below w.heap.size w w'/\∃C Y,e=T (E #[H (Q ⟨C,0,Z⟩),J U 0,J U 0])/\vg w' C zL ls R cap 0 0 0 (List.replicate (G ls+1) W) Y/\Lawful ls/\∀k∈Dt zL R C Y,w.heap.size<=k) (g0:Nat->Nat) {k:Value} (h:WI w S pv lv vs prs g0) (hi:kA w v l) (hl:G l<=17592186044416) (j1:(G vs+2)*24<=140737488355328) (k1:(G prs+1)*8<=140737488355328):Calls Tryz.prog 15 #[H (Q ⟨S,0,Z⟩),L #[k,J U cap,b,c,O s,v]] w (bf S vs prs w):=by
 have HH:=zD (h.FO (tag':=fun k=>if k < w.heap.size then g0 k else 0) (fun k hk=>zE hk));have HI:=zD hi;have j3:=zQ h.lg.block;have i8:=zD HP;have i7:=zD HR;obtain⟨ad,ca,rfl⟩:=hi.form;have h7:=(zI w.heap.size w).alloc (zB _) (V #[k,J U cap,b,c,O s,I ad (G l) ca] 32);have h0:=zN w (V #[k,J U cap,b,c,O s,I ad (G l) ca] 32);have A:=qG h7 h0;clear h hi HP HR h7 h0;have HC:Hd (∀w',Below (w.alloc (V #[k,J U cap,b,c,O s,I ad (G l) ca] 32)).heap.size (w.alloc (V #[k,J U cap,b,c,O s,I ad (G l) ca] 32)) w'->w'.cell? ⟨w.heap.size,1,Z⟩=Q (J U cap)/\w'.cell? ⟨w.heap.size,4,Z⟩=Q (O s)/\w'.cell? ⟨w.heap.size,5,Z⟩=Q (I ad (G l) ca)):=zD (fun w' hb=>by
  have hh:=zU A.u.2 hb;exact⟨zC hh 1 (by simp),zC hh 4 (by simp),zC hh 5 (by simp)⟩)
 go_enter func15,ntmps15;go_wp2_with fail;refine(gO (HI.u.zP A.u.1) hl).mono ?_;generalize w.alloc (V #[k,J U cap,b,c,O s,I ad (G l) ca] 32)=wa at *;rintro e w1 ⟨f3,g,k2,rfl,f0⟩;obtain⟨c1,c4,c5⟩:=HC.u _ f3;have j2:=zQ f0;have b4:=qG f3 f0;clear f3 f0;go_wp2_with fail;refine(i8.u _ _ (V0 b4.u.2)).mono ?_;rintro e w2 ⟨b3,P,B,X,jv,rfl,g6,b5⟩;have j7:=zQ A.u.2;have g2:=b4.u.1.size;have z:=qG (b4.u.1.trans (b3.mono (B':=wa.heap.size) g2)) (zU b4.u.2 b3);have k0:=b3.size;have a9:=qG g6 b5;clear b3 c1 c4 c5 g6 b5;obtain⟨e1,e4,e5⟩:=HC.u _ z.u.1;go_wp2_with fail;refine(lA g z.u.2 (HI.u.zP (A.u.1.trans (z.u.1.mono (B':=w.heap.size) (by omega)))) hl).mono ?_;rintro e w4 ⟨rfl,a6⟩;have a3:=z.u.1.trans (a6.mono (B':=wa.heap.size) z.u.1.size);clear e1 e4 e5;obtain⟨e1,e4,e5⟩:=HC.u _ a3;have b0:=XX a3 (zU z.u.2 a6) (a9.u.2.zP a6);have j9:=a6.size;clear a6 a3;go_wp2_with fail;refine(i7.u _ _ (HI.u.zP (A.u.1.trans (b0.u.1.mono (B':=w.heap.size) (by omega))))).mono ?_;rintro e w5 ⟨a5,C,Y,rfl,d2,b8,g7⟩;have d3:=b0.u.1.trans (a5.mono (B':=wa.heap.size) b0.u.1.size);have f1:=A.u.1.trans (d3.mono (B':=w.heap.size) (by omega));have h8:=HH.u.zP f1;have h5:=zU b0.u.2.1 a5;have F:=b0.u.2.2.zP a5;have j8:=a5.size;have b6:=lz (B:=S+1) h5 (by omega) (by unfold maxLen;omega);have x:=XX h8 b6 f1;have o:=gN F d2 b8 g7;have h4:∀j (hj:j < G vs) q,vs[j].ownBlock=Q q->¬(Value.slice (Q ⟨g,0,Z⟩) (G l) (G l+2)).ownBlock=Q q:=fun j hj q hq e=>by
  have h1:=(HH.u.lg.lt j hj q hq).2;simp[Value.ownBlock]at e;omega
 have HN:=zD h4;clear a5 d3 e1 e4 e5 h8 h5 b6 f1 h4 F d2 b8 g7;go_wp2_with fail;refine(oT x.u.1.lg x.u.2.1 HN.u (by omega)).mono ?_;intro e d hO;obtain⟨i1,v7,i9,f5,g3,hl7⟩:=x.u.1.own x.u.2.1 (fun q e=>by
  simp[Value.ownBlock]at e;rw[zA (by omega)]) hO
 have i0:=(x.u.2.2.mono (B':=S) (by omega)).trans hO.2.1;have d9:∀k t,Dr t->qm w5 k t->d.heap[k]?=w5.heap[k]?:=fun k t ht hk=>oU x.u.1.lg x.u.2.1 hO ht hk;have g4:=hO.2.1.size;have a1:∀q,lv.ownBlock=Q q->q < w.heap.size:=fun q e=>(HH.u.lg.own.lt q e).2;have d7:∀q,q < w5.heap.size->w1.heap.size<=q->d.heap[q]?=w5.heap[q]?:=fun q h1 h2=>hO.2.2.1 q h1 (by omega) (fun e=>by have:=a1 q e;omega) (fun e=>by simp[Value.ownBlock]at e;omega);have D:Jx d P B R cap 0 0 Ba X jv:=o.u.1.stay g4 (fun q hq=>d7 q (o.u.1.Yo.Vq hq) (a9.u.1 q hq)) (fun q t ht hq=>d9 q t (Or.inl ht) hq);have a2:vg d C zL ls R cap 0 0 0 (List.replicate (G ls+1) W) Y:=o.u.2.1.stay (fun q hq=>d7 q (o.u.2.1.lt hq) (by have:=o.u.2.2.2 q hq;omega)) (fun q t ht hq=>d9 q t (Or.inr (Or.inl ht)) hq);obtain⟨rfl,_⟩:=hO;have a4:=(zI d.heap.size d).alloc (zB _) (V #[H (Q ⟨P,0,Z⟩),H (Q ⟨C,0,Z⟩)] 65);have g8:=zN d (V #[H (Q ⟨P,0,Z⟩),H (Q ⟨C,0,Z⟩)] 65);have d8:vf (d.alloc (V #[H (Q ⟨P,0,Z⟩),H (Q ⟨C,0,Z⟩)] 65)) ⟨d.heap.size,P,B,X,jv,C,Y,ps,zL,ls,R,cap,0,0,0,Ba⟩:=by
  refine⟨g8,D.zP a4,h6,?_,hX o.u.2.2.1,zB _,fun q h1 h2=>?_⟩
  ·have e:Ba.take (G ls+1)=List.replicate (G ls+1) W:=by
    unfold Ba;rw[List.take_replicate];congr 1;omega
   show vg _ C zL ls R cap 0 0 0 (Ba.take (G ls+1)) Y;rw[e];exact a2.zP a4
  ·have e1:=o.u.2.2.2 q h2;have e2:=a9.u.2.Yo.Vq h1;omega
 have y:=f5.zP a4;have b9:∀q∈rV ⟨d.heap.size,P,B,X,jv,C,Y,ps,zL,ls,R,cap,0,0,0,Ba⟩,w1.heap.size<=q/\(q < w5.heap.size\/q=d.heap.size):=fun q hq=>by
  rcases zw.mp hq with e | hq
  ·have e:q=d.heap.size:=e;exact⟨by omega,Or.inr e⟩
  ·rcases zd.mp hq with hq | hq
   ·have e1:=a9.u.1 q hq;have e2:=a9.u.2.Yo.Vq hq;exact⟨e1,Or.inl (by omega)⟩
   ·have e1:=o.u.2.2.2 q hq;have e2:=o.u.2.1.lt hq;exact⟨by omega,Or.inl e2⟩
 have d1:∀q∈rV ⟨d.heap.size,P,B,X,jv,C,Y,ps,zL,ls,R,cap,0,0,0,Ba⟩,S < q/\i1.ownBlock≠Q q/\pv.ownBlock≠Q q/\(∀i (hi:i < (vs++[v7]).length),(vs++[v7])[i].ownBlock≠Q q)/\∀i (hi:i < G prs),q∉rV prs[i]:=fun q hq=>by
  obtain⟨q1,q2⟩:=b9 q hq;refine⟨by omega,fun e=>?_,fun e=>?_,fun i hi e=>?_,fun i hi e=>?_⟩
  ·have e1:=(f5.lg.own.lt q e).2;rcases hl7 q e with e2 | e2
   ·have:=a1 q e2;omega
   ·omega
  ·have:=(HH.u.ps.lt q e).2;omega
  ·by_cases hiv:i < G vs
   ·rw[xI hiv]at e;have:=(HH.u.lg.lt i hiv q e).2;omega
   ·have:i=G vs:=by simp at hi;omega
    subst this;rw[xm (zB _)]at e;simp only[jC,zv]at e;rw[g3]at e;simp[Value.ownBlock]at e;omega
  ·have:=(HH.u.each i hi).lt e;omega
 have f8:=zD (fun (wx wy:World) (pv':Value) hb hg ho hat=>y.push (w1:=wx) (w2:=wy) (pv':=pv') d8 d1 hb hg ho hat);have c0:(d.alloc (V #[H (Q ⟨P,0,Z⟩),H (Q ⟨C,0,Z⟩)] 65)).cell? ⟨S,0,Z⟩=Q pv:=zC y.lg.block 0 (by simp);have N:=y.ps;obtain⟨pa,pc,b2⟩:=zK N;rw[b2]at c0 N;have k3:=zQ y.lg.block;have f7:=gN y d8 i0 a4;clear f5 g3 hl7 i0 d9 g4 a1 d7 D a2 a4 g8 d8 y b9 d1;obtain⟨j0,i6,i4,i3,i2⟩:=yi C2;have i5:(d.alloc (V #[H (Q ⟨P,0,Z⟩),H (Q ⟨C,0,Z⟩)] 65)).heap.size=d.heap.size+1:=by simp
 go_wp2_with (first
  | (go_at_call 20;refine(K3 0).mono ?_;rintro e wn ⟨rfl,g1⟩;rw[g1];clear g1)
  | (at_builtin;refine wpList_append_lies _ rfl _ _ 27 rfl (S+1) 36 j0 _ 1 8 underlying27 i6 i4 i3 i2 rfl (by decide) _ _ _ rfl (N.alloc _) ⟨d.heap.size+1,0,Z⟩ 1 1 [H (Q ⟨d.heap.size,0,Z⟩)] rfl rfl (VX d) (by simp[Value.oneCell']) (by omega) (by unfold maxLen;omega) (by omega) (by simp;omega) (d.heap.size+1+1) (by simp) ?_));intro g9 a7 w9 a0 f hat9 h3;have f2:=(zI _ (d.alloc (V #[H (Q ⟨P,0,Z⟩),H (Q ⟨C,0,Z⟩)] 65))).alloc (zB _) (V #[H (Q ⟨d.heap.size,0,Z⟩)] 36);have g5:¬Q S=(Value.slice pa (G prs) pc).ownBlock:=fun e=>by
  have:=(N.lt S e.symm).1;omega
 have f6:=(f.block S (by simp;omega) g5).trans (zU f7.u.1.lg.block f2);have d0:w9.cell? ⟨S,0,Z⟩=Q pv:=zC f6 0 (by simp);rw[b2]at d0;have z0:=zS f6 0;obtain⟨⟨f9,f4⟩,h9⟩:=f8.u _ w9 (I (Q ⟨g9,0,Z⟩) (G prs+1) a7) f2 (by rw[b2];exact f) a0 (fun q e=>by
  simp[Value.ownBlock]at e;subst e;rcases hat9 with e | e
  ·exact Or.inl (by rw[b2];exact e)
  ·exact Or.inr (by rw[i5];omega))
 have b7:vf (w9.setCell ⟨S,0,Z⟩ (I (Q ⟨g9,0,Z⟩) (G prs+1) a7)) ⟨d.heap.size,P,B,X,jv,C,Y,ps,zL,ls,R,cap,0,0,0,Ba⟩:=by
  have:=f4.each (G prs) (by simp);rw[xm (zB _)]at this;simpa using this
 have a8:=XX f4 b7 (f7.u.2.2.1.trans ((f7.u.2.2.2.mono (B':=S) (by omega)).trans h9));clear f2 g5 f6 f4 h9 b7 a0 f hat9 h3 c0 N;go_wp2_with fail;refine(iu a8.u.2.1).mono ?_;generalize w9.setCell ⟨S,0,Z⟩ (I (Q ⟨g9,0,Z⟩) (G prs+1) a7)=wx at *;rintro e j6 ⟨rfl,d5⟩;have b1:=zD d5;clear d5;go_wp2_with fail;refine(AE (a8.u.2.1.zP b1.u) (by show 0 < _;omega)).mono ?_;rintro e j5 ⟨rfl,d4⟩;have d6:=zD (b1.u.trans (d4.mono b1.u.size));clear d4;go_wp2;go_ret;refine⟨by first | rfl | simp,a8.u.2.2.trans (d6.u.mono (by have:=zQ a8.u.1.lg.block;omega)),_,_,vs++[v7],_,f9,a8.u.1.zP d6.u,by simp,by simp,fun M hM t ht=>?_⟩;rcases zd.mp ht with ht | ht
 ·have:=hM t ht;omega
 ·rw[yN.mp ht];show 0<=_;omega
theorem sY (i:op.s.size<=maxLen) (f:Nat->Nat) (h:WI w S pv lv vs prs f) (k:kA w op.v op.l) (j:G op.l<=17592186044416) (d:(G vs+2)*24<=140737488355328) (o:(G prs+1)*8<=140737488355328):Calls Tryz.prog 15 #[H (Q ⟨S,0,Z⟩),iO op] w (bf S vs prs w):=by
 obtain⟨x,z,_⟩:=eR op.s;rcases sf op.s op.l op.a with⟨h1,_⟩| ⟨h1,h2,_⟩| ⟨h1,h2,h3,_⟩| ⟨h1,h2,h3,_⟩
 ·exact cZ op.s op.a 1 0 (fun w v hv=>aI op.s op.a i hv 1 0 (Or.inl ⟨h1,rfl,rfl⟩)) (fun w v hv=>bL op.s op.a i hv 1 0 (Or.inl ⟨h1,rfl,rfl⟩)) f h k j d
 ·exact cZ op.s op.a (Rt.qx op.s).1 (Rt.qx op.s).2.1 (fun w v hv=>aI op.s op.a i hv _ _ (Or.inr ⟨h1,h2,(Rt.qx op.s).2.2,rfl⟩)) (fun w v hv=>bL op.s op.a i hv _ _ (Or.inr ⟨h1,h2,x.symm,z.symm⟩)) f h k j d
 ·exact cZ op.s op.a 6 0 (fun w v hv=>Bz op.s op.a i hv h2 h1 h3) (fun w v hv=>DW op.s op.a i hv (by rw[<-x,h2]) h1 h3) f h k j d
 ·have y:ZM (Rt.qx op.s).2.2 (vP op.s).2.2:=(eR op.s).2.2 (by rw[h2]);have D:=(QH h2).2.1;have A:=y.len;exact sX op.s (vP op.s).2.2 (fun hlaw=>DT op.l h2 hlaw) ⟨Ft h2 h1,h3.1,h3.2,by simp[Ba]⟩ (by omega) (fun w v hv=>EB op.s op.a i hv h2 h1 h3) (fun w v hv=>tf op.s op.a i hv h2 h1 h3 rfl rfl) f h k j d o
theorem CJ (w:World) (c n:Int) (k:-9223372036854775808<=c) (j:c<=9223372036854775807) (i:0 < n) (f:n<=9223372036854775807):Calls Tryz.prog 16 #[J U c,J U n] w fun e w'=>e=T (J U ((if c < 0 then -(c+1)else c) % n))/\w'=w:=by
 by_cases h0:c < 0
 ·have d:Hd ((if c < 0 then -(c+1)else c) % n=(-(c+1)) % n):=zD (by rw[zE h0]);generalize (if c < 0 then -(c+1)else c) % n=R at *;go_enter func16,ntmps16;go_wp2;go_ret;have h:-((c+1).tmod n)=(-(c+1)) % n:=by rw[<-Int.neg_tmod,Int.tmod_eq_emod_of_nonneg (by omega)]
  exact⟨by rw[d.u,<-h];rfl,rfl⟩
 ·have d:Hd ((if c < 0 then -(c+1)else c) % n=c % n):=zD (by rw[zA h0]);generalize (if c < 0 then -(c+1)else c) % n=R at *;go_enter func16,ntmps16;go_wp2;go_ret;exact⟨by rw[d.u];rfl,rfl⟩
theorem CI (c:Int) (n:Nat) (h:0 < n) (j:n<=140737488355328) (d:-9223372036854775808<=c/\c<=9223372036854775807):Calls Tryz.prog 16 #[J U c,J U (n:Int)] w fun e w'=>w'=w/\∃i:Nat,i < n/\e=T (J U (i:Int)):=by
 refine(CJ w c n d.1 d.2 (by omega) (by omega)).mono ?_;rintro e w' ⟨rfl,rfl⟩;have f:=Int.emod_nonneg (if c < 0 then -(c+1)else c) (show (n:Int)≠0 by omega);have k:=Int.emod_lt_of_pos (if c < 0 then -(c+1)else c) (show (0:Int) < (n:Int) by omega);exact⟨rfl,((if c < 0 then -(c+1)else c) % (n:Int)).toNat,by omega,by rw[Int.toNat_of_nonneg f]⟩
section
variable {s:mU}
theorem mo (h:vf w s) (j:op.kind=5) (k:∃a n c,op.v=I a n c):Calls Tryz.prog 17 #[H (Q ⟨S,0,Z⟩),H (Q ⟨s.q,0,Z⟩),iO op] w fun e w'=>e=T (A D)/\∃s',YJ s s' w w':=by
 obtain⟨L,y,i,x,o,ov,G⟩:=op;simp only at j k;obtain⟨a,n,c,rfl⟩:=k;subst j;unfold iO;simp only;have f:=(zI w.heap.size w).alloc (zB _) (V #[J U 5,J U y,J U i,J U x,O o,I a n c] 32);have d:=qG h f;go_enter func17,ntmps17;go_wp2_with fail;refine(su (d.u.1.zP d.u.2) i).mono ?_;rintro e w1 ⟨rfl,s',z⟩;have F:=zD ((YJ.below d.u.1 d.u.2).then z);go_wp2;go_ret;exact⟨rfl,_,F.u⟩
theorem session_held (h:vf w s) (k:op.kind=12) (o:∃a n c,op.v=I a n c) (f:s.len < 4611686018427387904):Calls Tryz.prog 17 #[H (Q ⟨S,0,Z⟩),H (Q ⟨s.q,0,Z⟩),iO op] w fun e w'=>e=T (A D)/\∃s',YJ s s' w w':=by
 obtain⟨M,F,z,y,x,ov,L⟩:=op;simp only at k o;obtain⟨a,n,c,rfl⟩:=o;subst k;unfold iO;simp only;have j:=(zI w.heap.size w).alloc (zB _) (V #[J U 12,J U F,J U z,J U y,O x,I a n c] 32);have d:=qG h j;go_enter func17,ntmps17;go_wp2_with fail;refine(AE (d.u.1.zP d.u.2) f).mono ?_;rintro e w1 ⟨rfl,i⟩;have G:=zD (YJ.below d.u.1 (d.u.2.trans (i.mono d.u.2.size)));go_wp2;go_ret;exact⟨rfl,_,G.u⟩
theorem iS (h:vf w s) (j:op.kind=13) (k:∃a n c,op.v=I a n c):Calls Tryz.prog 17 #[H (Q ⟨S,0,Z⟩),H (Q ⟨s.q,0,Z⟩),iO op] w fun e w'=>e=T (A D)/\∃s',YJ s s' w w':=by
 obtain⟨L,z,y,x,o,ov,G⟩:=op;simp only at j k;obtain⟨a,n,c,rfl⟩:=k;subst j;unfold iO;simp only;have i:=(zI w.heap.size w).alloc (zB _) (V #[J U 13,J U z,J U y,J U x,O o,I a n c] 32);have d:=qG h i;go_enter func17,ntmps17;go_wp2_with fail;refine(iu (d.u.1.zP d.u.2)).mono ?_;rintro e w1 ⟨rfl,f⟩;have F:=zD (YJ.below d.u.1 (d.u.2.trans (f.mono d.u.2.size)));go_wp2;go_ret;exact⟨rfl,_,F.u⟩
end
theorem Bv (j:Nat->Nat) (z:op.kind=4) (h:WI w S pv lv vs prs j) (A:kA w op.v op.l) (L:G op.l<=17592186044416) (I:op.s.size<=maxLen) (k:(G vs+2)*24<=140737488355328) (o:(G prs+1)*8<=140737488355328):Calls Tryz.prog 10 #[H (Q ⟨S,0,Z⟩),iO op] w (bf S vs prs w):=by
 have d:=(zI w.heap.size w).alloc (zB _) (V #[J U 4,J U op.a,J U op.b,J U op.c,O op.s,op.v] 32);have i:=sY I j (h.zP d) (A.zP d) L k o;have D:=zQ h.lg.block;obtain⟨ad,ca,y⟩:=A.form;obtain⟨kd,oa,ob,W,R,ov,T⟩:=op;simp only at z y;subst z y;unfold iO at i ⊢;simp only at i d ⊢;have M:=zD i;have N:=zD d;go_enter func10,ntmps10;go_wp2_with fail;refine M.u.mono ?_;rintro e w1 ⟨rfl,x,f⟩;have F:=qG ((N.u.mono (B':=S) (by omega)).trans x) f;go_wp2;go_ret;exact⟨rfl,F.u.1,F.u.2⟩
theorem wR (f:Nat->Nat) (z:5<=op.kind) (h:WI w S pv lv vs [] f) (A:kA w op.v op.l):Calls Tryz.prog 10 #[H (Q ⟨S,0,Z⟩),iO op] w (bf S vs [] w):=by
 have d:=(zI w.heap.size w).alloc (zB _) (V #[J U op.kind,J U op.a,J U op.b,J U op.c,O op.s,op.v] 32);have o:=zQ h.lg.block;have x:w.cell? ⟨S,0,Z⟩=Q pv:=zC h.lg.block 0 (by simp);obtain⟨G,F,i⟩:=zK h.ps;rw[i]at x;have D:=cell_later d x;have k:=h.zP d;obtain⟨ad,ca,j⟩:=A.form;obtain⟨W,T,R,N,I,ov,L⟩:=op;simp only at z j d D k;subst j;unfold iO;simp only;have y:=qG k (d.mono (B':=S) (by omega));go_enter func10,ntmps10;go_wp2;go_ret;exact⟨rfl,y.u.2,pv,lv,vs,[],f,y.u.1,by omega,by simp,fun M hM s hs=>by simp at hs⟩
theorem Bu (z:Nat->Nat) (hk:5<=op.kind) (h:WI w S pv lv vs prs z) (f:kA w op.v op.l) (hp:0 < G prs) (a3:G prs<=17592186044416) (hr:-9223372036854775808<=op.a/\op.a<=9223372036854775807) (HS:∀(w1:World) (i:Nat) (f:i < G prs),WI w1 S pv lv vs prs z->Below w.heap.size w w1->Calls Tryz.prog 17 #[H (Q ⟨S,0,Z⟩),H (Q ⟨prs[i].q,0,Z⟩),iO op] w1 (bf S vs prs w1)):Calls Tryz.prog 10 #[H (Q ⟨S,0,Z⟩),iO op] w (bf S vs prs w):=by
 have k:=(zI w.heap.size w).alloc (zB _) (V #[J U op.kind,J U op.a,J U op.b,J U op.c,O op.s,op.v] 32);have a2:=zQ h.lg.block;have M:=h.zP k;have c0:=zC M.lg.block 0 (by simp);obtain⟨pa,pc,D⟩:=zK h.ps;simp only[yQ,zv]at c0;rw[D]at c0;have y:=zD (fun (i:Nat) (f:i < G prs)=>yD M.ps (j:=i) (u:=H (Q ⟨prs[i].q,0,Z⟩)) (by rw[yt,zJ f];rfl));have o:=zD (fun (w1:World) hb (i:Nat) (f:i < G prs)=>HS w1 i f (M.zP hb) (k.trans (hb.mono (B':=w.heap.size) k.size)));obtain⟨ad,ca,hv⟩:=f.form;obtain⟨kd,L,W,T,N,ov,R⟩:=op;simp only at hk hv k c0 M y o hr;subst hv;unfold iO at o ⊢;simp only at o ⊢;have HB:=zD k;have HV:=zD D;obtain⟨r0,r1,r2,r3,r4,r5,_⟩:=YA (zN w (V #[J U kd,J U L,J U W,J U T,O N,I ad (G R) ca] 32));obtain⟨g,gc,hg,_,_,_⟩:=y.u 0 hp;rw[HV.u]at hg;injection hg with hg1 _ hg2;subst hg1 hg2;have a1:=zD (show ∀(i:Nat) (f:i < G prs),(w.alloc (V #[J U kd,J U L,J U W,J U T,O N,I ad (G R) ca] 32)).cell? ⟨g,i,Z⟩=Q (H (Q ⟨prs[i].q,0,Z⟩))from fun i f=>by
  obtain⟨g',a4,d,_,_,cG⟩:=y.u i f;rw[HV.u]at d;injection d with d _ _;injection d with d;injection d with d;rw[d];exact cG)
 have F:G prs<=140737488355328:=by omega
 go_enter func10,ntmps10;go_wp2_with fail;generalize w.alloc (V #[J U kd,J U L,J U W,J U T,O N,I ad (G R) ca] 32)=wa at *;go_region_with (go_at_call 16;refine(CI L (G prs) hp F hr).mono ?_;rintro e wn ⟨A,i,f,rfl⟩;rw[A];clear A;have cG:=a1.u i f;have i0:(0:Int)<=(i:Int):=(by omega);have i1:(i:Int) < (G prs:Int):=(by omega))
 all_goals
  go_wp2_with fail;refine(o.u _ (zh _) i f).mono ?_;rintro e w2 ⟨rfl,a0,x⟩;have HF:=qG ((HB.u.mono (B':=S) (by omega)).trans (((zh wa).mono (B':=S) (by have:=HB.u.size;omega)).trans a0)) x;go_wp2;go_ret;exact⟨rfl,HF.u.1,HF.u.2⟩
theorem WI.Yo {tag:Nat->Nat} (h:WI w S pv lv vs prs tag) (d:i < G prs) (j:Calls Tryz.prog 17 #[H (Q ⟨S,0,Z⟩),H (Q ⟨prs[i].q,0,Z⟩),iO op] w fun e w'=>e=T (A D)/\∃s',YJ prs[i] s' w w'):Calls Tryz.prog 17 #[H (Q ⟨S,0,Z⟩),H (Q ⟨prs[i].q,0,Z⟩),iO op] w (bf S vs prs w):=by
 refine j.mono ?_;rintro e w' ⟨rfl,s',f⟩;obtain⟨o,k⟩:=h.act d f;refine⟨rfl,k,pv,lv,vs,prs.set i s',_,o,by omega,by simp,fun M hM s hs=>?_⟩;rcases List.mem_or_eq_of_mem_set hs with hs | rfl
 ·have:=hM s hs;omega
 ·have y:=hM _ (zj d);have x:=f.iP;omega
def iI (S:Nat) (w:World) (k:Nat):Prop:=∃pv lv vs prs tag,WI w S pv lv vs prs tag/\G vs<=2*k/\G prs<=k/\∀s∈prs,s.len<=1000*k
theorem iI.step (h:iI S w k) (d:rS) (I:5<=d.kind) (J:kA w d.v d.l) (R:-9223372036854775808<=d.a/\d.a<=9223372036854775807) (F:k<=2000000000000) (HS:∀(w1:World) (s:mU),vf w1 s->s.len<=1000*k->Below w.heap.size w w1->Calls Tryz.prog 17 #[H (Q ⟨S,0,Z⟩),H (Q ⟨s.q,0,Z⟩),iO d] w1 fun e w'=>e=T (A D)/\∃s',YJ s s' w1 w'):Calls Tryz.prog 10 #[H (Q ⟨S,0,Z⟩),iO d] w fun e w'=>e=T (A D)/\Below S w w'/\iI S w' (k+1):=by
 obtain⟨pv,lv,f,prs,j,N,M,U,L⟩:=h;have fin:∀(f:List Value) (prs:List mU),G f<=2*k->G prs<=k->(∀s∈prs,s.len<=1000*k)->∀e w',bf S f prs w e w'->e=T (A D)/\Below S w w'/\iI S w' (k+1):=by
  rintro f prs q1 q2 O e w' ⟨rfl,z,pv',y,x,o,tag',W,a2,a3,V⟩;exact⟨rfl,z,pv',y,x,o,tag',W,by omega,by omega,fun s hs=>by have:=V _ O s hs;omega⟩
 by_cases h0:prs=[]
 ·subst h0;exact(wR j I N J).mono (fin f [] M (by simp) (by simp))
 ·exact(Bu j I N J (kO.mpr h0) (by omega) R (fun w1 i hi' hW z=>hW.Yo hi' (HS w1 prs[i] (hW.each i hi') (L _ (zj hi')) z))).mono (fin f prs M U L)
theorem iI.new (h:iI S w k) (d:rS) (I:d.kind=4) (J:kA w d.v d.l) (F:G d.l<=17592186044416) (x:d.s.size<=maxLen) (y:k<=2000000000000):Calls Tryz.prog 10 #[H (Q ⟨S,0,Z⟩),iO d] w fun e w'=>e=T (A D)/\Below S w w'/\iI S w' (k+1):=by
 obtain⟨V,W,U,z,j,N,h2,h3,M⟩:=h;refine(Bv j I N J F x (by omega) (by omega)).mono ?_;rintro e w' ⟨rfl,L,pv',o,i,f,tag',R,a2,a3,O⟩;exact⟨rfl,L,pv',o,i,f,tag',R,by omega,by omega,fun s x=>by have:=O _ M s x;omega⟩
theorem we (i:List rS) {ks:List Int} (F:G i<=2000000000000) (J:∀(w1:World) (k:Nat) (hk:k < G i),i[k].kind∈ks->iI w.heap.size w1 k->Below w.heap.size w w1->Calls Tryz.prog 10 #[H (Q ⟨w.heap.size,0,Z⟩),iO i[k]] w1 fun e w'=>e=T (A D)/\Below w.heap.size w1 w'/\iI w.heap.size w' (k+1)):FT w w.heap.size i ks (iI w.heap.size):=by
 refine⟨?_,?_,?_,fun w1 k hk hm h hb=>J w1 k hk hm h hb,?_⟩
 ·rintro w1 w2 k ⟨x,y,o,f,d,j,z⟩ hb;exact⟨x,y,o,f,d,j.zP hb,z⟩
 ·rintro w1 k _ ⟨x,y,o,f,d,j,z,L,I⟩;exact⟨x,y,o,f,d,j,by omega,by omega,fun s hs=>by have:=I s hs;omega⟩
 ·rintro w1 k ⟨x,y,o,f,d,j,_⟩;exact zQ j.lg.block
 ·rintro w1 k hk ⟨x,y,o,f,d,j,z,_⟩;exact sy j.lg (by omega)
theorem ses_start (h:w.heap[S]?=Q (V #[I Z 0 0,I Z 0 0] 30 (0,0))):iI S w 0:=
 ⟨_,_,[],[],fun _=>0,⟨⟨h,zW _ _ _ _,fun k hk=>by simp at hk⟩,zW _ _ _ _,fun i hi=>by simp at hi,fun i hi=>by simp at hi,fun _ _=>rfl,fun _ _=>rfl,fun i hi=>by simp at hi⟩,by simp,by simp,by simp⟩
theorem DE (h:kA w v l):∃a n c,v=I a n c:=by
 obtain⟨a,c,e⟩:=h.form;exact⟨a,_,c,e⟩
def Q2 (kind fuel:Int):Int:=if kind < 0\/3 < kind then 7 else if fuel < 0\/1000 < fuel then 5 else 0
theorem uW (d fuel:Int) (w:World):Calls Tryz.prog 110 #[J U d,J U fuel] w fun e w'=>e=T (J U (Q2 d fuel))/\w'=w:=by
 obtain⟨R,f⟩:∃R,R=Q2 d fuel:=⟨_,rfl⟩;rw[<-f];have h:=zD f;clear f;have cs:d < 0\/(¬d < 0/\3 < d)\/(¬d < 0/\¬3 < d/\fuel < 0)\/(¬d < 0/\¬3 < d/\¬fuel < 0/\1000 < fuel)\/(¬d < 0/\¬3 < d/\¬fuel < 0/\¬1000 < fuel):=by omega
 rcases cs with h1 | ⟨h1,h2⟩| ⟨h1,h2,h3⟩| ⟨h1,h2,h3,h4⟩| ⟨h1,h2,h3,h4⟩
 all_goals
  go_enter func110,ntmps110;go_wp2;go_ret;refine⟨?_,rfl⟩;rw[h.u];unfold Q2
  first | (rw[zE (by omega)];rfl)| (rw[zA (by omega),zE (by omega)];rfl)| (rw[zA (by omega),zA (by omega)];rfl)
section
variable {C:Nat} {zL:List Rt.PL} {ls:List Ib} {S:Rt.Src} {cap:Int} {len n low:Nat} {mk:List Bool} {Y:iQ}
theorem DU (h:vg w C zL ls S cap len n low mk Y) (hn:n<=len) (d f:Int) (l:Nat) (O:(Rt.atM S n).line=(l:Int)) (b:Bool) (hb:mk[l]?=Q b):Calls Tryz.prog 111 #[H (Q ⟨C,0,Z⟩),J U d,J U f] w fun e w'=>e=T (J U (if kf d f (Rt.atM S n).zH.length=D then 1 else if b=D then 2 else 0))/\Below w.heap.size w w':=by
 obtain⟨g,c,X,hX,k,N,F⟩:=h.cells hn;obtain⟨c0,c1,c2,c3,c4,c5,c6,c7⟩:=xH h.block;rw[k]at c3;obtain⟨mg,mc,o,_,_,cM⟩:=yD h.Yw (j:=l) (u:=A b) (by rw[yt,hb];rfl);rw[o]at c7;have z:l < G mk:=by
  rcases bj l (G mk) with h1 | h1
  ·exact h1
  ·rw[xt h1]at hb;cases hb
 obtain⟨xa,xc,ya,yc,za,zc,oa,oc,V,f2,f3,f4⟩:=N.ZX;have y:=F 0 (by omega);have M:=F 5 (by omega);simp only[jh,yQ,zv,yH,qO]at y M;rw[V]at y;rw[show (ZN zL S n).zH.length=(Rt.atM S n).zH.length from Rf.XD _ _ _]at y;rw[show (ZN zL S n).line=(l:Int)from O]at M;have a1:(0:Int)<=(n:Int):=by omega
 have a0:(n:Int) < (len:Int)+1:=by omega
 have a3:(0:Int)<=(l:Int):=by omega
 have a2:(l:Int) < (G mk:Int):=by omega
 obtain⟨fr,x⟩:∃fr,fr=(Rt.atM S n).zH.length:=⟨_,rfl⟩;rw[<-x]at y ⊢;unfold kf;clear h F hX N k V f2 f3 f4 x hb o c0 c1 c2 c4 c6 O z;generalize (G mk)=ml at *;obtain⟨R,I⟩:∃R,R=(if (if d=0 then D else if d=1 then decide ((fr:Int)<=f)else if d=2 then decide ((fr:Int) < f)else W)=D then (1:Int)else if b=D then 2 else 0):=⟨_,rfl⟩;rw[<-I];have HR:=zD I;clear I;have cs:(d=0\/d=1/\(fr:Int)<=f\/d=2/\(fr:Int) < f)\/(d=1/\¬(fr:Int)<=f\/d=2/\¬(fr:Int) < f\/d≠0/\d≠1/\d≠2):=by omega
 rcases cs with cs | cs
 ·have L:Hd (R=1):=zD (by
   rw[HR.u,zE];rcases cs with e | ⟨e,h⟩| ⟨e,h⟩
   ·simp[e]
   ·simp[e,h]
   ·simp[e,h])
  rcases cs with e | ⟨e,h⟩| ⟨e,h⟩
  all_goals
   subst e;go_enter func111,ntmps111;go_wp2_with fail;go_quiet (fail);go_wp2;go_ret;exact⟨by rw[L.u];rfl,below_drewN _ _⟩
 ·have i:Hd (R=if b=D then 2 else 0):=zD (by
   rw[HR.u,zA];rcases cs with⟨e,h⟩| ⟨e,h⟩| ⟨e,h,h'⟩ <;> simp_all)
  have ck:(d==0)=W:=by simp;omega
  rcases cs with⟨e,h⟩| ⟨e,h⟩| ⟨e,h,h'⟩
  ·subst e;cases b
   all_goals
    go_enter func111,ntmps111;go_wp2_with fail;go_quiet (fail);go_wp2_with fail;go_quiet (fail);go_wp2;go_ret;exact⟨by rw[i.u];rfl,(kT w).trans (kT _)⟩
  ·subst e;cases b
   all_goals
    go_enter func111,ntmps111;go_wp2_with fail;go_quiet (fail);go_wp2_with fail;go_quiet (fail);go_wp2;go_ret;exact⟨by rw[i.u];rfl,(kT w).trans (kT _)⟩
  ·have a5:(d==1)=W:=by simp;omega
   have a4:(d==2)=W:=by simp;omega
   cases b
   all_goals
    go_enter func111,ntmps111;go_wp2_with fail;go_quiet (fail);go_wp2_with fail;go_quiet (fail);go_wp2;go_ret;exact⟨by rw[i.u];rfl,(kT w).trans (kT _)⟩
end
abbrev Q1:Array Value:=#[J U 0,J U 0,J U 0,J U 0,J U 0,J U 0]
theorem ry (d fuel:Int) (w:World):Calls Tryz.prog 106 #[J U d,J U fuel] w fun e w'=>e=T (J U (Q2 d fuel))/\w'=w:=by
 obtain⟨R,f⟩:∃R,R=Q2 d fuel:=⟨_,rfl⟩;rw[<-f];have h:=zD f;clear f;have cs:d < 0\/(¬d < 0/\3 < d)\/(¬d < 0/\¬3 < d/\fuel < 0)\/(¬d < 0/\¬3 < d/\¬fuel < 0/\1000 < fuel)\/(¬d < 0/\¬3 < d/\¬fuel < 0/\¬1000 < fuel):=by omega
 rcases cs with h1 | ⟨h1,h2⟩| ⟨h1,h2,h3⟩| ⟨h1,h2,h3,h4⟩| ⟨h1,h2,h3,h4⟩
 all_goals
  go_enter func106,ntmps106;go_wp2;go_ret;refine⟨?_,rfl⟩;rw[h.u];unfold Q2
  first | (rw[zE (by omega)];rfl)| (rw[zA (by omega),zE (by omega)];rfl)| (rw[zA (by omega),zA (by omega)];rfl)
theorem GY (P:Nat) (d f:Int) (w:World) (h:¬Q2 d f=0):Calls Tryz.prog 65 #[H (Q ⟨P,0,Z⟩),J U d,J U f] w fun e w'=>e=T (E #[L Q1,J U (Q2 d f)])/\Below w.heap.size w w':=by
 have G:=zD (ry d f);have A:(Q2 d f != 0)=D:=by simpa using h
 generalize Q2 d f=R at *;have i:=zN w (V Q1 111);have F:=(zI w.heap.size w).alloc (zB _) (V Q1 111);obtain⟨z,y,x,o,k,j,_⟩:=YA i;have I:=qG F i;go_enter func65,ntmps65;go_wp2_with fail;refine(G.u _).mono ?_;rintro e w0 ⟨rfl,rfl⟩;go_wp2_with fail;refine zT (v:=E #[L Q1,J U R]) ?_ rfl ⟨rfl,I.u.1⟩;simp[results,results65,go_sem,z,y,x,o,k,j]
theorem Gp (C:Nat) (d f:Int) (w:World) (h:¬Q2 d f=0):Calls Tryz.prog 66 #[H (Q ⟨C,0,Z⟩),J U d,J U f] w fun e w'=>e=T (E #[J U 0,J U 0,J U (Q2 d f)])/\w'=w:=by
 have j:=zD (uW d f);have i:(Q2 d f != 0)=D:=by simpa using h
 generalize Q2 d f=R at *;go_enter func66,ntmps66;go_wp2_with fail;refine(j.u _).mono ?_;rintro e w0 ⟨rfl,rfl⟩;go_wp2;go_ret3;exact⟨rfl,rfl⟩
theorem sb_no (P:Nat) (d f:Int) (w:World) (h:¬Q2 d f=0):Calls Tryz.prog 67 #[H (Q ⟨P,0,Z⟩),J U d,J U f] w fun e w'=>e=T (E #[L Q1,J U (Q2 d f)])/\Below w.heap.size w w':=by
 have G:=zD (ry d f);have A:(Q2 d f != 0)=D:=by simpa using h
 generalize Q2 d f=R at *;have i:=zN w (V Q1 111);have F:=(zI w.heap.size w).alloc (zB _) (V Q1 111);obtain⟨z,y,x,o,k,j,_⟩:=YA i;have I:=qG F i;go_enter func67,ntmps67;go_wp2_with fail;refine(G.u _).mono ?_;rintro e w0 ⟨rfl,rfl⟩;go_wp2_with fail;refine zT (v:=E #[L Q1,J U R]) ?_ rfl ⟨rfl,I.u.1⟩;simp[results,results67,go_sem,z,y,x,o,k,j]
theorem cb_no (C:Nat) (d f:Int) (w:World) (h:¬Q2 d f=0):Calls Tryz.prog 68 #[H (Q ⟨C,0,Z⟩),J U d,J U f] w fun e w'=>e=T (E #[J U 0,J U 0,J U (Q2 d f)])/\w'=w:=by
 have j:=zD (uW d f);have i:(Q2 d f != 0)=D:=by simpa using h
 generalize Q2 d f=R at *;go_enter func68,ntmps68;go_wp2_with fail;refine(j.u _).mono ?_;rintro e w0 ⟨rfl,rfl⟩;go_wp2;go_ret3;exact⟨rfl,rfl⟩
theorem qm.uG {u:TypeId} (f:qm w k t) (d:qm w k u):t=u:=
 Zt fun h=>f.ne d h rfl
section
variable {C:Nat} {ps zL:List Rt.PL} {ls:List Ib} {S:Rt.Src} {cap:Int} {len n low:Nat} {mk:List Bool} {Y:iQ}
theorem wk {S:Rt.Src}:sC S (k+1)=sC S k++[((ku S k).length:Int)]:=by
 unfold sC;rw[List.range_succ,yB];rfl
theorem vg.more {w4:World} (h:vg w C zL ls S cap len n low mk Y) (I:Below w.heap.size w w1) {X:Qg} (M:Xd w1 w.heap.size (ZN zL S (len+1)) X) (H:w1.grownBy w2 Y.tv.ownBlock) (ho:w2.ownsRow 0 72 7 tv (len+2) (trC (ZN zL S) 0 (Y.xs++[X]))) (hat:∀g,tv.ownBlock=Q g->Y.tv.ownBlock=Q g\/w1.heap.size<=g) (x:Below (w2.setCell ⟨C,3,Z⟩ tv).heap.size (w2.setCell ⟨C,3,Z⟩ tv) w3) (j:w3.grownBy w4 Y.rv.ownBlock) (O:w4.ownsRow 0 3 1 rv (len+1) (xR (sC S (len+1)))) (hat2:∀g,rv.ownBlock=Q g->Y.rv.ownBlock=Q g\/w3.heap.size<=g):Ds C zL ls S cap (len+1) n low mk Y { Y with tv:=tv,rv:=rv,xs:=Y.xs++[X] } w (w4.setCell ⟨C,4,Z⟩ rv):=by
 have R:=zQ h.block;have a9:=I.size;have a8:=H.size;have a7:w2.heap.size<=w3.heap.size:=by have:=x.size;simpa[World.setCell] using this
 have a6:=j.size;have a5:(w4.setCell ⟨C,4,Z⟩ rv).heap.size=w4.heap.size:=by simp[World.setCell]
 have d:∀{B z m:Nat} {t:TypeId} {v:Value} {xs:List Value} {k:Nat},w.ownsRow B t z v m xs->v.ownBlock=Q k->qm w k t:=fun hr e=>yW hr e;have J:qm w C 109:=⟨_,h.block⟩;have W:∀k,k < w1.heap.size->k≠C->Y.tv.ownBlock≠Q k->Y.rv.ownBlock≠Q k->(w4.setCell ⟨C,4,Z⟩ rv).heap[k]?=w1.heap[k]?:=fun k hk n1 n2 n3=>by
  rw[zO w4 ⟨C,4,Z⟩ _ k n1,j.block k (by omega) (xK n3),x.block k (by simp[World.setCell];omega),zO w2 ⟨C,3,Z⟩ _ k n1,H.block k hk (xK n2)]
 have f:∀{k:Nat} {t:TypeId},qm w k t->t≠109->t≠72->Y.rv.ownBlock≠Q k->(w4.setCell ⟨C,4,Z⟩ rv).heap[k]?=w.heap[k]?:=fun {k t} hk t1 t2 n3=>
  (W k (by have:=hk.lt;omega) (fun e=>t1 (hk.uG (by rw[e];exact J))) (fun e=>t2 (hk.uG (d h.tr e))) n3).trans (I.block k hk.lt);have D:∀{k:Nat} {t:TypeId},qm w k t->t≠3->Y.rv.ownBlock≠Q k:=fun hk ht e=>ht (hk.uG (d h.oH e));have y:∀k,Y.rv.ownBlock=Q k->k < w.heap.size:=fun k e=>(h.oH.lt k e).2;have U:w2.heap[C]?=Q (V (Du Y cap n low) 109 (0,0)):=(H.block C (by omega) (fun e=>by have:=J.uG (d h.tr e.symm);exact absurd this (by decide))).trans ((I.block C R).trans h.block);have T:=(j.block C (by omega) (fun e=>by have:=J.uG (d h.oH e.symm);exact absurd this (by decide))).trans (zU (zf U 3 tv) x);have a4:=zf T 4 rv;have a3:∀k,tv.ownBlock=Q k->qm w2 k 72:=fun k e=>yW ho e;have N:∀k,tv.ownBlock=Q k->k≠C:=fun k e ec=>by
  have:=(a3 k e).uG (by rw[ec];exact⟨_,U⟩);exact absurd this (by decide)
 have a0:∀k,tv.ownBlock=Q k->Y.rv.ownBlock≠Q k:=fun k e er=>by
  rcases hat k e with e1 | e1
  ·exact absurd ((d h.tr e1).uG (d h.oH er)) (by decide)
  ·have:=y k er;omega
 have A:∀k∈xh (yO X (ZN zL S (len+1))),w.heap.size<=k/\k < w1.heap.size:=fun k hk=>⟨M.new k hk,M.own.lt k hk⟩;have hnew:∀g,rv.ownBlock=Q g->Y.rv.ownBlock=Q g\/w1.heap.size<=g:=fun g e=>by
  rcases hat2 g e with e1 | e1
  ·exact Or.inl e1
  ·exact Or.inr (by omega)
 have F:∀i (hi:i < (Y.xs++[X]).length),Xd (w4.setCell ⟨C,4,Z⟩ rv) 0 (ZN zL S i) (Y.xs++[X])[i]/\∀g,rv.ownBlock=Q g->g∉xh (yO (Y.xs++[X])[i] (ZN zL S i)):=fun i hi=>by
  by_cases hiv:i < G Y.xs
  ·rw[xI hiv];have L:=h.GV i hiv;refine⟨⟨⟨fun r hr=>yP (L.own.rows r hr) (fun q hq2=>?_),L.own.apart⟩,L.fl,L.cl,fun _ _=>zo _⟩,fun g e hm=>?_⟩
   ·refine f (d (L.own.rows r hr) hq2) (by rcases Yr hr with e | e | e <;> rw[e] <;> decide) (by rcases Yr hr with e | e | e <;> rw[e] <;> decide) (fun e=>(h.iP q e).2 i hiv (qU hr hq2))
   ·rcases hnew g e with e1 | e1
    ·exact(h.iP g e1).2 i hiv hm
    ·have:=L.own.lt g hm;omega
  ·have:i=G Y.xs:=by simp at hi;omega
   subst this;rw[xm (zB _)];simp only[jC,zv];rw[h.xl];refine⟨⟨⟨fun r hr=>yP (M.own.rows r hr) (fun q hq2=>?_),M.own.apart⟩,M.fl,M.cl,fun _ _=>zo _⟩,fun g e hm=>?_⟩
   ·obtain⟨l1,l2⟩:=A q (qU hr hq2);exact W q l2 (by omega) (fun e=>by have:=(h.tr.lt q e).2;omega) (fun e=>by have:=y q e;omega)
   ·obtain⟨l1,l2⟩:=A g hm;rcases hnew g e with e1 | e1
    ·have:=y g e1;omega
    ·omega
 refine⟨⟨by simpa[Du] using a4,h.src.stay (fun k t ht hk=>f hk (by rcases ht with rfl | rfl | rfl <;> decide) (by rcases ht with rfl | rfl | rfl <;> decide) (D hk (by rcases ht with rfl | rfl | rfl <;> decide))),yP h.qo (fun k e=>f (d h.qo e) (by decide) (by decide) (fun e2=>(h.iP k e2).1 e)),?_,by simp[h.xl],fun i hi=>(F i hi).1,?_,yP h.Yw (fun k e=>f (d h.Yw e) (by decide) (by decide) (D (d h.Yw e) (by decide))),fun g e=>⟨fun e2=>?_,fun i hi=>(F i hi).2 g e⟩⟩,⟨?_,?_,?_,by omega,fun k hk hn=>?_⟩,fun k hk=>?_⟩
 ·refine yP (yG (yP ho (w':=w2.setCell ⟨C,3,Z⟩ tv) (fun k e=>zO w2 ⟨C,3,Z⟩ _ k (N k e))) x) (fun k e=>?_);have a1:k < w3.heap.size:=by have:=(ho.lt k e).2;omega
  rw[zO w4 ⟨C,4,Z⟩ _ k (N k e),j.block k a1 (xK (a0 k e))]
 ·refine yP O (fun k e=>zO w4 ⟨C,4,Z⟩ _ k (fun ec=>?_));have h1:qm w4 k 3:=yW O e;have h2:qm w4 C 109:=⟨_,T⟩;exact absurd (h1.uG (by rw[show k=C from ec];exact h2)) (by decide)
 ·rcases hnew g e with e1 | e1
  ·exact(h.iP g e1).1 e2
  ·have:=(h.qo.lt g e2).2;omega
 ·exact j.os.trans (x.os.trans (H.os.trans I.os))
 ·exact j.tape.trans (x.tape.trans (H.tape.trans I.tape))
 ·exact j.output.trans (x.output.trans (H.output.trans I.output))
 ·have n1:k≠C:=fun e=>hn (by rw[e];exact xB ..);have n2:Y.tv.ownBlock≠Q k:=fun e=>hn (zm _ (zY _ (zY _ (YY e))));have n3:Y.rv.ownBlock≠Q k:=fun e=>hn (zm _ (zY _ (zb _ (YY e))));exact(W k (by omega) n1 n2 n3).trans (I.block k hk)
 ·have ot:∀{o:Option Nat} {g:Nat},g∈o.toList->o=Q g:=fun H=>by simpa using H
  rcases zd.mp hk with hk | hk
  ·rcases zw.mp hk with rfl | hk
   ·exact Or.inl (zY _ (xB ..))
   ·rcases zd.mp hk with hk | hk
    ·rcases zd.mp hk with hk | hk
     ·rcases hat k (ot hk)with e | e
      ·exact Or.inl (zY _ (zm _ (zY _ (zY _ (YY e)))))
      ·exact Or.inr (by omega)
     ·rcases hnew k (ot hk)with e | e
      ·exact Or.inl (zY _ (zm _ (zY _ (zb _ (YY e)))))
      ·exact Or.inr (by omega)
    ·exact Or.inl (zY _ (zm _ (zb _ hk)))
  ·rcases zd.mp hk with hk | hk
   ·exact Or.inl (zb _ (zY _ hk))
   ·obtain⟨i,hi,hm⟩:=nM hk;rw[xW]at hm;have a2:i < (Y.xs++[X]).length:=hi;by_cases hiv:i < G Y.xs
    ·have e1:({ Y with tv:=tv,rv:=rv,xs:=Y.xs++[X] }:iQ).xs[i]=Y.xs[i]:=xI hiv;rw[e1]at hm;exact Or.inl (zb _ (zb _ (td (i:=0) hiv (by rw[xW];exact hm))))
    ·have e0:i=G Y.xs:=by simp at a2;omega
     subst e0;have e1:({ Y with tv:=tv,rv:=rv,xs:=Y.xs++[X] }:iQ).xs[G Y.xs]=X:=by
      show (Y.xs++[X])[G Y.xs]'_=X;rw[xm (zB _)];simp
     rw[e1,h.xl]at hm;exact Or.inr (A k hm).1
end
theorem GK {R:Nat} {x0 x1 x2 x3 x4 x5 x6:Value} (h:w.heap[R]?=Q (V #[x0,x1,x2,x3,x4,x5,x6] t (0,0))) (a b c d e f g:Value):(W7 w R a b c d e f g).heap[R]?=Q (V #[a,b,c,d,e,f,g] t (0,0)):=by
 have:=zf (zf (zf (zf (zf (zf (zf h 0 a) 1 b) 2 c) 3 d) 4 e) 5 f) 6 g;simpa using this
structure J0 (C:Nat) (zL:List Rt.PL) (ls:List Ib) (S:Rt.Src) (cap:Int) (len n low:Nat) (mk:List Bool) (Y Y':iQ) (w w':World):Prop where
 aC:Ds C zL ls S cap len n low mk Y Y' w w'
 F4:vd w (Ev C Y) (Ev C Y')
section
variable {w w1 w2:World} {C:Nat} {zL:List Rt.PL} {ls:List Ib} {S:Rt.Src} {cap:Int} {len n low len2 n2 low2:Nat} {mk mk2:List Bool} {Y Y1 Y2:iQ}
theorem J0.below (h:vg w C zL ls S cap len n low mk Y) (d:Below w.heap.size w w1):J0 C zL ls S cap len n low mk Y Y w w1:=
 ⟨⟨h.zP d,VM.jQ _ d,fun _ hk=>Or.inl hk⟩,vd.refl _ _⟩
theorem J0.trans (h:J0 C zL ls S cap len n low mk Y Y1 w w1) (h2:J0 C zL ls S cap len2 n2 low2 mk2 Y1 Y2 w1 w2):J0 C zL ls S cap len2 n2 low2 mk2 Y Y2 w w2:=
 ⟨⟨h2.aC.cur,h.aC.vz.trans h2.aC.vz h.F4,fun k hk=>by
  rcases h2.aC.own k hk with e | e
  ·exact h.aC.own k e
  ·exact Or.inr (zi h.aC.vz.size e)⟩,h.F4.trans h2.F4 h.aC.vz.size⟩
theorem vg.Fp (h:vg w C zL ls S cap len n low mk Y) (i:Nat) (v:Value) (e:(Du Y cap n low).setIfInBounds i v=Du Y cap n2 low2):J0 C zL ls S cap len n2 low2 mk Y Y w (w.setCell ⟨C,i,Z⟩ v):=by
 have d:∀k,k≠C->(w.setCell ⟨C,i,Z⟩ v).heap[k]?=w.heap[k]?:=fun k hk=>zO w ⟨C,i,Z⟩ _ k hk;have o:qm w C 109:=⟨_,h.block⟩;have f:∀{t:TypeId} {z m:Nat} {v:Value} {xs:List Value},w.ownsRow 0 t z v m xs->t≠109->∀q,v.ownBlock=Q q->q≠C:=fun hr ht q hq e=>ht (qm.uG (yW hr hq) (by rw[e];exact o));have x:=zf h.block i v;refine⟨⟨⟨?_,h.src.stay (fun k t ht hk=>d k (fun e=>hk.ne o (by rcases ht with rfl | rfl | rfl <;> decide) e)),yP h.qo (fun q hq=>d q (f h.qo (by decide) q hq)),yP h.tr (fun q hq=>d q (f h.tr (by decide) q hq)),h.xl,fun j hj=>?_,yP h.oH (fun q hq=>d q (f h.oH (by decide) q hq)),yP h.Yw (fun q hq=>d q (f h.Yw (by decide) q hq)),h.iP⟩,⟨rfl,rfl,rfl,by simp[World.setCell],fun k _ hn=>d k (fun e=>hn (by rw[e];exact xB ..))⟩,fun k hk=>Or.inl hk⟩,vd.refl _ _⟩
 ·rw[<-e];exact x
 ·have hq:=h.GV j hj;exact⟨⟨fun r hr=>yP (hq.own.rows r hr) (fun q hq2=>d q (f (hq.own.rows r hr) (by rcases Yr hr with e | e | e <;> rw[e] <;> decide) q hq2)),hq.own.apart⟩,hq.fl,hq.cl,hq.new⟩
theorem Ac {xs:List Qg} {a b:Nat} (f:w.heap.size<=a) (d:w.heap.size<=b) (hat:∀g,tv.ownBlock=Q g->Y.tv.ownBlock=Q g\/a<=g) (hat2:∀g,rv.ownBlock=Q g->Y.rv.ownBlock=Q g\/b<=g):vd w (Ev C Y) (Ev C { Y with tv:=tv,rv:=rv,xs:=xs }):=by
 intro k hk;have ot:∀{o:Option Nat} {g:Nat},g∈o.toList->o=Q g:=fun hg=>by simpa using hg
 rcases zw.mp hk with rfl | hk
 ·exact Or.inl (xB ..)
 ·rcases zd.mp hk with hk | hk
  ·rcases zd.mp hk with hk | hk
   ·rcases hat k (ot hk)with e | e
    ·exact Or.inl (zm _ (zY _ (zY _ (YY e))))
    ·exact Or.inr (by omega)
   ·rcases hat2 k (ot hk)with e | e
    ·exact Or.inl (zm _ (zY _ (zb _ (YY e))))
    ·exact Or.inr (by omega)
  ·exact Or.inl (zm _ (zb _ hk))
theorem nU {ps:List Rt.PL} (f:Rf.Ctx ps zL ls S) (d:G S.input<=100):∀n,(∀i,i < n->(Rt.atM S i).fin=0)->Rf.KA ps zL ls S (Rt.atM S n)
 | 0,_=>(gU f).1
 | n+1,h=>A9 f (nU f d n (fun i hi=>h i (by omega))) (h n (by omega)) d
end
theorem Ca {S:Rt.Src} (h:vg w C zL ls S cap len n low mk Y) (x:Below w.heap.size w w1) (o:w1.grownBy w2 Y.tv.ownBlock) (d:Below (w2.setCell ⟨C,3,Z⟩ tv).heap.size (w2.setCell ⟨C,3,Z⟩ tv) w3):w3.heap[C]?=Q (V (Du { Y with tv:=tv } cap n low) 109 (0,0))/\w3.ownsRow 0 3 1 Y.rv len (xR (sC S len))/\w.heap.size<=w3.heap.size:=by
 have i:=zQ h.block;have D:=x.size;have A:=o.size;have z:w2.heap.size<=w3.heap.size:=by have:=d.size;simpa[World.setCell] using this
 have j:qm w C 109:=⟨_,h.block⟩;have y:w2.heap[C]?=Q (V (Du Y cap n low) 109 (0,0)):=(o.block C (by omega) (fun e=>by have:=j.uG (yW h.tr e.symm);exact absurd this (by decide))).trans ((x.block C i).trans h.block);refine⟨?_,yP h.oH (fun k e=>?_),by omega⟩
 ·have:=zU (zf y 3 tv) d;simpa[Du] using this
 ·have F:=(h.oH.lt k e).2;have f:qm w k 3:=yW h.oH e;rw[d.block k (by simp[World.setCell];omega),zO w2 ⟨C,3,Z⟩ _ k (fun e2=>absurd (f.uG (by rw[show k=C from e2];exact j)) (by decide)),o.block k (by omega) (fun e2=>absurd (f.uG (yW h.tr e2.symm)) (by decide))];exact x.block k F
def pC (w:World) (C:Nat):Nat:=match w.cell? ⟨C,6,none⟩with
 | some (.int _ k)=>k.toNat
 | _=>0
theorem pB {S:Rt.Src} (h:vg w C zL ls S cap len n low mk Y):pC w C=low:=by
 unfold pC;rw[(xH h.block).2.2.2.2.2.2.1];rfl
theorem fS (S:Rt.Src):∀(lo d k:Nat),(xT S (lo+d) k).length<=(xT S lo (k+d)).length
 | _,0,_=>zB _
 | lo,d+1,k=>by
  have f:=fS S (lo+1) d k;rw[show lo+1+d=lo+(d+1) by omega]at f;rw[show k+(d+1)=(k+d)+1 by omega,YT,ze];omega
section
variable {C:Nat} {ps zL:List Rt.PL} {ls:List Ib} {S:Rt.Src} {cap:Int} {len n low:Nat} {mk:List Bool} {Y:iQ}
theorem Fv (h:vg w C zL ls S cap len n low mk Y) (hn:n<=len) (hx:Rf.Ctx ps zL ls S) (hP:Be S) (b4:VK S cap n low) (hz:(Rt.atM S n).fin=0) (hc:0<=cap/\cap<=500) (hl:len < 1000000000000):Calls Tryz.prog 112 #[H (Q ⟨C,0,Z⟩)] w fun e w'=>e=T (E #[])/\∃Y',J0 C zL ls S cap (max len (n+1)) (n+1) (ik S cap n low) mk Y Y' w w':=by
 have hF:=nU hx hP.input n b4.run;have hK:=hP.qT n;have h9:=hP.input;obtain⟨g,c,X,hX,f8,hq,a9⟩:=h.cells hn;obtain⟨c0,c1,c2,c3,c4,c5,c6,c7⟩:=xH h.block;rw[f8]at c3;obtain⟨g8,d8,g3⟩:=zK h.qo;rw[g3]at c1;have n0:IntKind.i64.wrap ((n:Int)+1)=(n:Int)+1:=zl _ ⟨by omega,by omega⟩;have n4:(0:Int)<=(n:Int):=by omega
 have n3:(n:Int) < (len:Int)+1:=by omega
 obtain⟨xa,xc,ya,yc,za,zc,oa,oc,f1,f2,f3,f4⟩:=hq.ZX;have g2:jh X.fv X.vv X.cv X.ov (ZN zL S n)=#[I xa (ZN zL S n).zH.length xc,I ya (ZN zL S n).vars.length yc,I za (ZN zL S n).cells.length zc,J U (ZN zL S n).read,I oa (ZN zL S n).out.length oc,J U (ZN zL S n).line,J U (ZN zL S n).fin]:=by rw[f1,f2,f3,f4];rfl
 have t0:=a9 0 (by omega);have t1:=a9 1 (by omega);have t2:=a9 2 (by omega);have t3:=a9 3 (by omega);have t4:=a9 4 (by omega);have t5:=a9 5 (by omega);have t6:=a9 6 (by omega);simp only[g2,yQ,zv,yH,qO]at t0 t1 t2 t3 t4 t5 t6;have HH:=DA h hX f8 hq g2;have g6:=XX b4 hP hc;clear h hX a9 f8 hq g2 f1 f2 f3 f4 b4 hP;go_enter func112,ntmps112;go_wp2_with fail;go_quiet (fail);have i:Below w.heap.size w (w.drewN nq):=below_drewN _ _;generalize w.drewN nq=w0 at *;go_upto_if 15 with (fail);go_cut [] (fun wx=>∃Y2,J0 C zL ls S cap (max len (n+1)) n low mk Y Y2 w wx)
 case first=>
  by_cases hnl:n=len
  case neg=>
   have n8:((n:Int)+1==(len:Int)+1)=false:=by rw[zV];omega
   have a8:=zD i;clear i;go_wp2_with fail;go_meet
   case rel=>
    refine⟨Y,?_⟩;rw[Nat.max_eq_left (by omega)];exact J0.below HH.u.1 a8.u
  case pos=>
   subst hnl;have c0:=cell_later i c0;have c1:=cell_later i c1;have c3:=cell_later i c3;have c5:=cell_later i c5;have t0:=cell_later i t0;have t1:=cell_later i t1;have t2:=cell_later i t2;have t3:=cell_later i t3;have t4:=cell_later i t4;have t5:=cell_later i t5;have t6:=cell_later i t6;have g4:Hd (∀W,Below w.heap.size w W->Calls Tryz.prog 55 #[H (Q ⟨Y.sb,0,Z⟩),L #[I xa (ZN zL S n).zH.length xc,I ya (ZN zL S n).vars.length yc,I za (ZN zL S n).cells.length zc,J U (ZN zL S n).read,I oa (ZN zL S n).out.length oc,J U (ZN zL S n).line,J U (ZN zL S n).fin],I g8 (G S.input) d8] W (Y6 (ZN zL S (n+1)) ((ku S n).length:Nat) W)):=zD (fun W hW=>by
    obtain⟨h1,h2,h3,h4,h5⟩:=HH.u;rw[<-h5,<-g3];exact Bw hx hF hz hK h9 (h1.src.zP hW) ((h4.zP hW).val (Rf.Y4 hx hF).ok.some (by have:=(Rf.Y4 hx hF).ok.cells;show 0 < (Rf.yT zL (Rt.atM S n)).cells.length;omega)) (YX (yG h1.qo hW)))
   have n9:=zQ HH.u.1.block;have n5:g < w.heap.size:=(HH.u.1.tr.lt g (by rw[HH.u.2.2.1];rfl)).2;have n1:=i.size;have m1:¬C=w0.heap.size:=by omega
   have m2:¬w0.heap.size=C:=by omega
   have m3:¬g=w0.heap.size:=by omega
   have m4:¬w0.heap.size=g:=by omega
   have a8:=zD i;clear i c2 c4 c6 c7 g3;generalize hP:ZN zL S n=p at *;generalize i1:ZN zL S (n+1)=p1 at *;go_wp2_with fail;go_cut [2,3] (fun p k wx=>∃(A:Nat) (X1:Qg),p=H (Q ⟨A,0,Z⟩)/\k=J U ((ku S n).length:Nat)/\Below w.heap.size w wx/\w.heap.size<=A/\wx.heap[A]?=Q (V (jh X1.fv X1.vv X1.cv X1.ov p1) 72 (0,0))/\Xd wx w.heap.size p1 X1)
   case first=>
    have d4:Hd (Below w0.heap.size w0 (w0.alloc (V #[I Z 0 0,I Z 0 0,I Z 0 0,J U 0,I Z 0 0,J U 0,J U 0] 72)).drew/\(w0.alloc (V #[I Z 0 0,I Z 0 0,I Z 0 0,J U 0,I Z 0 0,J U 0,J U 0] 72)).drew.heap[w0.heap.size]?=Q (V #[I Z 0 0,I Z 0 0,I Z 0 0,J U 0,I Z 0 0,J U 0,J U 0] 72 (0,0))):=
     qG (by
      have hb:=(zI w0.heap.size w0).alloc (zB _) (V #[I Z 0 0,I Z 0 0,I Z 0 0,J U 0,I Z 0 0,J U 0,J U 0] 72);exact hb.trans ((zh _).mono hb.size)) (zN w0 (V #[I Z 0 0,I Z 0 0,I Z 0 0,J U 0,I Z 0 0,J U 0,J U 0] 72))
    go_region_held3 (fun w'=>w'.cell? ⟨C,0,Z⟩=Q (H (Q ⟨Y.sb,0,Z⟩))/\w'.cell? ⟨C,1,Z⟩=Q (I g8 (G S.input) d8)/\w'.cell? ⟨C,3,Z⟩=Q (I (Q ⟨g,0,Z⟩) (n+1) c)/\w'.cell? ⟨C,5,Z⟩=Q (J U n)/\w'.cell? ⟨g,n*7,Z⟩=Q (I xa (G p.zH) xc)/\w'.cell? ⟨g,n*7+1,Z⟩=Q (I ya (G p.vars) yc)/\w'.cell? ⟨g,n*7+2,Z⟩=Q (I za (G p.cells) zc)/\w'.cell? ⟨g,n*7+3,Z⟩=Q (J U p.read)/\w'.cell? ⟨g,n*7+4,Z⟩=Q (I oa (G p.out) oc)/\w'.cell? ⟨g,n*7+5,Z⟩=Q (J U p.line)/\w'.cell? ⟨g,n*7+6,Z⟩=Q (J U p.fin)) (go_keep) (first
     | (go_at_call 55;refine(g4.u _ (a8.u.trans ((zh _).mono a8.u.size))).mono ?_;rintro e w6 ⟨f,fv,vv,cv,ov,rfl,_,_,xg,kB,b3⟩;obtain⟨N,F,M,D,z,y,x,o,f1,f2,f3,f4⟩:=b3.ZX;simp only at f1 f2 f3 f4;subst f1 f2 f3 f4;have j5:=cell_later f (cell_later (zh _) c0);have j4:=cell_later f (cell_later (zh _) c1);have j3:=cell_later f (cell_later (zh _) c3);have j2:=cell_later f (cell_later (zh _) c5);have j1:=cell_later f (cell_later (zh _) t0);have i9:=cell_later f (cell_later (zh _) t1);have i8:=cell_later f (cell_later (zh _) t2);have i7:=cell_later f (cell_later (zh _) t3);have i6:=cell_later f (cell_later (zh _) t4);have i5:=cell_later f (cell_later (zh _) t5);have i4:=cell_later f (cell_later (zh _) t6);have k3:w0.heap.size<=w6.heap.size:=f.size;have y1:¬C=w6.heap.size:=(by omega);have y2:¬w6.heap.size=C:=(by omega);have y3:¬g=w6.heap.size:=(by omega);have y4:¬w6.heap.size=g:=(by omega);have HQ:=qG f b3;clear f b3;unfold jh)
     | (go_at_call 55;refine(g4.u _ (a8.u.trans (d4.u.1.mono a8.u.size))).mono ?_;rintro e w6 ⟨f,fv,vv,cv,ov,rfl,_,_,xg,kB,b3⟩;obtain⟨N,F,M,D,z,y,x,o,f1,f2,f3,f4⟩:=b3.ZX;simp only at f1 f2 f3 f4;subst f1 f2 f3 f4;have a0:=d4.u.1;have j5:=cell_later f (cell_later a0 c0);have j4:=cell_later f (cell_later a0 c1);have j3:=cell_later f (cell_later a0 c3);have j2:=cell_later f (cell_later a0 c5);have j1:=cell_later f (cell_later a0 t0);have i9:=cell_later f (cell_later a0 t1);have i8:=cell_later f (cell_later a0 t2);have i7:=cell_later f (cell_later a0 t3);have i6:=cell_later f (cell_later a0 t4);have i5:=cell_later f (cell_later a0 t5);have i4:=cell_later f (cell_later a0 t6);obtain⟨o0,o1,o2,o3,o4,o5,o6⟩:=seven (zU d4.u.2 f);have oz:=zS (zU d4.u.2 f);have l5:=qG f b3;clear f b3 a0;unfold jh))
    ·go_wp2_with fail;go_meet
     case rel=>
      obtain⟨b6,q6⟩:=HQ.u;have hB:=a8.u;have g9:w.heap.size<=w6.heap.size:=zi hB.size k3;have a4:Below w.heap.size w w6:=(hB.trans ((zh _).mono hB.size)).trans (b6.mono (B':=w.heap.size) hB.size);exact⟨w6.heap.size,⟨I N (G p1.zH) F,I M (G p1.vars) D,I z (G p1.cells) y,I x (G p1.out) o,xg,kB⟩,rfl,rfl,a4.alloc g9 _,g9,zN w6 (V (Hi N F M D z y x o p1) 72),(q6.zP ((zI w6.heap.size w6).alloc (zB _) (V (Hi N F M D z y x o p1) 72))).mono hB.size⟩
    ·go_wp2_with fail;go_meet
     case rel=>
      obtain⟨b6,q6⟩:=l5.u;have hB:=a8.u;obtain⟨a1,a2⟩:=d4.u;have a4:Below w.heap.size w w6:=(hB.trans (a1.mono hB.size)).trans (b6.mono (B':=w.heap.size) (zi hB.size a1.size));have b0:=zU a2 b6;have h7:=Xd.w7 (q6.mono (B':=w.heap.size) (zi hB.size a1.size)) b0 a4 hB.size (I N (G p1.zH) F) (I M (G p1.vars) D) (I z (G p1.cells) y) (J U p1.read) (I x (G p1.out) o) (J U p1.line) (J U p1.fin);exact⟨w0.heap.size,⟨I N (G p1.zH) F,I M (G p1.vars) D,I z (G p1.cells) y,I x (G p1.out) o,xg,kB⟩,rfl,rfl,h7.2,hB.size,GK b0 (I N (G p1.zH) F) (I M (G p1.vars) D) (I z (G p1.cells) y) (J U p1.read) (I x (G p1.out) o) (J U p1.line) (J U p1.fin),h7.1⟩
   case rest=>
    obtain⟨A,X1,rfl,rfl,R,l4,b0,g1⟩:=hcut;obtain⟨N,F,M,D,z,y,x,o,f1,f2,f3,f4⟩:=g1.ZX;have b2:=b0;unfold jh at b2;rw[f1,f2,f3,f4]at b2;obtain⟨o0,o1,o2,o3,o4,o5,o6⟩:=seven b2;have d9:jh X1.fv X1.vv X1.cv X1.ov p1=(Hi N F M D z y x o p1):=by unfold jh;rw[f1,f2,f3,f4]
    have e3:=cell_later R (xH HH.u.1.block).2.2.2.1;rw[HH.u.2.2.1]at e3;have o7:=zS (zU HH.u.1.block R) 3;have k2:=R.size;have m5:¬C=wc.heap.size:=by omega
    have m6:C < wc.heap.size:=by omega
    have o9:=cell_later ((zI wc.heap.size wc).alloc (zB _) (V (Hi N F M D z y x o p1) 72)) e3;have HO:=zD (yG HH.u.1.tr R);have l9:=zD (zU HH.u.1.block R);have l2:Q C≠Y.tv.ownBlock:=fun e=>by
     have:=(show qm w C 109 from⟨_,HH.u.1.block⟩).uG (yW HH.u.1.tr e.symm);exact absurd this (by decide)
    have HN:=gN R l4 g1 d9;clear R b0 g1 b2 f1 f2 f3 f4 d9 c0 c1 c3 c5 t0 t1 t2 t3 t4 t5 t6 m1 m2 m3 m4 g4 a8;obtain⟨j0,k7,k1,k0,j9⟩:=yi lq;go_wp2_with fail;go_cut [] (fun wx=>∃(wA w2:World) (tv:Value),Below w.heap.size w wA/\Xd wA w.heap.size p1 X1/\wA.grownBy w2 Y.tv.ownBlock/\w2.ownsRow 0 72 7 tv (n+2) (trC (ZN zL S) 0 (Y.xs++[X1]))/\(∀g,tv.ownBlock=Q g->Y.tv.ownBlock=Q g\/wA.heap.size<=g)/\Below (w2.setCell ⟨C,3,Z⟩ tv).heap.size (w2.setCell ⟨C,3,Z⟩ tv) wx)
    case first=>
     go_region_law
      ((refine step_append_lies _ (by rfl) _ _ _ (by rfl) 0 72 j0 _ 7 120 underlying106 k7 k1 k0 j9 rfl (by decide) _ (n+1) (trC (ZN zL S) 0 Y.xs) (by rfl) (by rw[<-HH.u.2.2.1];exact((HO.u.alloc _).drew)) ⟨wc.heap.size,0,Z⟩ 1 1 [I N (G p1.zH) F,I M (G p1.vars) D,I z (G p1.cells) y,J U p1.read,I x (G p1.out) o,J U p1.line,J U p1.fin] (by rfl) (by rfl) (World.news_of_block (cs:=(Hi N F M D z y x o p1)) (t:=72) (fr:=(0,0)) (zN wc _)) (by simp[Value.oneCell']) (by omega) (by unfold maxLen;omega) (by omega) (zo _) (wc.heap.size+1) (by simp) ?_;intro g' cap' w4 a6 O hat h8;rw[<-HH.u.2.2.1]at O hat;have d1:=(O.block C (by simp;omega) l2).trans (yR l9.u _);have q3:=(xH d1).2.2.2.1;rw[HH.u.2.2.1]at q3;have z3:=zS d1 3;have l7:=XX a6 O hat;clear a6 O hat d1 h8))
     all_goals
      go_wp2_with fail;go_meet
      case rel=>
       obtain⟨a6,O,hat⟩:=l7.u;have hb:=HN.u.1.alloc k2 (V (Hi N F M D z y x o p1) 72);have l1:=(zI wc.heap.size wc).alloc (zB _) (V (Hi N F M D z y x o p1) 72);refine⟨_,w4,I (Q ⟨g',0,Z⟩) (n+1+1) cap',hb.trans ((zh _).mono hb.size),(HN.u.2.2.1.zP l1).zP (zh _),O,?_,fun q e=>?_,by first | exact zI _ _ | exact zh _⟩
       ·rw[np,HH.u.1.xl,xW,i1,HN.u.2.2.2];exact a6
       ·simp[Value.ownBlock]at e;subst e;rcases hat with e | e
        ·exact Or.inl e
        ·exact Or.inr (by rw[e];simp)
    case rest=>
     obtain⟨wA,w2,tv,a4,b8,b9,a7,b1,b5⟩:=hcut;obtain⟨d2,a3,f9⟩:=Ca HH.u.1 a4 b9 b5;obtain⟨m8,m0,g0⟩:=zK a3;have r4:=(xH d2).2.2.2.2.1;have d6:=(zI wc.heap.size wc).alloc (zB _) (V #[J U ((ku S n).length:Nat)] 3);have f7:=cell_later d6 r4;have o8:=zQ d2;have m7:¬C=wc.heap.size:=by omega
     have l3:Q C≠Y.rv.ownBlock:=fun e=>by
      have:=(show qm w C 109 from⟨_,HH.u.1.block⟩).uG (yW HH.u.1.oH e.symm);exact absurd this (by decide)
     try simp only at r4 f7
     have HR:=qG a3 g0;have HM:=hd8 a4 b8 b9 a7 b1 b5 d2 f9;rw[g0]at r4 f7 a3;obtain⟨i0,l0,j8,j7,j6⟩:=yi eU;clear a4 b8 b9 a7 b1 b5 d2 f9 g0 d6;go_wp2_with (at_builtin;refine wpList_append_lies _ rfl _ _ 24 rfl 0 3 i0 _ 1 8 underlying24 l0 j8 j7 j6 rfl (by decide) _ _ _ rfl (a3.alloc _) ⟨wc.heap.size,0,Z⟩ 1 1 [J U ((ku S n).length:Nat)] rfl rfl (cell_one_new _ _ _) (by simp[Value.oneCell']) (by omega) (by unfold maxLen;omega) (by omega) (zo _) (wc.heap.size+1) (by simp) ?_);intro g5 f6 w5 a5 j hat5 h6;rw[<-HR.u.2]at j hat5;have d0:=(j.block C (by simp;omega) l3).trans (yR HM.u.2.2.2.2.2.2.1 _);have q4:=(xH d0).2.2.2.2.1;have z4:=zS d0 4
     try simp only at q4
     rw[HR.u.2]at q4;have l6:=XX a5 j hat5;clear a5 j hat5 d0 h6 r4 f7 a3;go_wp2_with fail;go_meet
     case rel=>
      obtain⟨a5,j,hat5⟩:=l6.u;obtain⟨a4,b8,b9,a7,b1,b5,d2,f9⟩:=HM.u;have d6:=(zI wc.heap.size wc).alloc (zB _) (V #[J U ((ku S n).length:Nat)] 3);have k4:=b5.size;have f5:∀q,(Value.slice (Q ⟨g5,0,Z⟩) (n+1) f6).ownBlock=Q q->Y.rv.ownBlock=Q q\/(wc.alloc (V #[J U ((ku S n).length:Nat)] 3)).heap.size<=q:=fun q e=>by
       simp[Value.ownBlock]at e;subst e;rcases hat5 with e | e
       ·exact Or.inl e
       ·exact Or.inr (by rw[e];simp)
      refine⟨{ Y with tv:=tv,rv:=I (Q ⟨g5,0,Z⟩) (n+1) f6,xs:=Y.xs++[X1] },?_⟩;rw[Nat.max_eq_right (by omega)];rw[<-i1]at b8;refine⟨vg.more HH.u.1 a4 b8 b9 a7 b1 (b5.trans (d6.mono k4)) j ?_ f5,Ac (a:=wA.heap.size) a4.size (by simp;omega) b1 f5⟩;rw[wk,xR,yB];exact a5
 case rest=>
  obtain⟨Y2,hA⟩:=hcut;have d5:=(xH hA.aC.cur.block).2.2.2.2.2.1;have z5:=zS hA.aC.cur.block 5;have f0:∀d,low+d<=n+1->(xT S (low+d) (n+1-(low+d))).length<=1000000:=fun d hd=>by
   obtain⟨b4,hP,hc⟩:=g6.u;have h1:=fS S low d (n+1-(low+d));have k5:=b4.le;rw[show n+1-(low+d)+d=(n-low)+1 by omega,xT,ze,show low+(n-low)=n by omega]at h1;have h2:=b4.room;obtain⟨_,q1,q2⟩:=Kw hP.call (hP.par n);have q3:=q2 hz;have e:(ku S n).length=(Rt.qd S (Rt.atM S n)).2.length:=rfl;omega
  have HN:=zD f0;have HA:=zD (hA.trans (hA.aC.cur.Fp (n2:=n+1) (low2:=low) 5 (J U ((n:Int)+1)) rfl));clear hA f0 t0 t1 t2 t3 t4 t5 t6 c0 c1 c2 c3 c4 c5 c6 c7 i hF hK h9;go_wp2_with fail;generalize wc.setCell ⟨C,5,Z⟩ (J U ((n:Int)+1))=w5 at *;clear d5 z5;go_loopw [] (fun wr=>∃(d:Nat) (Y3:iQ),low+d<=n+1/\Rt.lowR S cap (n+1-(low+d)) (low+d)=ik S cap n low/\J0 C zL ls S cap (max len (n+1)) (n+1) (low+d) mk Y Y3 w wr) (fun wr=>n+2-pC wr C)
  case atStart=>
   have k5:=g6.u.1.le;exact⟨0,Y2,by omega,rfl,HA.u⟩
  case round=>
   obtain⟨d,Y3,hd,h0,b7⟩:=hrel;have i3:=zD (lu b7.aC.cur (Y7 _ _) hd (by omega) (HN.u d hd));obtain⟨_,_,c2,_,_,_,c6,_⟩:=xH b7.aC.cur.block;have z6:=zS b7.aC.cur.block 6;have b2:=b7.aC.cur.block;have d3:=qG b7 h0;have l8:=zD b2;clear b7 h0 b2 z6;generalize i2:(xT S (low+d) (n+1-(low+d))).length=K at *;have g7:=zD i2;clear i2;go_wp2_with fail;refine i3.u.mono ?_;rintro e w1 ⟨rfl,R⟩;have e2:=cell_later R c2;have e6:=cell_later R c6;have z6:=zS (zU l8.u R) 6;have d7:=zD (d3.u.1.trans (J0.below d3.u.1.aC.cur R));clear R c2 c6 i3;by_cases hle:(K:Int)<=cap
   case pos=>
    go_wp2_with fail;refine zT (v:=E #[]) (by simp[results,results112]) rfl ⟨rfl,Y3,?_⟩;rw[<-d3.u.2,Ah S cap (by rw[g7.u];exact hle)];exact d7.u
   case neg=>
    have m9:IntKind.i64.wrap (((low+d:Nat):Int)+1)=((low+d:Nat):Int)+1:=zl _ ⟨by omega,by omega⟩;have n6:low+d<=n:=by
     have n7:=g6.u.2.2.1;rcases bj n (low+d)with h | h
     ·exfalso;have:=g7.u;rw[show n+1-(low+d)=0 by omega,xT]at this;simp at this;omega
     ·exact h
    go_wp2;go_roundw
    case rel=>
     refine⟨d+1,Y3,by omega,?_,d7.u.trans (d7.u.aC.cur.Fp (n2:=n+1) (low2:=low+(d+1)) 6 _ rfl)⟩;rw[<-d3.u.2];obtain⟨k,hk⟩:∃k,n+1-(low+d)=k+1:=⟨n-(low+d),by omega⟩;have k6:=g7.u;rw[hk]at k6 ⊢;rw[show n+1-(low+(d+1))=k by omega];show _=Rt.lowR S cap (k+1) (low+d);rw[Rt.lowR,zE (by omega)];rfl
    case measure=>
     show n+2-pC _ C < n+2-pC wr C;have f:=(d7.u.aC.cur.Fp (n2:=n+1) (low2:=low+(d+1)) 6 (J U ((low:Int)+(d:Int)+1)) rfl).aC.cur;rw[pB f,pB d3.u.1.aC.cur];omega
end
namespace Rt
theorem lW {S:Src}:JI S cap (i+1) n low=ik S cap (n+i) (JI S cap i n low):=by
 rw[lX S cap i 1 n low];rfl
theorem VK.iP {S:Src} {cap:Int} {n low:Nat} (h:VK S cap n low) (d:0<=cap):∀i,(∀k,k < i->(atM S (n+k)).fin=0)->VK S cap (n+i) (JI S cap i n low)
 | 0,_=>h
 | i+1,hz=>by
  rw[lW];exact(h.iP d i (fun k hk=>hz k (by omega))).step d (hz i (by omega))
end Rt
theorem GI {S:Rt.Src} {q:Nat} (d:Rf.Ctx ps zL ls S) (i:Rf.KA ps zL ls S (Rt.atM S q)) (x:G Yw=101):∃(l:Nat) (b:Bool),(Rt.atM S q).line=(l:Int)/\(Yw.take (G ls+1))[l]?=Q b/\∀low kind d0 mv,jS (XY S q low Yw) kind d0 mv=if mv=0 then 0 else if kf kind d0 (Rt.atM S q).zH.length=D then 1 else if b=D then 2 else 0:=by
 obtain⟨l,j,f,_⟩:=i.line;have y:l < G ls:=by rw[<-d.len];exact j
 have h:=d.law.len;refine⟨l+1,Yw[l+1]'(by omega),f,?_,fun low kind d0 mv=>?_⟩
 ·rw[List.getElem?_take_of_lt (by omega),zJ]
 ·unfold jS Qk;have o:(XY S q low Yw).m=Rt.atM S q:=rfl;have k:(XY S q low Yw).marks=Yw:=rfl;rw[o,k,f,show ((l:Int)+1).toNat=l+1 by omega,zJ (by omega),qA (by omega)];simp
namespace Rt
theorem ta (S:Src) (i:List Bool) (d f j:Int) (n k:Nat):(¬(atM S n).fin=0->Qq S i d f j n k=3)/\((atM S n).fin=0->¬jS (XY S n 0 i) d j k=0->Qq S i d f j n k=jS (XY S n 0 i) d j k)/\((atM S n).fin=0->jS (XY S n 0 i) d j k=0->(f<=k->Qq S i d f j n k=4)/\(¬f<=k->Qq S i d f j n k=0)):=by
 have e:(XY S n 0 i).m=atM S n:=rfl;unfold Qq kq;rw[e];refine⟨fun h=>zE h,fun h h2=>?_,fun h h2=>⟨fun h3=>?_,fun h3=>?_⟩⟩
 ·rw[zA (kW h),zA (fun hh=>h2 hh.1)]
 ·rw[zA (kW h),zE ⟨h2,h3⟩]
 ·rw[zA (kW h),zA (fun hh=>h3 hh.2),h2]
end Rt
section
variable {C:Nat} {ps zL:List Rt.PL} {ls:List Ib} {S:Rt.Src} {cap:Int} {len n low:Nat} {Y:iQ}
def G1 (C:Nat) (zL:List Rt.PL) (ls:List Ib) (S:Rt.Src) (cap:Int) (mk:List Bool) (Y:iQ) (len n low k:Nat) (rs:Int) (w:World) (e:Ending) (w':World):Prop:=
 e=T (E #[J U rs,J U (k:Int),J U 0])/\∃Y',J0 C zL ls S cap len n low mk Y Y' w w'
theorem DX (h:vg w C zL ls S cap len n low (Yw.take (G ls+1)) Y) (hn:n<=len) (hx:Rf.Ctx ps zL ls S) (hP:Be S) (a0:VK S cap n low) (hc:0<=cap/\cap<=500) (hm:G Yw=101) (hl:len+1001 < 1000000000000) (d:Int) (fuel:Nat) (b4:0<=d/\d<=3) (b7:fuel<=1000):Calls Tryz.prog 66 #[H (Q ⟨C,0,Z⟩),J U d,J U fuel] w (G1 C zL ls S cap (Yw.take (G ls+1)) Y (max len (Rt.fwdN S Yw d fuel (Rt.atM S n).zH.length (fuel+1) n 0).1) (Rt.fwdN S Yw d fuel (Rt.atM S n).zH.length (fuel+1) n 0).1 (JI S cap ((Rt.fwdN S Yw d fuel (Rt.atM S n).zH.length (fuel+1) n 0).1-n) n low) (Rt.fwdN S Yw d fuel (Rt.atM S n).zH.length (fuel+1) n 0).2.1 (Rt.fwdN S Yw d fuel (Rt.atM S n).zH.length (fuel+1) n 0).2.2 w):=by
 obtain⟨o,V⟩:∃o,o=(Rt.atM S n).zH.length:=⟨_,rfl⟩;rw[<-V];obtain⟨j,h1,h2,h3,h4⟩:=dC S Yw d fuel o (fuel+1) n 0 (by omega) (by omega);rw[h1];simp only[xW]at h2 h3 h4 ⊢;rw[show n+j-n=j by omega];have hz:∀i,i < j->(Rt.atM S (n+i)).fin=0:=fun i hi=>(Xo (h4 i hi)).1;have F:∀i,i<=j->VK S cap (n+i) (JI S cap i n low):=fun i hi=>a0.iP hc.1 i (fun k hk=>hz k (by omega));have z:∀i,i<=j->Rf.KA ps zL ls S (Rt.atM S (n+i)):=fun i hi=>nU hx hP.input (n+i) (F i hi).run;have O:Q2 d fuel=0:=by unfold Q2;rw[zA (by omega),zA (by omega)]
 have HC:=zD (uW d fuel);rw[O]at HC;obtain⟨g,c,X,hX,x,hq,I⟩:=h.cells hn;obtain⟨c0,c1,c2,c3,c4,c5,c6,c7⟩:=xH h.block;rw[x]at c3;obtain⟨xa,xc,ya,yc,za,zc,oa,oc,f1,f2,f3,f4⟩:=hq.ZX;have t0:=I 0 (by omega);simp only[jh,yQ,zv,qO]at t0;rw[f1,show (ZN zL S n).zH.length=o from (Rf.XD _ _ _).trans V.symm]at t0;have b3:(0:Int)<=(n:Int):=by omega
 have b2:(n:Int) < (len:Int)+1:=by omega
 have R:=hd7 h hx hP F z h3 h4;clear h hX I x hq f1 f2 f3 f4 a0 O V hz F z h3 h4 hx hP c0 c1 c2 c4 c6 c7;go_enter func66,ntmps66;go_wp2_with fail;refine(HC.u w).mono ?_;rintro e w0 ⟨rfl,a6⟩;rw[a6];go_wp2_with fail;go_quiet (fail);go_wp2_with fail;have a7:Below w.heap.size w (w.drewN nq):=below_drewN _ _;generalize w.drewN nq=w0 at *;have b1:=zD a7;go_loopw [11] (fun a wr=>∃(i:Nat) (Yi:iQ),i<=j/\a=J U (i:Int)/\J0 C zL ls S cap (max len (n+i)) (n+i) (JI S cap i n low) (Yw.take (G ls+1)) Y Yi w wr) (fun a _=>j+1-(intOf a).toNat)
 case atStart=>
  refine⟨0,Y,zo _,rfl,?_⟩;rw[qO,Nat.max_eq_left hn];exact J0.below R.u.1 b1.u
 case round=>
  obtain⟨i,Yi,hi,rfl,hA⟩:=hrel;obtain⟨g,c,X,_,x,hq,I⟩:=hA.aC.cur.cells (Y7 len (n+i));obtain⟨c0,c1,c2,c3,c4,c5,c6,c7⟩:=xH hA.aC.cur.block;rw[x]at c3;have t6:=I 6 (by omega);simp only[jh,yQ,zv,yH]at t6;rw[show (ZN zL S (n+i)).fin=(Rt.atM S (n+i)).fin from rfl]at t6;obtain⟨g1,g2,g3⟩:=ta S Yw d fuel o (n+i) i;have N:¬Qq S Yw d fuel o (n+i) i=0->i=j:=fun he=>Zt fun hne=>he (R.u.2.2.2.2.2.2 i (by omega));have L:=zD hA;have a5:=Y7 len (n+i);generalize f:n+i=q at *;generalize y:max len q=ln at *;clear hA x hq I c0 c1 c2 c4 c6 c7;by_cases hfin:(Rt.atM S q).fin=0
  case neg=>
   have ej:=N (by rw[g1 hfin];omega);have ge:=g1 hfin;have b8:((Rt.atM S q).fin != 0)=D:=by simpa using hfin
   generalize (Rt.atM S q).fin=fn at *;subst ej;have HG:=zD ge;go_wp2_with fail;go_quiet (fail);go_wp2;go_ret3;refine⟨by rw[f,HG.u] <;> rfl,Yi,?_⟩;rw[f,y];exact L.u.trans (J0.below L.u.aC.cur (kT _))
  case pos=>
   rw[hfin]at t6;have HG:=XX N (g2 hfin) (g3 hfin);go_wp2_with fail;go_quiet (fail);go_upto_if 45 with (fail);have M:Below wr.heap.size wr (wr.drewN nq):=below_drewN _ _;go_cut [] (fun wx=>jS (XY S q 0 Yw) d o i=0/\Below wr.heap.size wr wx)
   case first=>
    by_cases hi0:i=0
    case pos=>
     subst hi0;go_wp2_with fail;go_meet
     case rel=>exact⟨by unfold jS;simp,M⟩
    case neg=>
     have b6:(0:Int) < (i:Int):=by omega
     obtain⟨l,b,a1,a2,a3⟩:=GI (q:=q) R.u.2.1 (by rw[<-f];exact R.u.2.2.2.2.1 i hi) hm;have a4:=a3 0 d o i;rw[zA (by omega)]at a4;have HC:Hd (∀w1,Below wr.heap.size wr w1->Calls Tryz.prog 111 #[H (Q ⟨C,0,Z⟩),J U d,J U (o:Int)] w1 fun e w'=>e=T (J U (jS (XY S q 0 Yw) d o i))/\Below w1.heap.size w1 w'):=zD (fun w1 hb1=>by rw[a4];exact DU (L.u.aC.cur.zP hb1) a5 d o l a1 b a2);clear a1 a2 a3 a4;generalize b9:jS (XY S q 0 Yw) d o i=A at *;go_wp2_with fail;refine(HC.u _ M).mono ?_;rintro e w2 ⟨rfl,a9⟩;have a8:=M.trans (a9.mono M.size);have HB3:=zD a8;by_cases hA0:A=0
     case pos=>
      have d1:(A != 0)=W:=by simp[hA0]
      go_wp2_with fail;go_meet
      case rel=>exact⟨hA0,HB3.u⟩
     case neg=>
      go_wp2;go_ret3;obtain⟨s1,s2,s3⟩:=HG.u;have he:=s2 hA0;have ej:=s1 (by rw[he];exact hA0);subst ej;refine⟨by rw[f,he] <;> rfl,Yi,?_⟩;rw[f,y];exact L.u.trans (J0.below L.u.aC.cur HB3.u)
   case rest=>
    obtain⟨ha,hb⟩:=hcut;obtain⟨s1,_,s3⟩:=HG.u;obtain⟨s4,s5⟩:=s3 ha;have HB:=zD hb;by_cases hif:i=fuel
    case pos=>
     have he:=s4 (by omega);have ej:=s1 (by rw[he];omega);subst hif;go_wp2;go_ret3;subst ej;refine⟨by rw[f,he] <;> rfl,Yi,?_⟩;rw[f,y];exact L.u.trans (J0.below L.u.aC.cur HB.u)
    case neg=>
     have b5:i < j:=by
      rcases bj i j with h | h
      ·exact h
      ·have:i=j:=by omega
       subst this;exact absurd (s5 (by omega)) (by rw[<-f];exact R.u.2.2.2.2.2.1)
     have b0:=zD (Fv (L.u.aC.cur.zP HB.u) a5 R.u.2.1 R.u.2.2.1 (by have:=R.u.2.2.2.1 i hi;rw[f]at this;exact this) hfin hc (by omega));go_wp2_with fail;refine b0.u.mono ?_;rintro e w3 ⟨rfl,Y',hM⟩;have HM:=zD hM;go_wp2;go_roundw
     ·refine⟨i+1,Y',by omega,by go_num,?_⟩;have e1:n+(i+1)=q+1:=by omega
      have e2:max len (q+1)=max ln (q+1):=by omega
      rw[e1,e2,lW,f];exact(L.u.trans (J0.below L.u.aC.cur HB.u)).trans HM.u
     ·simp[intOf];omega
end
theorem Es (w:World):(Op.equalIn 10000 111 (.agg #[.int .i64 0,.int .i64 0,.int .i64 0,.int .i64 0,.int .i64 0,.int .i64 0]) (.agg #[.int .i64 0,.int .i64 0,.int .i64 0,.int .i64 0,.int .i64 0,.int .i64 0])).run Tryz.prog w=.ok true w:=by
 have d:Tryz.prog.underlying 111=some (.struct (Tryz.prog.fieldsOf 111)):=by kernel_rfl
 rw[show (10000:Nat)=9999+1 from rfl,run_equalIn_agg w 9999 111 _ _ d (by kernel_rfl)];simp only[Program.fieldsOf,underlying111];go_simp
theorem uP {b:Nat} {v0 v1 v2 v3 v4 v5:Value} (h:w.heap[b]?=Q (V #[v0,v1,v2,v3,v4,v5] t (0,0))) (o k j i f d:Value):(W6 w b o k j i f d).heap[b]?=Q (V #[o,k,j,i,f,d] t (0,0)):=by
 have:=zf (zf (zf (zf (zf (zf h 0 o) 1 k) 2 j) 3 i) 4 f) 5 d;simpa using this
theorem YJ.zP {s s':mU} {w w1 w2:World} (h:YJ s s' w w1) (d:Below w1.heap.size w1 w2):YJ s s' w w2:=
 ⟨h.ok.zP d,h.q,d.os.trans h.os,d.tape.trans h.tape,d.output.trans h.output,zi h.size d.size,fun k hk hn=>(d.block k (zX hk h.size)).trans (h.block k hk hn),fun k t ht hk=>(d.block k (zX hk.lt h.size)).trans (h.kept k t ht hk),h.own,h.iP⟩
attribute [local go_sem ↓] Es
section
variable {s:mU}
theorem Ea (h:vf w s) (d f:Int) (F:¬Q2 d f=0):Calls Tryz.prog 35 #[H (Q ⟨s.q,0,Z⟩),A D,J U d,J U f] w fun e w'=>e=T (A D)/\∃s',YJ s s' w w':=by
 have HH:=zD h;have p0:w.cell? ⟨s.q,0,Z⟩=Q (H (Q ⟨s.P,0,Z⟩)):=zC h.pair 0 (by simp);have p1:w.cell? ⟨s.q,1,Z⟩=Q (H (Q ⟨s.C,0,Z⟩)):=zC h.pair 1 (by simp);have a0:=zQ h.pair;have HP:=zD (fun w=>GY s.P d f w F);have HD:=zD (fun w=>Gp s.C d f w F);have a1:(Q2 d f != 0)=D:=by simpa using F
 have bR:=zN w (V Q1 111);have G:=(zI w.heap.size w).alloc (zB _) (V Q1 111);have q0:=cell_later G p0;have q1:=cell_later G p1;have y:=qG G bR;generalize Q2 d f=R at *;go_enter func35,ntmps35;go_wp2_with fail;refine(HP.u _).mono ?_;rintro e w1 ⟨rfl,j⟩;have k:=zU y.u.2 j;have d1:=cell_later j q1;obtain⟨r0,W,O,N,M,L,z⟩:=YA k;have x:=zD (YI (y.u.1.trans (j.mono (B':=w.heap.size) y.u.1.size)) (zB _) (J U 0) (J U 0) (J U 0) (J U 0) (J U 0) (J U 0));have o:=zD (uP k (J U 0) (J U 0) (J U 0) (J U 0) (J U 0) (J U 0));go_wp2_with fail;refine(HD.u _).mono ?_;rintro e w2 ⟨rfl,i⟩;have I:=zD (show Below w.heap.size w w2 by rw[i];exact x.u);have b2:=o.u;have b3:w2.heap[w.heap.size]?=Q (V Q1 111 (0,0)):=by rw[i];exact b2
 clear r0 W O N M L z d1 HD i b2 x o y;obtain⟨r0,W,O,N,M,L,z⟩:=YA b3;unfold Q1;go_wp2_with (go_at_call 20;refine(K3 R).mono ?_;rintro e w' ⟨rfl,rfl⟩)
 all_goals
  go_ret;exact⟨by first | rfl | simp,s,YJ.below HH.u I.u⟩
theorem CZ (h:vf w s) {rs:Int} (d f:Int) {len' n' low':Nat} (HS:∀w1,vf w1 s->Calls Tryz.prog 65 #[H (Q ⟨s.P,0,Z⟩),J U d,J U f] w1 (MvP s.P s.B s.S s.cap s.Yw s.X s.jv n' low' k rs w1)) (HD:∀w1,vg w1 s.C s.zL s.ls s.S s.cap s.len s.n s.low (s.Yw.take (G s.ls+1)) s.Y->Calls Tryz.prog 66 #[H (Q ⟨s.C,0,Z⟩),J U d,J U f] w1 (G1 s.C s.zL s.ls s.S s.cap (s.Yw.take (G s.ls+1)) s.Y len' n' low' k rs w1)) (L:n'<=len') (o:len'<=s.len+1000):Calls Tryz.prog 35 #[H (Q ⟨s.q,0,Z⟩),A D,J U d,J U f] w fun e w'=>e=T (A D)/\∃s',YJ s s' w w':=by
 have i:=zD h;have O:=zD HS;have W:=zD HD;have p0:w.cell? ⟨s.q,0,Z⟩=Q (H (Q ⟨s.P,0,Z⟩)):=zC h.pair 0 (by simp);have a1:=zQ h.pair;have bR:=zN w (V Q1 111);have hb:=(zI w.heap.size w).alloc (zB _) (V Q1 111);have q0:=cell_later hb p0;have HB:=qG hb bR;go_enter func35,ntmps35;go_wp2_with fail;refine(O.u _ (i.u.zP HB.u.1)).mono ?_;rintro e w1 ⟨rfl,X',a0,hA,I⟩;have x:=(vX.start i.u.Yo.Yo HB.u.1).trans hA;have j:=(hA.kept (k:=w.heap.size) (by simp) (fun hm=>by have:=i.u.Yo.Yo.Vq hm;omega)).trans HB.u.2;have F:=(i.u.ua x (Or.inr (Or.inr rfl)) ⟨_,i.u.pair⟩).trans i.u.pair;have d1:w1.cell? ⟨s.q,1,Z⟩=Q (H (Q ⟨s.C,0,Z⟩)):=zC F 1 (by simp);obtain⟨r0,r1,r2,r3,r4,r5,z⟩:=YA j;have y:=XX (x.YD j (zB _) (by unfold bg Xe;decide) (J U rs) (J U (k:Int)) (J U (Rt.atM s.S n').fin) (J U (Rt.atM s.S n').line) (J U ((Rt.atM s.S n').zH.length:Int)) (J U (n':Int))) I (uP j (J U rs) (J U (k:Int)) (J U (Rt.atM s.S n').fin) (J U (Rt.atM s.S n').line) (J U ((Rt.atM s.S n').zH.length:Int)) (J U (n':Int)));unfold Vn;go_wp2_with fail;refine(W.u _ (i.u.Eu y.u.1)).mono ?_;rintro e w2 ⟨rfl,Y',hC⟩;have hF:=i.u.act y.u.1 y.u.2.1 i.u.Bb hC.aC L o;have b6:=y.u.2.2;have N:=(hC.aC.vz.block _ (zQ b6) (fun hm=>by have:=i.u.cur.lt (zY _ hm);omega)).trans b6;obtain⟨r0,r1,r2,r3,r4,r5,z⟩:=YA N;have HF:=zD hF;go_wp2_with (go_at_call 20;refine(K3 0).mono ?_;rintro e w' ⟨rfl,rfl⟩);refine(dV HF.u.ok rs k).mono ?_;rintro e w3 ⟨rfl,M⟩;have R:=zD (YJ.zP HF.u M);go_wp2;go_ret;exact⟨rfl,_,R.u⟩
end
theorem sq (h:vf w s) (kind fuel:Int) (o:s.len+1001 < 1000000000000):Calls Tryz.prog 35 #[H (Q ⟨s.q,0,Z⟩),A D,J U kind,J U fuel] w fun e w'=>e=T (A D)/\∃s',YJ s s' w w':=by
 by_cases hr:Q2 kind fuel=0
 ·have i:(0<=kind/\kind<=3)/\0<=fuel/\fuel<=1000:=by
   unfold Q2 at hr;split at hr
   ·omega
   ·split at hr
    ·omega
    ·omega
  obtain⟨f,rfl⟩:∃f:Nat,fuel=(f:Int):=⟨fuel.toNat,by omega⟩;have x:0<=s.cap/\s.cap<=500:=by
   have d:=h.Bb.lo;have y:=h.Bb.hi;omega
  obtain⟨j,g1,z,_⟩:=dC s.S s.Yw kind f (Rt.atM s.S s.n).zH.length (f+1) s.n 0 (by omega) (by omega);have k:=h.le;refine CZ h kind f (fun w1 d=>d.Yo.fwd d.Bb kind f i.1 (by omega) (by omega)) (fun w1 hC=>DX hC h.le h.ctx h.Bb.Gc h.Yo.ok x h.Bb.Yw o kind f i.1 (by omega)) (Y7 _ _) ?_;rw[g1];show max s.len (s.n+j)<=s.len+1000;omega
 ·exact Ea h kind fuel hr
theorem ny (h:vf w s) (o:op.kind=6) (x:∃a n c,op.v=I a n c) (i:s.len+1001 < 1000000000000):Calls Tryz.prog 17 #[H (Q ⟨S,0,Z⟩),H (Q ⟨s.q,0,Z⟩),iO op] w fun e w'=>e=T (A D)/\∃s',YJ s s' w w':=by
 obtain⟨M,F,k,j,z,ov,L⟩:=op;simp only at o x;obtain⟨a,n,c,rfl⟩:=x;subst o;unfold iO;simp only;have d:=(zI w.heap.size w).alloc (zB _) (V #[J U 6,J U F,J U k,J U j,O z,I a n c] 32);have f:=qG h d;clear h d;go_enter func17,ntmps17;go_wp2_with fail;refine(sq (f.u.1.zP f.u.2) k j i).mono ?_;rintro e w1 ⟨rfl,s',y⟩;have G:=zD ((YJ.below f.u.1 f.u.2).then y);clear y;go_wp2;go_ret;exact⟨rfl,_,G.u⟩
namespace Rt
theorem bends_cases (S:Src) (mk:List Bool) (low:Nat) (kind fuel d0:Int) (n k:Nat):(¬jS (XY S n low mk) kind d0 k=0->Ha S mk low kind fuel d0 n k=jS (XY S n low mk) kind d0 k)/\(jS (XY S n low mk) kind d0 k=0->(n=0->Ha S mk low kind fuel d0 n k=5)/\(n≠0->n=low->Ha S mk low kind fuel d0 n k=6)/\(n≠0->n≠low->fuel<=k->Ha S mk low kind fuel d0 n k=4)/\(n≠0->n≠low->¬fuel<=k->Ha S mk low kind fuel d0 n k=0)):=by
 have f:(XY S n low mk).idx=(n:Int):=rfl;have d:(XY S n low mk).low=(low:Int):=rfl;unfold Ha G5;rw[f,d];refine⟨fun h=>zE h,fun h=>⟨fun h1=>?_,fun h1 h2=>?_,fun h1 h2 h3=>?_,fun h1 h2 h3=>?_⟩⟩
 ·rw[zA (kW h),zE (by omega)]
 ·rw[zA (kW h),zA (by omega),zE (by omega)]
 ·rw[zA (kW h),zA (by omega),zA (by omega),zE h3]
 ·rw[zA (kW h),zA (by omega),zA (by omega),zA h3]
end Rt
section
variable {C:Nat} {ps zL:List Rt.PL} {ls:List Ib} {S:Rt.Src} {cap:Int} {len n low:Nat} {Y:iQ}
theorem cbwd_ref (h:vg w C zL ls S cap len n low (Yw.take (G ls+1)) Y) (hn:n<=len) (hx:Rf.Ctx ps zL ls S) (hP:Be S) (F:VK S cap n low) (hm:G Yw=101) (hl:len+1001 < 1000000000000) (kind:Int) (fuel:Nat) (d2:0<=kind/\kind<=3) (d4:fuel<=1000):Calls Tryz.prog 68 #[H (Q ⟨C,0,Z⟩),J U kind,J U fuel] w (G1 C zL ls S cap (Yw.take (G ls+1)) Y len (Hp S Yw low kind fuel (Rt.atM S n).zH.length (fuel+1) n 0).1 low (Hp S Yw low kind fuel (Rt.atM S n).zH.length (fuel+1) n 0).2.1 (Hp S Yw low kind fuel (Rt.atM S n).zH.length (fuel+1) n 0).2.2 w):=by
 obtain⟨d0,I⟩:∃d0,d0=(Rt.atM S n).zH.length:=⟨_,rfl⟩;rw[<-I];obtain⟨j,h1,d7,h2,h3,h4⟩:=IX S Yw low kind fuel d0 (fuel+1) n 0 F.le (by omega) (by omega);rw[h1];simp only[xW]at h2 h3 h4 ⊢;clear h1;have o:∀i,i<=j->Rf.KA ps zL ls S (Rt.atM S (n-i)):=fun i hi=>nU hx hP.input (n-i) (fun k hk=>F.run k (by omega));have z:Q2 kind fuel=0:=by unfold Q2;rw[zA (by omega),zA (by omega)]
 have HC:=zD (uW kind fuel);rw[z]at HC;obtain⟨g,c,X,hX,a5,hq,a7⟩:=h.cells hn;obtain⟨c0,c1,c2,c3,c4,c5,c6,c7⟩:=xH h.block;rw[a5]at c3;obtain⟨xa,xc,ya,yc,za,zc,oa,oc,f1,f2,f3,f4⟩:=hq.ZX;have t0:=a7 0 (by omega);simp only[jh,yQ,zv,qO]at t0;rw[f1,show (ZN zL S n).zH.length=d0 from (Rf.XD _ _ _).trans I.symm]at t0;have d1:(0:Int)<=(n:Int):=by omega
 have b9:(n:Int) < (len:Int)+1:=by omega
 have HH:=DA h hx o h3 h4;clear h hX a7 a5 hq f1 f2 f3 f4 F z I o h3 h4 hx hP c0 c1 c2 c4 c6 c7;go_enter func68,ntmps68;go_wp2_with fail;refine(HC.u w).mono ?_;rintro e w0 ⟨rfl,a0⟩;rw[a0];clear a0 w0;go_wp2_with fail;go_quiet (fail);go_wp2_with fail;have a8:Below w.heap.size w (w.drewN nq):=below_drewN _ _;generalize w.drewN nq=w0 at *;have HB0:=zD a8;clear a8 t0 c3 c5;go_loopw [11] (fun a wr=>∃i:Nat,i<=j/\a=J U (i:Int)/\J0 C zL ls S cap len (n-i) low (Yw.take (G ls+1)) Y Y w wr) (fun a _=>j+1-(intOf a).toNat)
 case atStart=>exact⟨0,zo _,rfl,J0.below HH.u.1 HB0.u⟩
 case round=>
  obtain⟨i,hi,rfl,hA⟩:=hrel;obtain⟨c0,c1,c2,c3,c4,c5,c6,c7⟩:=xH hA.aC.cur.block;obtain⟨g1,g2⟩:=bends_cases S Yw low kind fuel d0 (n-i) i;have y:¬Ha S Yw low kind fuel d0 (n-i) i=0->i=j:=fun he=>Zt fun hne=>he (HH.u.2.2.2.2 i (by omega));have a9:=hA.aC.cur.block;have HA:=zD hA;have b2:n-i<=len:=by omega
  generalize d:n-i=q at *;have HG:=XX y g1 g2;have b6:=zD a9;clear hA c0 c1 c2 c3 c4 c7 g1 g2 y a9;go_upto_if 32 with (fail);go_cut [] (fun wx=>jS (XY S q low Yw) kind d0 i=0/\Below wr.heap.size wr wx)
  case first=>
   by_cases hi0:i=0
   case pos=>
    subst hi0;go_wp2_with fail;go_meet
    case rel=>exact⟨by unfold jS;simp,zI _ _⟩
   case neg=>
    have b3:(0:Int) < (i:Int):=by omega
    obtain⟨l,b,a1,a2,a3⟩:=GI (q:=q) HH.u.2.1 (by rw[<-d];exact HH.u.2.2.1 i hi) hm;have a4:=a3 low kind d0 i;rw[zA (by omega)]at a4;have HC:Hd (∀w1,Below wr.heap.size wr w1->Calls Tryz.prog 111 #[H (Q ⟨C,0,Z⟩),J U kind,J U (d0:Int)] w1 fun e w'=>e=T (J U (jS (XY S q low Yw) kind d0 i))/\Below w1.heap.size w1 w'):=zD (fun w1 hb1=>by rw[a4];exact DU (HA.u.aC.cur.zP hb1) b2 kind d0 l a1 b a2);clear a1 a2 a3 a4;generalize b4:jS (XY S q low Yw) kind d0 i=A at *;clear b4;go_wp2_with fail;refine(HC.u _ (zI _ _)).mono ?_;rintro e w2 ⟨rfl,b0⟩;have HB3:=zD b0;clear b0;by_cases hA0:A=0
    case pos=>
     have b5:(A != 0)=W:=by simp[hA0]
     go_wp2_with fail;go_meet
     case rel=>exact⟨hA0,HB3.u⟩
    case neg=>
     have b5:(A != 0)=D:=by simpa using hA0
     go_wp2;go_ret3;obtain⟨x,s2,M⟩:=HG.u;have he:=s2 hA0;have L:=x (by rw[he];exact hA0);subst L;refine⟨by rw[d,he] <;> rfl,Y,?_⟩;rw[d];exact HA.u.trans (J0.below HA.u.aC.cur HB3.u)
  case rest=>
   obtain⟨ha,N⟩:=hcut;obtain⟨x,_,M⟩:=HG.u;obtain⟨s4,V,R,O⟩:=M ha;have d5:=cell_later N c5;have d6:=cell_later N c6;have z5:=zS (zU b6.u N) 5;have HB:=zD N;have f:=zD (HA.u.trans (J0.below HA.u.aC.cur N));clear N c5 c6 ha;by_cases hq0:q=0
   case pos=>
    have he:=s4 hq0;have L:=x (by rw[he];omega);have b1:((q:Int)==0)=D:=by simp[hq0]
    clear x M s4 V R O;go_wp2;go_ret3;subst L;refine⟨by rw[d,he] <;> rfl,Y,?_⟩;rw[d];exact f.u
   case neg=>
    have b1:((q:Int)==0)=W:=by rw[zV];omega
    by_cases hql:q=low
    case pos=>
     have he:=V hq0 hql;have L:=x (by rw[he];omega);have a6:((q:Int)==(low:Int))=D:=by simp[hql]
     clear x M s4 V R O;go_wp2_with fail;go_quiet (fail);go_wp2;go_ret3;subst L;refine⟨by rw[d,he] <;> rfl,Y,?_⟩;rw[d];exact f.u.trans (J0.below f.u.aC.cur (below_drewN _ _))
    case neg=>
     have a6:((q:Int)==(low:Int))=W:=by rw[zV];omega
     by_cases hif:i=fuel
     case pos=>
      have he:=R hq0 hql (by omega);have L:=x (by rw[he];omega);subst hif;clear x M s4 V R O;go_wp2_with fail;go_quiet (fail);go_wp2;go_ret3;subst L;refine⟨by rw[d,he] <;> rfl,Y,?_⟩;rw[d];exact f.u.trans (J0.below f.u.aC.cur (below_drewN _ _))
     case neg=>
      have d3:i < j:=by
       rcases bj i j with h | h
       ·exact h
       ·have:i=j:=by omega
        subst this;exact absurd (O hq0 hql (by omega)) (by rw[<-d];exact HH.u.2.2.2.1)
      have b3:((i:Int)==(fuel:Int))=W:=by rw[zV];omega
      have b8:IntKind.i64.wrap ((i:Int)+1)=(i:Int)+1:=zl _ ⟨by omega,by omega⟩;have b7:IntKind.i64.wrap ((q:Int)-1)=(q:Int)-1:=zl _ ⟨by omega,by omega⟩;clear x M s4 V R O;go_wp2_with fail;go_quiet (fail);go_wp2;go_roundw
      ·refine⟨i+1,by omega,by go_num,?_⟩;rw[show n-(i+1)=q-1 by omega];have hD:=f.u.trans (J0.below f.u.aC.cur (below_drewN _ nq));refine hD.trans (hD.aC.cur.Fp (n2:=q-1) (low2:=low) 5 _ ?_);simp[Du];omega
      ·simp[intOf];omega
end
end Go.Proofs.YthleadfkfnnadaaGreat
