/- The law: looks at a pair of sessions. -/
import Derived.Test.YthleadfkfnnadaaGreatLnG
set_option maxHeartbeats 4000000
set_option maxRecDepth 100000
set_option linter.unusedSimpArgs false
namespace Go.Proofs.YthleadfkfnnadaaGreat
open Rf Rt Go.Proofs.Tryz
open Go.RowKit
attribute [local go_sem ↓] Go.wp_at_zero Go.wp_at_succ
variable {l:List Int} {prs:List mU} {vs:List Value} {S:Nat} {op:rS} {pv lv k b c v:Value} {w:World}
theorem WI.FO {S0:Nat} {tag tag':Nat->Nat} (h:WI w S0 pv lv vs prs tag) (d:∀k,k < w.heap.size->tag' k=tag k):WI w S0 pv lv vs prs tag':=
 ⟨h.lg,h.ps,h.each,fun i hi k hk=>by rw[d k ((h.each i hi).lt hk)];exact h.tags i hi k hk,fun k e=>by rw[d k (h.lg.own.lt k e).2];exact h.Ce k e,fun k e=>by rw[d k (h.ps.lt k e).2];exact h.FP k e,fun i hi k e=>by rw[d k (h.lg.lt i hi k e).2];exact h.GR i hi k e⟩
theorem C2:(Tryz.prog.info? 36).map (fun i=>(i.zero,i.size,i.bytes))=some (some (.pointer none),1,8):=by kernel_rfl
def bf (S0:Nat) (vs:List Value) (prs:List mU) (w:World) (e:Ending) (w':World):Prop:=e=.returned (.bool true)/\Below S0 w w'/\∃pv' lv' vs' prs' tag',WI w' S0 pv' lv' vs' prs' tag'/\vs'.length<=vs.length+2/\prs'.length<=prs.length+1/\∀M,(∀s∈prs,s.len<=M)->∀s∈prs',s.len<=M+1000
theorem cZ (s:ByteArray) (cap er ln:Int) (HP:∀(w:World) (v:Value),kA w v l->Calls Tryz.prog 30 #[.string s,v,.int .i64 cap] w fun e w'=>e=.returned (.tuple #[.pointer none,.int .i64 er,.int .i64 ln])/\Below w.heap.size w w') (HR:∀(w:World) (v:Value),kA w v l->Calls Tryz.prog 31 #[.string s,v,.int .i64 cap] w fun e w'=>e=.returned (.tuple #[.pointer none,.int .i64 er,.int .i64 ln])/\Below w.heap.size w w') (R:Nat->Nat) (h:WI w S pv lv vs prs R) (hi:kA w v l) (hl:l.length<=17592186044416) (a5:(vs.length+2)*24<=140737488355328):Calls Tryz.prog 15 #[.pointer (some ⟨S,0,none⟩),.agg #[k,.int .i64 cap,b,c,.string s,v]] w (bf S vs prs w):=by
 have HH:=zD (h.FO (tag':=fun k=>if k < w.heap.size then R k else 0) (fun k hk=>zE hk));have HI:=zD hi;have a7:=zQ h.lg.block;have a4:=zD HP;have a3:=zD HR;obtain⟨O,N,rfl⟩:=hi.form;have Z:=(zI w.heap.size w).alloc (zB _) (.cells #[k,.int .i64 cap,b,c,.string s,.slice O l.length N] 32);have U:=zN w (.cells #[k,.int .i64 cap,b,c,.string s,.slice O l.length N] 32);have f:=qG Z U;clear h hi HP HR Z U;have HC:Hd (∀w',Below (w.alloc (.cells #[k,.int .i64 cap,b,c,.string s,.slice O l.length N] 32)).heap.size (w.alloc (.cells #[k,.int .i64 cap,b,c,.string s,.slice O l.length N] 32)) w'->w'.cell? ⟨w.heap.size,1,none⟩=some (.int .i64 cap)/\w'.cell? ⟨w.heap.size,4,none⟩=some (.string s)/\w'.cell? ⟨w.heap.size,5,none⟩=some (.slice O l.length N)):=zD (fun w' hb=>by
  have hh:=zU f.u.2 hb;exact⟨zC hh 1 (by simp),zC hh 4 (by simp),zC hh 5 (by simp)⟩)
 go_enter func15,ntmps15;go_wp2_with fail;refine(gO (HI.u.zP f.u.1) hl).mono ?_;generalize w.alloc (.cells #[k,.int .i64 cap,b,c,.string s,.slice O l.length N] 32)=wa at *;rintro e w1 ⟨L,g,a9,rfl,F⟩;obtain⟨c1,c4,c5⟩:=HC.u _ L;have a6:=zQ F;have y:=qG L F;clear L F;go_wp2_with fail;refine(a4.u _ _ (V0 y.u.2)).mono ?_;rintro e w2 ⟨rfl,J⟩;have a8:=zQ f.u.2;have T:=y.u.1.size;have d:=qG (y.u.1.trans (J.mono (B':=wa.heap.size) T)) (zU y.u.2 J);clear J c1 c4 c5;obtain⟨e1,e4,e5⟩:=HC.u _ d.u.1;go_wp2_with fail;refine(lA g d.u.2 (HI.u.zP (f.u.1.trans (d.u.1.mono (B':=w.heap.size) (by omega)))) hl).mono ?_;rintro e w4 ⟨rfl,I⟩;have i:=d.u.1.trans (I.mono (B':=wa.heap.size) d.u.1.size);clear e1 e4 e5;obtain⟨e1,e4,e5⟩:=HC.u _ i;have x:=qG i (zU d.u.2 I);clear I i;go_wp2_with fail;refine(a3.u _ _ (HI.u.zP (f.u.1.trans (x.u.1.mono (B':=w.heap.size) (by omega))))).mono ?_;rintro e w5 ⟨rfl,H⟩;have D:=x.u.1.trans (H.mono (B':=wa.heap.size) x.u.1.size);have G:=f.u.1.trans (D.mono (B':=w.heap.size) (by omega));have a0:=HH.u.zP G;have W:=zU x.u.2 H;have z:=lz (B:=S+1) W (by omega) (by unfold maxLen;omega);have o:=XX a0 z G;have V:∀j (hj:j < vs.length) q,vs[j].ownBlock=some q->¬(Value.slice (some ⟨g,0,none⟩) l.length (l.length+2)).ownBlock=some q:=fun j hj q hq e=>by
  have h1:=(HH.u.lg.lt j hj q hq).2;simp[Value.ownBlock]at e;omega
 have HN:=zD V;clear H D e1 e4 e5 a0 W z G V;go_wp2_with fail;refine(oT o.u.1.lg o.u.2.1 HN.u (by omega)).mono ?_;intro e w7 hO;have A:=o.u.1.own o.u.2.1 (fun q e=>by
  simp[Value.ownBlock]at e;rw[zA (by omega)]) hO
 have a1:=(o.u.2.2.mono (B':=S) (by omega)).trans hO.2.1;obtain⟨rfl,_⟩:=hO;have HF:=qG A a1;clear A a1;go_wp2_with (go_at_call 20;refine(K3 er).mono ?_;rintro e w' ⟨rfl,rfl⟩)
 all_goals
  go_ret;obtain⟨⟨a2,v',tag',h1,_⟩,h2⟩:=HF.u;exact⟨by first | rfl | simp,h2,pv,a2,vs++[v'],prs,tag',h1,by simp,by omega,fun M hM s hs=>by have:=hM s hs;omega⟩
theorem sX (s:ByteArray) {cap:Int} {ps zL:List Rt.PL} (ls:List (List ByteArray)) {R:Rt.Src} (hX:Lawful ls->Rf.Ctx ps zL ls R) (g2:Cst R cap Ba) (i2:ls.length<=100) (HP:∀(w:World) (v:Value),kA w v l->Calls Tryz.prog 30 #[.string s,v,.int .i64 cap] w fun e w'=>Below w.heap.size w w'/\∃P B X jv,e=.returned (.tuple #[.pointer (some ⟨P,0,none⟩),.int .i64 0,.int .i64 0])/\(∀k∈J7 P X jv,w.heap.size<=k)/\Jx w' P B R cap 0 0 Ba X jv) (HR:∀(w:World) (v:Value),kA w v l->Calls Tryz.prog 31 #[.string s,v,.int .i64 cap] w fun e w'=>Below w.heap.size w w'/\∃C Y,e=.returned (.tuple #[.pointer (some ⟨C,0,none⟩),.int .i64 0,.int .i64 0])/\vg w' C zL ls R cap 0 0 0 (List.replicate (ls.length+1) false) Y/\Lawful ls/\∀k∈Dt zL R C Y,w.heap.size<=k) (d9:Nat->Nat) (h:WI w S pv lv vs prs d9) (hi:kA w v l) (hl:l.length<=17592186044416) (h9:(vs.length+2)*24<=140737488355328) (i9:(prs.length+1)*8<=140737488355328):Calls Tryz.prog 15 #[.pointer (some ⟨S,0,none⟩),.agg #[k,.int .i64 cap,b,c,.string s,v]] w (bf S vs prs w):=by
 have HH:=zD (h.FO (tag':=fun k=>if k < w.heap.size then d9 k else 0) (fun k hk=>zE hk));have HI:=zD hi;have i1:=zQ h.lg.block;have h7:=zD HP;have h6:=zD HR;obtain⟨ad,ca,rfl⟩:=hi.form;have g3:=(zI w.heap.size w).alloc (zB _) (.cells #[k,.int .i64 cap,b,c,.string s,.slice ad l.length ca] 32);have f8:=zN w (.cells #[k,.int .i64 cap,b,c,.string s,.slice ad l.length ca] 32);have A:=qG g3 f8;clear h hi HP HR g3 f8;have HC:Hd (∀w',Below (w.alloc (.cells #[k,.int .i64 cap,b,c,.string s,.slice ad l.length ca] 32)).heap.size (w.alloc (.cells #[k,.int .i64 cap,b,c,.string s,.slice ad l.length ca] 32)) w'->w'.cell? ⟨w.heap.size,1,none⟩=some (.int .i64 cap)/\w'.cell? ⟨w.heap.size,4,none⟩=some (.string s)/\w'.cell? ⟨w.heap.size,5,none⟩=some (.slice ad l.length ca)):=zD (fun w' hb=>by
  have hh:=zU A.u.2 hb;exact⟨zC hh 1 (by simp),zC hh 4 (by simp),zC hh 5 (by simp)⟩)
 go_enter func15,ntmps15;go_wp2_with fail;refine(gO (HI.u.zP A.u.1) hl).mono ?_;generalize w.alloc (.cells #[k,.int .i64 cap,b,c,.string s,.slice ad l.length ca] 32)=wa at *;rintro e w1 ⟨d2,g,j1,rfl,b8⟩;obtain⟨c1,c4,c5⟩:=HC.u _ d2;have i0:=zQ b8;have a3:=qG d2 b8;clear d2 b8;go_wp2_with fail;refine(h7.u _ _ (V0 a3.u.2)).mono ?_;rintro e w2 ⟨a2,P,B,X,jv,rfl,f5,a4⟩;have i5:=zQ A.u.2;have f1:=a3.u.1.size;have z:=qG (a3.u.1.trans (a2.mono (B':=wa.heap.size) f1)) (zU a3.u.2 a2);have i8:=a2.size;have W:=qG f5 a4;clear a2 c1 c4 c5 f5 a4;obtain⟨e1,e4,e5⟩:=HC.u _ z.u.1;go_wp2_with fail;refine(lA g z.u.2 (HI.u.zP (A.u.1.trans (z.u.1.mono (B':=w.heap.size) (by omega)))) hl).mono ?_;rintro e w4 ⟨rfl,T⟩;have L:=z.u.1.trans (T.mono (B':=wa.heap.size) z.u.1.size);clear e1 e4 e5;obtain⟨e1,e4,e5⟩:=HC.u _ L;have Z:=XX L (zU z.u.2 T) (W.u.2.zP T);have i7:=T.size;clear T L;go_wp2_with fail;refine(h6.u _ _ (HI.u.zP (A.u.1.trans (Z.u.1.mono (B':=w.heap.size) (by omega))))).mono ?_;rintro e w5 ⟨O,C,Y,rfl,b0,a7,f6⟩;have b1:=Z.u.1.trans (O.mono (B':=wa.heap.size) Z.u.1.size);have b9:=A.u.1.trans (b1.mono (B':=w.heap.size) (by omega));have g4:=HH.u.zP b9;have g1:=zU Z.u.2.1 O;have F:=Z.u.2.2.zP O;have i6:=O.size;have a5:=lz (B:=S+1) g1 (by omega) (by unfold maxLen;omega);have x:=XX g4 a5 b9;have o:=gN F b0 a7 f6;have g0:∀j (hj:j < vs.length) q,vs[j].ownBlock=some q->¬(Value.slice (some ⟨g,0,none⟩) l.length (l.length+2)).ownBlock=some q:=fun j hj q hq e=>by
  have h1:=(HH.u.lg.lt j hj q hq).2;simp[Value.ownBlock]at e;omega
 have HN:=zD g0;clear O b1 e1 e4 e5 g4 g1 a5 b9 g0 F b0 a7 f6;go_wp2_with fail;refine(oT x.u.1.lg x.u.2.1 HN.u (by omega)).mono ?_;intro e d hO;obtain⟨g7,v7,h8,d4,f2,hl7⟩:=x.u.1.own x.u.2.1 (fun q e=>by
  simp[Value.ownBlock]at e;rw[zA (by omega)]) hO
 have g6:=(x.u.2.2.mono (B':=S) (by omega)).trans hO.2.1;have b7:∀k t,Dr t->qm w5 k t->d.heap[k]?=w5.heap[k]?:=fun k t ht hk=>oU x.u.1.lg x.u.2.1 hO ht hk;have f3:=hO.2.1.size;have I:∀q,lv.ownBlock=some q->q < w.heap.size:=fun q e=>(HH.u.lg.own.lt q e).2;have b5:∀q,q < w5.heap.size->w1.heap.size<=q->d.heap[q]?=w5.heap[q]?:=fun q h1 h2=>hO.2.2.1 q h1 (by omega) (fun e=>by have:=I q e;omega) (fun e=>by simp[Value.ownBlock]at e;omega);have D:Jx d P B R cap 0 0 Ba X jv:=o.u.1.stay f3 (fun q hq=>b5 q (o.u.1.Yo.Vq hq) (W.u.1 q hq)) (fun q t ht hq=>b7 q t (Or.inl ht) hq);have J:vg d C zL ls R cap 0 0 0 (List.replicate (ls.length+1) false) Y:=o.u.2.1.stay (fun q hq=>b5 q (o.u.2.1.lt hq) (by have:=o.u.2.2.2 q hq;omega)) (fun q t ht hq=>b7 q t (Or.inr (Or.inl ht)) hq);obtain⟨rfl,_⟩:=hO;have N:=(zI d.heap.size d).alloc (zB _) (.cells #[.pointer (some ⟨P,0,none⟩),.pointer (some ⟨C,0,none⟩)] 65);have f7:=zN d (.cells #[.pointer (some ⟨P,0,none⟩),.pointer (some ⟨C,0,none⟩)] 65);have b6:vf (d.alloc (.cells #[.pointer (some ⟨P,0,none⟩),.pointer (some ⟨C,0,none⟩)] 65)) ⟨d.heap.size,P,B,X,jv,C,Y,ps,zL,ls,R,cap,0,0,0,Ba⟩:=by
  refine⟨f7,D.zP N,g2,?_,hX o.u.2.2.1,zB _,fun q h1 h2=>?_⟩
  ·have e:Ba.take (ls.length+1)=List.replicate (ls.length+1) false:=by
    unfold Ba;rw[List.take_replicate];congr 1;omega
   show vg _ C zL ls R cap 0 0 0 (Ba.take (ls.length+1)) Y;rw[e];exact J.zP N
  ·have e1:=o.u.2.2.2 q h2;have e2:=W.u.2.Yo.Vq h1;omega
 have y:=d4.zP N;have a8:∀q∈rV ⟨d.heap.size,P,B,X,jv,C,Y,ps,zL,ls,R,cap,0,0,0,Ba⟩,w1.heap.size<=q/\(q < w5.heap.size\/q=d.heap.size):=fun q hq=>by
  rcases zw.mp hq with e | hq
  ·have e:q=d.heap.size:=e;exact⟨by omega,Or.inr e⟩
  ·rcases zd.mp hq with hq | hq
   ·have e1:=W.u.1 q hq;have e2:=W.u.2.Yo.Vq hq;exact⟨e1,Or.inl (by omega)⟩
   ·have e1:=o.u.2.2.2 q hq;have e2:=o.u.2.1.lt hq;exact⟨by omega,Or.inl e2⟩
 have a9:∀q∈rV ⟨d.heap.size,P,B,X,jv,C,Y,ps,zL,ls,R,cap,0,0,0,Ba⟩,S < q/\g7.ownBlock≠some q/\pv.ownBlock≠some q/\(∀i (hi:i < (vs++[v7]).length),(vs++[v7])[i].ownBlock≠some q)/\∀i (hi:i < prs.length),q∉rV prs[i]:=fun q hq=>by
  obtain⟨q1,q2⟩:=a8 q hq;refine⟨by omega,fun e=>?_,fun e=>?_,fun i hi e=>?_,fun i hi e=>?_⟩
  ·have e1:=(d4.lg.own.lt q e).2;rcases hl7 q e with e2 | e2
   ·have:=I q e2;omega
   ·omega
  ·have:=(HH.u.ps.lt q e).2;omega
  ·by_cases hiv:i < vs.length
   ·rw[xI hiv]at e;have:=(HH.u.lg.lt i hiv q e).2;omega
   ·have:i=vs.length:=by simp at hi;omega
    subst this;rw[xm (zB _)]at e;simp only[jC,zv]at e;rw[f2]at e;simp[Value.ownBlock]at e;omega
  ·have:=(HH.u.each i hi).lt e;omega
 have d7:=zD (fun (wx wy:World) (pv':Value) hb hg ho hat=>y.push (w1:=wx) (w2:=wy) (pv':=pv') b6 a9 hb hg ho hat);have c0:(d.alloc (.cells #[.pointer (some ⟨P,0,none⟩),.pointer (some ⟨C,0,none⟩)] 65)).cell? ⟨S,0,none⟩=some pv:=zC y.lg.block 0 (by simp);have G:=y.ps;obtain⟨pa,pc,a1⟩:=zK G;rw[a1]at c0 G;have j2:=zQ y.lg.block;have d6:=gN y b6 g6 N;clear d4 f2 hl7 g6 b7 f3 I b5 D J N f7 b6 y a8 a9;obtain⟨j0,h5,h3,h0,g8⟩:=yi C2;have h4:(d.alloc (.cells #[.pointer (some ⟨P,0,none⟩),.pointer (some ⟨C,0,none⟩)] 65)).heap.size=d.heap.size+1:=by simp
 go_wp2_with (first
  | (go_at_call 20;refine(K3 0).mono ?_;rintro e wn ⟨rfl,f0⟩;rw[f0];clear f0)
  | (at_builtin;refine wpList_append_lies _ rfl _ _ 27 rfl (S+1) 36 j0 _ 1 8 underlying27 h5 h3 h0 g8 rfl (by decide) _ _ _ rfl (G.alloc _) ⟨d.heap.size+1,0,none⟩ 1 1 [.pointer (some ⟨d.heap.size,0,none⟩)] rfl rfl (VX d) (by simp[Value.oneCell']) (by omega) (by unfold maxLen;omega) (by omega) (by simp;omega) (d.heap.size+1+1) (by simp) ?_));intro g9 U w9 H f hat9 f9;have d1:=(zI _ (d.alloc (.cells #[.pointer (some ⟨P,0,none⟩),.pointer (some ⟨C,0,none⟩)] 65))).alloc (zB _) (.cells #[.pointer (some ⟨d.heap.size,0,none⟩)] 36);have f4:¬some S=(Value.slice pa prs.length pc).ownBlock:=fun e=>by
  have:=(G.lt S e.symm).1;omega
 have d5:=(f.block S (by simp;omega) f4).trans (zU d6.u.1.lg.block d1);have d0:w9.cell? ⟨S,0,none⟩=some pv:=zC d5 0 (by simp);rw[a1]at d0;have z0:=zS d5 0;obtain⟨⟨d8,d3⟩,g5⟩:=d7.u _ w9 (.slice (some ⟨g9,0,none⟩) (prs.length+1) U) d1 (by rw[a1];exact f) H (fun q e=>by
  simp[Value.ownBlock]at e;subst e;rcases hat9 with e | e
  ·exact Or.inl (by rw[a1];exact e)
  ·exact Or.inr (by rw[h4];omega))
 have a6:vf (w9.setCell ⟨S,0,none⟩ (.slice (some ⟨g9,0,none⟩) (prs.length+1) U)) ⟨d.heap.size,P,B,X,jv,C,Y,ps,zL,ls,R,cap,0,0,0,Ba⟩:=by
  have:=d3.each prs.length (by simp);rw[xm (zB _)]at this;simpa using this
 have V:=XX d3 a6 (d6.u.2.2.1.trans ((d6.u.2.2.2.mono (B':=S) (by omega)).trans g5));clear d1 f4 d5 d3 g5 a6 H f hat9 f9 c0 G;go_wp2_with fail;refine(iu V.u.2.1).mono ?_;generalize w9.setCell ⟨S,0,none⟩ (.slice (some ⟨g9,0,none⟩) (prs.length+1) U)=wx at *;rintro e i4 ⟨rfl,b3⟩;have a0:=zD b3;clear b3;go_wp2_with fail;refine(AE (V.u.2.1.zP a0.u) (by show 0 < _;omega)).mono ?_;rintro e i3 ⟨rfl,b2⟩;have b4:=zD (a0.u.trans (b2.mono a0.u.size));clear b2;go_wp2;go_ret;refine⟨by first | rfl | simp,V.u.2.2.trans (b4.u.mono (by have:=zQ V.u.1.lg.block;omega)),_,_,vs++[v7],_,d8,V.u.1.zP b4.u,by simp,by simp,fun M hM t ht=>?_⟩;rcases zd.mp ht with ht | ht
 ·have:=hM t ht;omega
 ·rw[yN.mp ht];show 0<=_;omega
theorem sY (i:op.s.size<=maxLen) (f:Nat->Nat) (h:WI w S pv lv vs prs f) (k:kA w op.v op.l) (j:op.l.length<=17592186044416) (d:(vs.length+2)*24<=140737488355328) (o:(prs.length+1)*8<=140737488355328):Calls Tryz.prog 15 #[.pointer (some ⟨S,0,none⟩),iO op] w (bf S vs prs w):=by
 obtain⟨x,z,_⟩:=eR op.s;rcases sf op.s op.l op.a with⟨h1,_⟩| ⟨h1,h2,_⟩| ⟨h1,h2,h3,_⟩| ⟨h1,h2,h3,_⟩
 ·exact cZ op.s op.a 1 0 (fun w v hv=>aI op.s op.a i hv 1 0 (Or.inl ⟨h1,rfl,rfl⟩)) (fun w v hv=>bL op.s op.a i hv 1 0 (Or.inl ⟨h1,rfl,rfl⟩)) f h k j d
 ·exact cZ op.s op.a (Rt.qx op.s).1 (Rt.qx op.s).2.1 (fun w v hv=>aI op.s op.a i hv _ _ (Or.inr ⟨h1,h2,(Rt.qx op.s).2.2,rfl⟩)) (fun w v hv=>bL op.s op.a i hv _ _ (Or.inr ⟨h1,h2,x.symm,z.symm⟩)) f h k j d
 ·exact cZ op.s op.a 6 0 (fun w v hv=>Bz op.s op.a i hv h2 h1 h3) (fun w v hv=>DW op.s op.a i hv (by rw[<-x,h2]) h1 h3) f h k j d
 ·have y:ZM (Rt.qx op.s).2.2 (vP op.s).2.2:=(eR op.s).2.2 (by rw[h2]);have D:=(QH h2).2.1;have A:=y.len;exact sX op.s (vP op.s).2.2 (fun hlaw=>DT op.l h2 hlaw) ⟨Ft h2 h1,h3.1,h3.2,by simp[Ba]⟩ (by omega) (fun w v hv=>EB op.s op.a i hv h2 h1 h3) (fun w v hv=>tf op.s op.a i hv h2 h1 h3 rfl rfl) f h k j d o
theorem CJ (w:World) (c n:Int) (o:-9223372036854775808<=c) (k:c<=9223372036854775807) (j:0 < n) (f:n<=9223372036854775807):Calls Tryz.prog 16 #[.int .i64 c,.int .i64 n] w fun e w'=>e=.returned (.int .i64 ((if c < 0 then -(c+1)else c) % n))/\w'=w:=by
 have h:(n==0)=false:=by simp;omega
 by_cases h0:c < 0
 ·have d:Hd ((if c < 0 then -(c+1)else c) % n=(-(c+1)) % n):=zD (by rw[zE h0]);have y:IntKind.i64.wrap (c+1)=c+1:=by rw[yv,yC _ (by omega)]
  have x:IntKind.i64.wrap (-(c+1))=-(c+1):=by rw[yv,yC _ (by omega)]
  generalize (if c < 0 then -(c+1)else c) % n=R at *;go_enter func16,ntmps16;go_wp2;go_ret;have i:-((c+1).tmod n)=(-(c+1)) % n:=by rw[<-Int.neg_tmod,Int.tmod_eq_emod_of_nonneg (by omega)]
  exact⟨by rw[d.u,<-i];rfl,rfl⟩
 ·have d:Hd ((if c < 0 then -(c+1)else c) % n=c % n):=zD (by rw[zA h0]);generalize (if c < 0 then -(c+1)else c) % n=R at *;go_enter func16,ntmps16;go_wp2;go_ret;exact⟨by rw[d.u];rfl,rfl⟩
theorem CI (c:Int) (n:Nat) (h:0 < n) (j:n<=140737488355328) (d:-9223372036854775808<=c/\c<=9223372036854775807):Calls Tryz.prog 16 #[.int .i64 c,.int .i64 (n:Int)] w fun e w'=>w'=w/\∃i:Nat,i < n/\e=.returned (.int .i64 (i:Int)):=by
 refine(CJ w c n d.1 d.2 (by omega) (by omega)).mono ?_;rintro e w' ⟨rfl,rfl⟩;have f:=Int.emod_nonneg (if c < 0 then -(c+1)else c) (show (n:Int)≠0 by omega);have k:=Int.emod_lt_of_pos (if c < 0 then -(c+1)else c) (show (0:Int) < (n:Int) by omega);exact⟨rfl,((if c < 0 then -(c+1)else c) % (n:Int)).toNat,by omega,by rw[Int.toNat_of_nonneg f]⟩
section
variable {s:mU}
theorem mo (h:vf w s) (j:op.kind=5) (k:∃a n c,op.v=.slice a n c):Calls Tryz.prog 17 #[.pointer (some ⟨S,0,none⟩),.pointer (some ⟨s.q,0,none⟩),iO op] w fun e w'=>e=.returned (.bool true)/\∃s',YJ s s' w w':=by
 obtain⟨F,z,i,y,x,ov,D⟩:=op;simp only at j k;obtain⟨a,n,c,rfl⟩:=k;subst j;unfold iO;simp only;have d:=(zI w.heap.size w).alloc (zB _) (.cells #[.int .i64 5,.int .i64 z,.int .i64 i,.int .i64 y,.string x,.slice a n c] 32);have f:=qG h d;clear h d;go_enter func17,ntmps17;go_wp2_with fail;refine(su (f.u.1.zP f.u.2) i).mono ?_;rintro e w1 ⟨rfl,s',o⟩;have A:=zD ((YJ.below f.u.1 f.u.2).then o);clear o;go_wp2;go_ret;exact⟨rfl,_,A.u⟩
end
theorem Bv (j:Nat->Nat) (A:op.kind=4) (h:WI w S pv lv vs prs j) (y:kA w op.v op.l) (H:op.l.length<=17592186044416) (G:op.s.size<=maxLen) (k:(vs.length+2)*24<=140737488355328) (x:(prs.length+1)*8<=140737488355328):Calls Tryz.prog 10 #[.pointer (some ⟨S,0,none⟩),iO op] w (bf S vs prs w):=by
 have f:=(zI w.heap.size w).alloc (zB _) (.cells #[.int .i64 4,.int .i64 op.a,.int .i64 op.b,.int .i64 op.c,.string op.s,op.v] 32);have i:=sY G j (h.zP f) (y.zP f) H k x;have D:=zQ h.lg.block;obtain⟨V,U,z⟩:=y.form;obtain⟨T,R,O,N,L,ov,M⟩:=op;simp only at A z;subst A z;unfold iO at i ⊢;simp only at i f ⊢;have I:=zD i;have J:=zD f;clear h y i f;go_enter func10,ntmps10;go_wp2_with fail;refine I.u.mono ?_;rintro e w1 ⟨rfl,o,d⟩;have F:=qG ((J.u.mono (B':=S) (by omega)).trans o) d;clear o d;go_wp2;go_ret;exact⟨rfl,F.u.1,F.u.2⟩
theorem wR (f:Nat->Nat) (D:5<=op.kind) (h:WI w S pv lv vs [] f) (y:kA w op.v op.l):Calls Tryz.prog 10 #[.pointer (some ⟨S,0,none⟩),iO op] w (bf S vs [] w):=by
 have d:=(zI w.heap.size w).alloc (zB _) (.cells #[.int .i64 op.kind,.int .i64 op.a,.int .i64 op.b,.int .i64 op.c,.string op.s,op.v] 32);have z:=zQ h.lg.block;have o:w.cell? ⟨S,0,none⟩=some pv:=zC h.lg.block 0 (by simp);obtain⟨H,G,j⟩:=zK h.ps;rw[j]at o;have F:=cell_later d o;have k:=h.zP d;obtain⟨Z,W,x⟩:=y.form;obtain⟨i,O,N,L,I,ov,J⟩:=op;simp only at D x d F k;subst x;unfold iO;simp only;have V:(i==1)=false:=by simp;omega
 have U:(i==2)=false:=by simp;omega
 have T:(i==3)=false:=by simp;omega
 have R:(i==4)=false:=by simp;omega
 have A:=qG k (d.mono (B':=S) (by omega));clear h y k d o;go_enter func10,ntmps10;go_wp2;go_ret;exact⟨rfl,A.u.2,pv,lv,vs,[],f,A.u.1,by omega,by simp,fun M hM s hs=>by simp at hs⟩
theorem Bu (D:Nat->Nat) (hk:5<=op.kind) (h:WI w S pv lv vs prs D) (f:kA w op.v op.l) (hp:0 < prs.length) (a1:prs.length<=17592186044416) (Z:-9223372036854775808<=op.a/\op.a<=9223372036854775807) (HS:∀(w1:World) (i:Nat) (f:i < prs.length),WI w1 S pv lv vs prs D->Below w.heap.size w w1->Calls Tryz.prog 17 #[.pointer (some ⟨S,0,none⟩),.pointer (some ⟨prs[i].q,0,none⟩),iO op] w1 (bf S vs prs w1)):Calls Tryz.prog 10 #[.pointer (some ⟨S,0,none⟩),iO op] w (bf S vs prs w):=by
 have k:=(zI w.heap.size w).alloc (zB _) (.cells #[.int .i64 op.kind,.int .i64 op.a,.int .i64 op.b,.int .i64 op.c,.string op.s,op.v] 32);have a0:=zQ h.lg.block;have I:=h.zP k;have T:=zC I.lg.block 0 (by simp);obtain⟨pa,pc,A⟩:=zK h.ps;simp only[yQ,zv]at T;rw[A]at T;have y:=zD (fun (i:Nat) (f:i < prs.length)=>yD I.ps (j:=i) (u:=.pointer (some ⟨prs[i].q,0,none⟩)) (by rw[yt,zJ f];rfl));have x:=zD (fun (w1:World) hb (i:Nat) (f:i < prs.length)=>HS w1 i f (I.zP hb) (k.trans (hb.mono (B':=w.heap.size) k.size)));obtain⟨U,R,W⟩:=f.form;obtain⟨z,J,O,N,L,ov,M⟩:=op;simp only at hk W k T I y x Z;subst W;unfold iO at x ⊢;simp only at x ⊢;have k1:(z==1)=false:=by simp;omega
 have k2:(z==2)=false:=by simp;omega
 have k3:(z==3)=false:=by simp;omega
 have k4:(z==4)=false:=by simp;omega
 have a2:((prs.length:Int)==0)=false:=by rw[zV];omega
 have HB:=zD k;have HV:=zD A;obtain⟨r0,r1,r2,r3,r4,r5,_⟩:=YA (zN w (.cells #[.int .i64 z,.int .i64 J,.int .i64 O,.int .i64 N,.string L,.slice U M.length R] 32));obtain⟨g,gc,hg,_,_,_⟩:=y.u 0 hp;rw[HV.u]at hg;injection hg with hg1 _ hg2;subst hg1 hg2;have V:=zD (show ∀(i:Nat) (f:i < prs.length),(w.alloc (.cells #[.int .i64 z,.int .i64 J,.int .i64 O,.int .i64 N,.string L,.slice U M.length R] 32)).cell? ⟨g,i,none⟩=some (.pointer (some ⟨prs[i].q,0,none⟩))from fun i f=>by
  obtain⟨g',a3,d,_,_,cG⟩:=y.u i f;rw[HV.u]at d;injection d with d _ _;injection d with d;injection d with d;rw[d];exact cG)
 have G:prs.length<=140737488355328:=by omega
 clear h f I k HS A y;go_enter func10,ntmps10;go_wp2_with fail;generalize w.alloc (.cells #[.int .i64 z,.int .i64 J,.int .i64 O,.int .i64 N,.string L,.slice U M.length R] 32)=wa at *;go_region_with (go_at_call 16;refine(CI J prs.length hp G Z).mono ?_;rintro e wn ⟨F,i,f,rfl⟩;rw[F];clear F;have cG:=V.u i f;have i0:(0:Int)<=(i:Int):=(by omega);have i1:(i:Int) < (prs.length:Int):=(by omega))
 all_goals
  go_wp2_with fail;refine(x.u _ (zh _) i f).mono ?_;rintro e w2 ⟨rfl,H,o⟩;have HF:=qG ((HB.u.mono (B':=S) (by omega)).trans (((zh wa).mono (B':=S) (by have:=HB.u.size;omega)).trans H)) o;clear H o;go_wp2;go_ret;exact⟨rfl,HF.u.1,HF.u.2⟩
theorem WI.Yo {tag:Nat->Nat} (h:WI w S pv lv vs prs tag) {i:Nat} (d:i < prs.length) (j:Calls Tryz.prog 17 #[.pointer (some ⟨S,0,none⟩),.pointer (some ⟨prs[i].q,0,none⟩),iO op] w fun e w'=>e=.returned (.bool true)/\∃s',YJ prs[i] s' w w'):Calls Tryz.prog 17 #[.pointer (some ⟨S,0,none⟩),.pointer (some ⟨prs[i].q,0,none⟩),iO op] w (bf S vs prs w):=by
 refine j.mono ?_;rintro e w' ⟨rfl,s',f⟩;obtain⟨o,k⟩:=h.act d f;refine⟨rfl,k,pv,lv,vs,prs.set i s',_,o,by omega,by simp,fun M hM s hs=>?_⟩;rcases List.mem_or_eq_of_mem_set hs with hs | rfl
 ·have:=hM s hs;omega
 ·have y:=hM _ (zj d);have x:=f.iP;omega
def iI (S:Nat) (w:World) (k:Nat):Prop:=∃pv lv vs prs tag,WI w S pv lv vs prs tag/\vs.length<=2*k/\prs.length<=k/\∀s∈prs,s.len<=1000*k
theorem iI.step {k:Nat} (h:iI S w k) (d:rS) (D:5<=d.kind) (F:kA w d.v d.l) (L:-9223372036854775808<=d.a/\d.a<=9223372036854775807) (A:k<=2000000000000) (R:∀(w1:World) (s:mU),vf w1 s->s.len<=1000*k->Below w.heap.size w w1->Calls Tryz.prog 17 #[.pointer (some ⟨S,0,none⟩),.pointer (some ⟨s.q,0,none⟩),iO d] w1 fun e w'=>e=.returned (.bool true)/\∃s',YJ s s' w1 w'):Calls Tryz.prog 10 #[.pointer (some ⟨S,0,none⟩),iO d] w fun e w'=>e=.returned (.bool true)/\Below S w w'/\iI S w' (k+1):=by
 obtain⟨V,W,f,prs,j,I,H,M,G⟩:=h;have fin:∀(f:List Value) (prs:List mU),f.length<=2*k->prs.length<=k->(∀s∈prs,s.len<=1000*k)->∀e w',bf S f prs w e w'->e=.returned (.bool true)/\Below S w w'/\iI S w' (k+1):=by
  rintro f prs U T J e w' ⟨rfl,z,pv',y,x,o,tag',O,a2,Z,N⟩;exact⟨rfl,z,pv',y,x,o,tag',O,by omega,by omega,fun s hs=>by have:=N _ J s hs;omega⟩
 by_cases h0:prs=[]
 ·subst h0;exact(wR j D I F).mono (fin f [] H (by simp) (by simp))
 ·exact(Bu j D I F (kO.mpr h0) (by omega) L (fun w1 i hi' hW z=>hW.Yo hi' (R w1 prs[i] (hW.each i hi') (G _ (zj hi')) z))).mono (fin f prs H M G)
theorem iI.new {k:Nat} (h:iI S w k) (d:rS) (D:d.kind=4) (F:kA w d.v d.l) (A:d.l.length<=17592186044416) (x:d.s.size<=maxLen) (y:k<=2000000000000):Calls Tryz.prog 10 #[.pointer (some ⟨S,0,none⟩),iO d] w fun e w'=>e=.returned (.bool true)/\Below S w w'/\iI S w' (k+1):=by
 obtain⟨N,O,M,z,j,I,T,R,H⟩:=h;refine(Bv j D I F A x (by omega) (by omega)).mono ?_;rintro e w' ⟨rfl,G,pv',o,i,f,tag',L,V,U,J⟩;exact⟨rfl,G,pv',o,i,f,tag',L,by omega,by omega,fun s x=>by have:=J _ H s x;omega⟩
theorem we (i:List rS) {ks:List Int} (A:i.length<=2000000000000) (F:∀(w1:World) (k:Nat) (hk:k < i.length),i[k].kind∈ks->iI w.heap.size w1 k->Below w.heap.size w w1->Calls Tryz.prog 10 #[.pointer (some ⟨w.heap.size,0,none⟩),iO i[k]] w1 fun e w'=>e=.returned (.bool true)/\Below w.heap.size w1 w'/\iI w.heap.size w' (k+1)):FT w w.heap.size i ks (iI w.heap.size):=by
 refine⟨?_,?_,?_,fun w1 k hk hm h hb=>F w1 k hk hm h hb,?_⟩
 ·rintro w1 w2 k ⟨x,y,o,f,d,j,z⟩ hb;exact⟨x,y,o,f,d,j.zP hb,z⟩
 ·rintro w1 k _ ⟨x,y,o,f,d,j,z,G,D⟩;exact⟨x,y,o,f,d,j,by omega,by omega,fun s hs=>by have:=D s hs;omega⟩
 ·rintro w1 k ⟨x,y,o,f,d,j,_⟩;exact zQ j.lg.block
 ·rintro w1 k hk ⟨x,y,o,f,d,j,z,_⟩;exact sy j.lg (by omega)
theorem ses_start (h:w.heap[S]?=some (.cells #[.slice none 0 0,.slice none 0 0] 30 (0,0))):iI S w 0:=
 ⟨_,_,[],[],fun _=>0,⟨⟨h,zW _ _ _ _,fun k hk=>by simp at hk⟩,zW _ _ _ _,fun i hi=>by simp at hi,fun i hi=>by simp at hi,fun _ _=>rfl,fun _ _=>rfl,fun i hi=>by simp at hi⟩,by simp,by simp,by simp⟩
theorem DE (h:kA w v l):∃a n c,v=.slice a n c:=by
 obtain⟨a,c,e⟩:=h.form;exact⟨a,_,c,e⟩
theorem ny {s:mU} (h:vf w s) (o:op.kind=6) (x:∃a n c,op.v=.slice a n c) (i:s.len+1001 < 1000000000000):Calls Tryz.prog 17 #[.pointer (some ⟨S,0,none⟩),.pointer (some ⟨s.q,0,none⟩),iO op] w fun e w'=>e=.returned (.bool true)/\∃s',YJ s s' w w':=by
 obtain⟨G,A,k,j,z,ov,F⟩:=op;simp only at o x;obtain⟨a,n,c,rfl⟩:=x;subst o;unfold iO;simp only;have d:=(zI w.heap.size w).alloc (zB _) (.cells #[.int .i64 6,.int .i64 A,.int .i64 k,.int .i64 j,.string z,.slice a n c] 32);have f:=qG h d;clear h d;go_enter func17,ntmps17;go_wp2_with fail;refine(sq (f.u.1.zP f.u.2) k j i).mono ?_;rintro e w1 ⟨rfl,s',y⟩;have D:=zD ((YJ.below f.u.1 f.u.2).then y);clear y;go_wp2;go_ret;exact⟨rfl,_,D.u⟩
section
variable {w:World} {s:mU}
theorem vf.env (h:vf w s):Rf.Env s.zL s.ls s.S (Rt.atM s.S s.n):=Rf.Y4 h.ctx (nU h.ctx h.Bb.Gc.input s.n h.Yo.ok.run)
theorem vf.qT (h:vf w s):XW s.S (Rt.atM s.S s.n):=h.Bb.Gc.qT s.n
theorem valued_ref (h:vf w s) (x:ByteArray):Calls Tryz.prog 36 #[.pointer (some ⟨s.q,0,none⟩),.string x] w fun e w'=>e=.returned (.bool true)/\Below w.heap.size w w':=by
 have z:=zD h;have y:w.cell? ⟨s.q,0,none⟩=some (.pointer (some ⟨s.P,0,none⟩)):=zC h.pair 0 (by simp);have o:w.cell? ⟨s.q,1,none⟩=some (.pointer (some ⟨s.C,0,none⟩)):=zC h.pair 1 (by simp);have i:=zD (sValue_any x h.Yo.Yo h.qT.Zi);have A:=zD (fun w1 (h1:vf w1 s)=>cvalue_ref h1.cur h1.le h1.env x);rw[show (XY s.S s.n s.low s.Yw).m=Rt.atM s.S s.n from rfl]at i;clear h;generalize Rt.G4 s.S (Rt.atM s.S s.n) x=r at *;go_enter func36,ntmps36;go_wp2_with fail;refine i.u.mono ?_;rintro e w1 ⟨rfl,d⟩;have D:=cell_later d o;have k:=zD d;clear d y o i;go_wp2_with fail;refine(A.u w1 (z.u.zP k.u)).mono ?_;rintro e w2 ⟨rfl,f⟩;have j:=zD (k.u.trans (f.mono (B':=w.heap.size) k.u.size));clear f;go_wp2_with (go_at_call 20;refine(K3 r.2).mono ?_;rintro e w' ⟨rfl,rfl⟩)
 all_goals
  go_ret;exact⟨by first | rfl | simp,j.u⟩
theorem celled_ref (h:vf w s) (x:ByteArray) (i:Int):Calls Tryz.prog 37 #[.pointer (some ⟨s.q,0,none⟩),.string x,.int .i64 i] w fun e w'=>e=.returned (.bool true)/\Below w.heap.size w w':=by
 have A:=zD h;have z:w.cell? ⟨s.q,0,none⟩=some (.pointer (some ⟨s.P,0,none⟩)):=zC h.pair 0 (by simp);have y:w.cell? ⟨s.q,1,none⟩=some (.pointer (some ⟨s.C,0,none⟩)):=zC h.pair 1 (by simp);have j:=zD (sCell_any x i h.Yo.Yo h.qT.Zi);have D:=zD (fun w1 (h1:vf w1 s)=>ccell_ref h1.cur h1.le h1.env x i);rw[show (XY s.S s.n s.low s.Yw).m=Rt.atM s.S s.n from rfl]at j;clear h;generalize Rt.cellR s.S (Rt.atM s.S s.n) x i=r at *;go_enter func37,ntmps37;go_wp2_with fail;refine j.u.mono ?_;rintro e w1 ⟨rfl,d⟩;have F:=cell_later d y;have o:=zD d;clear d z y j;go_wp2_with fail;refine(D.u w1 (A.u.zP o.u)).mono ?_;rintro e w2 ⟨rfl,f⟩;have k:=zD (o.u.trans (f.mono (B':=w.heap.size) o.u.size));clear f;go_wp2_with (go_at_call 20;refine(K3 r.2).mono ?_;rintro e w' ⟨rfl,rfl⟩)
 all_goals
  go_ret;exact⟨by first | rfl | simp,k.u⟩
end
section
variable {S:Nat} {pv lv:Value} {vs:List Value} {prs:List mU} {tag:Nat -> Nat}
def ListW (S:Nat) (pv:Value) (vs:List Value) (prs:List mU) (w:World) (e:Ending) (w':World):Prop:=e=.returned (.bool true)/\Below S w w'/\∃lv' vs' tag',WI w' S pv lv' vs' prs tag'/\vs'.length<=vs.length+1
theorem listW_ref {w0:World} (h:WI w0 S pv lv vs prs tag) (I:Below w0.heap.size w0 w) {m:Value} (o:w.ownsRow w0.heap.size 3 1 v l.length (xR l)) (H:kA w m l) (hl:l.length<=1000) (M:(vs.length+2)*24<=140737488355328):Calls Tryz.prog 23 #[.pointer (some ⟨S,0,none⟩),v,m] w (ListW S pv vs prs w):=by
 have O:=zQ h.lg.block;have N:=(h.FO (tag':=fun k=>if k < w0.heap.size then tag k else 0) (fun k hk=>zE hk)).zP I;have x:w.ownsRow (S+1) 3 1 v l.length (xR l):=own_base o (fun g e=>by have:=(o.lt g e).1;omega);have d:∀k,v.ownBlock=some k->w0.heap.size<=k:=fun k e=>(o.lt k e).1;have z:∀k (hk:k < vs.length) g,vs[k].ownBlock=some g->¬v.ownBlock=some g:=fun k hk g e e2=>by
  have T:=(h.lg.lt k hk g e).2;have R:=d g e2;omega
 have F:=DA N x d z H;have V:=zD (YX o);have hs:=I.size;obtain⟨ad,ca,rfl⟩:=zK o;obtain⟨Z,mc,rfl⟩:=H.form;clear h I o H N x d z;go_enter func23,ntmps23;go_wp2_with fail;refine(oB V.u F.u.2.2.2.2 (by omega)).mono ?_;rintro e w1 ⟨rfl,f⟩;have L:=zD f;have A:=F.u.1.zP f;have y:=yG F.u.2.1 f;have i:=qG A y;clear f A y;go_wp2_with fail;refine(oT i.u.1.lg i.u.2 F.u.2.2.2.1 (by omega)).mono ?_;intro e w2 J;have j:=i.u.1.own i.u.2 (fun q e=>by
  have:=F.u.2.2.1 q e;rw[zA (by omega)]) J
 have D:=(L.u.mono (B':=S) (by omega)).trans J.2.1;obtain⟨rfl,_⟩:=J;have W:=qG j D;clear j D;go_wp2;go_ret;obtain⟨⟨G,U,tag',T,_⟩,R⟩:=W.u;exact⟨rfl,R,G,vs++[U],tag',T,by simp⟩
end
end Go.Proofs.YthleadfkfnnadaaGreat
