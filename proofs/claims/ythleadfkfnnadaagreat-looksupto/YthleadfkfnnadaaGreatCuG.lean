/- The document's session moves. -/
import Derived.Test.YthleadfkfnnadaaGreatCvD
set_option maxHeartbeats 4000000
set_option maxRecDepth 100000
set_option linter.unusedSimpArgs false
namespace Go.Proofs.YthleadfkfnnadaaGreat
open Rf Rt Go.Proofs.Tryz
open Go.RowKit
attribute [local go_sem ↓] Go.wp_at_zero Go.wp_at_succ
variable {Y:iQ} {cap:Int} {ls:List (List ByteArray)} {mk Yw:List Bool} {ps zL:List Rt.PL} {C len n low:Nat} {S:Rt.Src} {tv:Value} {w:World}
theorem GK {R:Nat} {x0 x1 x2 x3 x4 x5 x6:Value} {t:TypeId} (h:w.heap[R]?=some (.cells #[x0,x1,x2,x3,x4,x5,x6] t (0,0))) (a b c d e f g:Value):(W7 w R a b c d e f g).heap[R]?=some (.cells #[a,b,c,d,e,f,g] t (0,0)):=by
 have:=zf (zf (zf (zf (zf (zf (zf h 0 a) 1 b) 2 c) 3 d) 4 e) 5 f) 6 g;simpa using this
structure J0 (C:Nat) (zL:List Rt.PL) (ls:List (List ByteArray)) (S:Rt.Src) (cap:Int) (len n low:Nat) (mk:List Bool) (Y Y':iQ) (w w':World):Prop where
 aC:Ds C zL ls S cap len n low mk Y Y' w w'
 F4:vd w (Ev C Y) (Ev C Y')
section
variable {w w1 w2:World} {C:Nat} {zL:List Rt.PL} {ls:List (List ByteArray)} {S:Rt.Src} {cap:Int} {len n low len2 n2 low2:Nat} {mk mk2:List Bool} {Y Y1 Y2:iQ}
theorem J0.below (h:vg w C zL ls S cap len n low mk Y) (d:Below w.heap.size w w1):J0 C zL ls S cap len n low mk Y Y w w1:=
 ⟨⟨h.zP d,VM.jQ _ d,fun _ hk=>Or.inl hk⟩,vd.refl _ _⟩
theorem J0.trans (h:J0 C zL ls S cap len n low mk Y Y1 w w1) (h2:J0 C zL ls S cap len2 n2 low2 mk2 Y1 Y2 w1 w2):J0 C zL ls S cap len2 n2 low2 mk2 Y Y2 w w2:=
 ⟨⟨h2.aC.cur,h.aC.vz.trans h2.aC.vz h.F4,fun k hk=>by
  rcases h2.aC.own k hk with e | e
  ·exact h.aC.own k e
  ·exact Or.inr (zi h.aC.vz.size e)⟩,h.F4.trans h2.F4 h.aC.vz.size⟩
theorem vg.Fp (h:vg w C zL ls S cap len n low mk Y) (i:Nat) (v:Value) (e:(Du Y cap n low).setIfInBounds i v=Du Y cap n2 low2):J0 C zL ls S cap len n2 low2 mk Y Y w (w.setCell ⟨C,i,none⟩ v):=by
 have d:∀k,k≠C->(w.setCell ⟨C,i,none⟩ v).heap[k]?=w.heap[k]?:=fun k hk=>zO w ⟨C,i,none⟩ _ k hk;have o:qm w C 109:=⟨_,h.block⟩;have f:∀{t:TypeId} {z m:Nat} {v:Value} {xs:List Value},w.ownsRow 0 t z v m xs->t≠109->∀q,v.ownBlock=some q->q≠C:=fun hr ht q hq e=>ht (qm.uG (yW hr hq) (by rw[e];exact o));have x:=zf h.block i v;refine⟨⟨⟨?_,h.src.stay (fun k t ht hk=>d k (fun e=>hk.ne o (by rcases ht with rfl | rfl | rfl <;> decide) e)),yP h.qo (fun q hq=>d q (f h.qo (by decide) q hq)),yP h.tr (fun q hq=>d q (f h.tr (by decide) q hq)),h.xl,fun j hj=>?_,yP h.oH (fun q hq=>d q (f h.oH (by decide) q hq)),yP h.Yw (fun q hq=>d q (f h.Yw (by decide) q hq)),h.iP⟩,⟨rfl,rfl,rfl,by simp[World.setCell],fun k _ hn=>d k (fun e=>hn (by rw[e];exact xB ..))⟩,fun k hk=>Or.inl hk⟩,vd.refl _ _⟩
 ·rw[<-e];exact x
 ·have hq:=h.GV j hj;exact⟨⟨fun r hr=>yP (hq.own.rows r hr) (fun q hq2=>d q (f (hq.own.rows r hr) (by rcases Yr hr with e | e | e <;> rw[e] <;> decide) q hq2)),hq.own.apart⟩,hq.fl,hq.cl,hq.new⟩
theorem Ac {rv:Value} {xs:List Qg} {a b:Nat} (f:w.heap.size<=a) (d:w.heap.size<=b) (hat:∀g,tv.ownBlock=some g->Y.tv.ownBlock=some g\/a<=g) (hat2:∀g,rv.ownBlock=some g->Y.rv.ownBlock=some g\/b<=g):vd w (Ev C Y) (Ev C { Y with tv:=tv,rv:=rv,xs:=xs }):=by
 intro k hk;have ot:∀{o:Option Nat} {g:Nat},g∈o.toList->o=some g:=fun hg=>by simpa using hg
 rcases zw.mp hk with rfl | hk
 ·exact Or.inl (xB ..)
 ·rcases zd.mp hk with hk | hk
  ·rcases zd.mp hk with hk | hk
   ·rcases hat k (ot hk)with e | e
    ·exact Or.inl (zm _ (zY _ (zY _ (YY e))))
    ·exact Or.inr (by omega)
   ·rcases hat2 k (ot hk)with e | e
    ·exact Or.inl (zm _ (zY _ (zb _ (YY e))))
    ·exact Or.inr (by omega)
  ·exact Or.inl (zm _ (zb _ hk))
theorem nU {ps:List Rt.PL} (f:Rf.Ctx ps zL ls S) (d:S.input.length<=100):∀n,(∀i,i < n->(Rt.atM S i).fin=0)->Rf.KA ps zL ls S (Rt.atM S n)
 | 0,_=>(gU f).1
 | n+1,h=>A9 f (nU f d n (fun i hi=>h i (by omega))) (h n (by omega)) d
end
theorem Ca {w1 w2 w3:World} (h:vg w C zL ls S cap len n low mk Y) (x:Below w.heap.size w w1) (o:w1.grownBy w2 Y.tv.ownBlock) (d:Below (w2.setCell ⟨C,3,none⟩ tv).heap.size (w2.setCell ⟨C,3,none⟩ tv) w3):w3.heap[C]?=some (.cells (Du { Y with tv:=tv } cap n low) 109 (0,0))/\w3.ownsRow 0 3 1 Y.rv len (xR (sC S len))/\w.heap.size<=w3.heap.size:=by
 have i:=zQ h.block;have D:=x.size;have A:=o.size;have z:w2.heap.size<=w3.heap.size:=by have:=d.size;simpa[World.setCell] using this
 have j:qm w C 109:=⟨_,h.block⟩;have y:w2.heap[C]?=some (.cells (Du Y cap n low) 109 (0,0)):=(o.block C (by omega) (fun e=>by have:=j.uG (yW h.tr e.symm);exact absurd this (by decide))).trans ((x.block C i).trans h.block);refine⟨?_,yP h.oH (fun k e=>?_),by omega⟩
 ·have:=zU (zf y 3 tv) d;simpa[Du] using this
 ·have F:=(h.oH.lt k e).2;have f:qm w k 3:=yW h.oH e;rw[d.block k (by simp[World.setCell];omega),zO w2 ⟨C,3,none⟩ _ k (fun e2=>absurd (f.uG (by rw[show k=C from e2];exact j)) (by decide)),o.block k (by omega) (fun e2=>absurd (f.uG (yW h.tr e2.symm)) (by decide))];exact x.block k F
def pC (w:World) (C:Nat):Nat:=match w.cell? ⟨C,6,none⟩with
 | some (.int _ k)=>k.toNat
 | _=>0
theorem pB (h:vg w C zL ls S cap len n low mk Y):pC w C=low:=by
 unfold pC;rw[(xH h.block).2.2.2.2.2.2.1];rfl
theorem fS (S:Rt.Src):∀(lo d k:Nat),(xT S (lo+d) k).length<=(xT S lo (k+d)).length
 | _,0,_=>zB _
 | lo,d+1,k=>by
  have f:=fS S (lo+1) d k;rw[show lo+1+d=lo+(d+1) by omega]at f;rw[show k+(d+1)=(k+d)+1 by omega,YT,ze];omega
section
variable {C:Nat} {ps zL:List Rt.PL} {ls:List (List ByteArray)} {S:Rt.Src} {cap:Int} {len n low:Nat} {mk:List Bool} {Y:iQ}
theorem Fv (h:vg w C zL ls S cap len n low mk Y) (hn:n<=len) (hx:Rf.Ctx ps zL ls S) (hP:Be S) (a6:VK S cap n low) (hz:(Rt.atM S n).fin=0) (hc:0<=cap/\cap<=500) (hl:len < 1000000000000):Calls Tryz.prog 112 #[.pointer (some ⟨C,0,none⟩)] w fun e w'=>e=.returned (.tuple #[])/\∃Y',J0 C zL ls S cap (max len (n+1)) (n+1) (ik S cap n low) mk Y Y' w w':=by
 have hF:=nU hx hP.input n a6.run;have hK:=hP.qT n;have g4:=hP.input;obtain⟨g,c,X,hX,d6,hq,Z⟩:=h.cells hn;obtain⟨c0,c1,c2,c3,c4,c5,c6,c7⟩:=xH h.block;rw[d6]at c3;obtain⟨f9,b9,f5⟩:=zK h.qo;rw[f5]at c1;have l5:IntKind.i64.wrap ((n:Int)+1)=(n:Int)+1:=zl _ ⟨by omega,by omega⟩;have l8:(0:Int)<=(n:Int):=by omega
 have l7:(n:Int) < (len:Int)+1:=by omega
 obtain⟨xa,xc,ya,yc,za,zc,oa,oc,f1,f2,f3,f4⟩:=hq.ZX;have f0:jh X.fv X.vv X.cv X.ov (ZN zL S n)=#[.slice xa (ZN zL S n).zH.length xc,.slice ya (ZN zL S n).vars.length yc,.slice za (ZN zL S n).cells.length zc,.int .i64 (ZN zL S n).read,.slice oa (ZN zL S n).out.length oc,.int .i64 (ZN zL S n).line,.int .i64 (ZN zL S n).fin]:=by rw[f1,f2,f3,f4];rfl
 have t0:=Z 0 (by omega);have t1:=Z 1 (by omega);have t2:=Z 2 (by omega);have t3:=Z 3 (by omega);have t4:=Z 4 (by omega);have t5:=Z 5 (by omega);have t6:=Z 6 (by omega);simp only[f0,yQ,zv,yH,qO]at t0 t1 t2 t3 t4 t5 t6;have O:=DA h hX d6 hq f0;have f7:=XX a6 hP hc;clear h hX Z d6 hq f0 f1 f2 f3 f4 a6 hP;go_enter func112,ntmps112;go_wp2_with fail;go_quiet (fail);have i:Below w.heap.size w (w.drewN nq):=below_drewN _ _;generalize w.drewN nq=w0 at *;go_upto_if 15 with (fail);go_cut [] (fun wx=>∃Y2,J0 C zL ls S cap (max len (n+1)) n low mk Y Y2 w wx)
 case first=>
  by_cases hnl:n=len
  case neg=>
   have m9:((n:Int)+1==(len:Int)+1)=false:=by rw[zV];omega
   have V:=zD i;clear i;go_wp2_with fail;go_meet
   case rel=>
    refine⟨Y,?_⟩;rw[Nat.max_eq_left (by omega)];exact J0.below O.u.1 V.u
  case pos=>
   subst hnl;have c0:=cell_later i c0;have c1:=cell_later i c1;have c3:=cell_later i c3;have c5:=cell_later i c5;have t0:=cell_later i t0;have t1:=cell_later i t1;have t2:=cell_later i t2;have t3:=cell_later i t3;have t4:=cell_later i t4;have t5:=cell_later i t5;have t6:=cell_later i t6;have f6:Hd (∀W,Below w.heap.size w W->Calls Tryz.prog 55 #[.pointer (some ⟨Y.sb,0,none⟩),.agg #[.slice xa (ZN zL S n).zH.length xc,.slice ya (ZN zL S n).vars.length yc,.slice za (ZN zL S n).cells.length zc,.int .i64 (ZN zL S n).read,.slice oa (ZN zL S n).out.length oc,.int .i64 (ZN zL S n).line,.int .i64 (ZN zL S n).fin],.slice f9 S.input.length b9] W (Y6 (ZN zL S (n+1)) ((ku S n).length:Nat) W)):=zD (fun W hW=>by
    obtain⟨h1,h2,h3,h4,h5⟩:=O.u;rw[<-h5,<-f5];exact Bw hx hF hz hK g4 (h1.src.zP hW) ((h4.zP hW).val (Rf.Y4 hx hF).ok.some (by have:=(Rf.Y4 hx hF).ok.cells;show 0 < (Rf.yT zL (Rt.atM S n)).cells.length;omega)) (YX (yG h1.qo hW)))
   have n0:=zQ O.u.1.block;have l9:g < w.heap.size:=(O.u.1.tr.lt g (by rw[O.u.2.2.1];rfl)).2;have l6:=i.size;have m1:¬C=w0.heap.size:=by omega
   have m2:¬w0.heap.size=C:=by omega
   have m3:¬g=w0.heap.size:=by omega
   have m4:¬w0.heap.size=g:=by omega
   have V:=zD i;clear i c2 c4 c6 c7 f5;generalize hP:ZN zL S n=p at *;generalize g6:ZN zL S (n+1)=p1 at *;go_wp2_with fail;go_cut [2,3] (fun p k wx=>∃(A:Nat) (X1:Qg),p=.pointer (some ⟨A,0,none⟩)/\k=.int .i64 ((ku S n).length:Nat)/\Below w.heap.size w wx/\w.heap.size<=A/\wx.heap[A]?=some (.cells (jh X1.fv X1.vv X1.cv X1.ov p1) 72 (0,0))/\Xd wx w.heap.size p1 X1)
   case first=>
    have b5:Hd (Below w0.heap.size w0 (w0.alloc (.cells #[.slice none 0 0,.slice none 0 0,.slice none 0 0,.int .i64 0,.slice none 0 0,.int .i64 0,.int .i64 0] 72)).drew/\(w0.alloc (.cells #[.slice none 0 0,.slice none 0 0,.slice none 0 0,.int .i64 0,.slice none 0 0,.int .i64 0,.int .i64 0] 72)).drew.heap[w0.heap.size]?=some (.cells #[.slice none 0 0,.slice none 0 0,.slice none 0 0,.int .i64 0,.slice none 0 0,.int .i64 0,.int .i64 0] 72 (0,0))):=
     qG (by
      have hb:=(zI w0.heap.size w0).alloc (zB _) (.cells #[.slice none 0 0,.slice none 0 0,.slice none 0 0,.int .i64 0,.slice none 0 0,.int .i64 0,.int .i64 0] 72);exact hb.trans ((zh _).mono hb.size)) (zN w0 (.cells #[.slice none 0 0,.slice none 0 0,.slice none 0 0,.int .i64 0,.slice none 0 0,.int .i64 0,.int .i64 0] 72))
    go_region_held3 (fun w'=>w'.cell? ⟨C,0,none⟩=some (.pointer (some ⟨Y.sb,0,none⟩))/\w'.cell? ⟨C,1,none⟩=some (.slice f9 S.input.length b9)/\w'.cell? ⟨C,3,none⟩=some (.slice (some ⟨g,0,none⟩) (n+1) c)/\w'.cell? ⟨C,5,none⟩=some (.int .i64 n)/\w'.cell? ⟨g,n*7,none⟩=some (.slice xa p.zH.length xc)/\w'.cell? ⟨g,n*7+1,none⟩=some (.slice ya p.vars.length yc)/\w'.cell? ⟨g,n*7+2,none⟩=some (.slice za p.cells.length zc)/\w'.cell? ⟨g,n*7+3,none⟩=some (.int .i64 p.read)/\w'.cell? ⟨g,n*7+4,none⟩=some (.slice oa p.out.length oc)/\w'.cell? ⟨g,n*7+5,none⟩=some (.int .i64 p.line)/\w'.cell? ⟨g,n*7+6,none⟩=some (.int .i64 p.fin)) (go_keep) (first
     | (go_at_call 55;refine(f6.u _ (V.u.trans ((zh _).mono V.u.size))).mono ?_;rintro e w6 ⟨f,fv,vv,cv,ov,rfl,_,_,xg,kB,a5⟩;obtain⟨H,F,G,D,z,y,x,o,f1,f2,f3,f4⟩:=a5.ZX;simp only at f1 f2 f3 f4;subst f1 f2 f3 f4;have i6:=cell_later f (cell_later (zh _) c0);have i5:=cell_later f (cell_later (zh _) c1);have i4:=cell_later f (cell_later (zh _) c3);have i3:=cell_later f (cell_later (zh _) c5);have i2:=cell_later f (cell_later (zh _) t0);have i1:=cell_later f (cell_later (zh _) t1);have h9:=cell_later f (cell_later (zh _) t2);have h8:=cell_later f (cell_later (zh _) t3);have h6:=cell_later f (cell_later (zh _) t4);have h0:=cell_later f (cell_later (zh _) t5);have g9:=cell_later f (cell_later (zh _) t6);have j5:w0.heap.size<=w6.heap.size:=f.size;have y1:¬C=w6.heap.size:=(by omega);have y2:¬w6.heap.size=C:=(by omega);have y3:¬g=w6.heap.size:=(by omega);have y4:¬w6.heap.size=g:=(by omega);have HQ:=qG f a5;clear f a5;unfold jh)
     | (go_at_call 55;refine(f6.u _ (V.u.trans (b5.u.1.mono V.u.size))).mono ?_;rintro e w6 ⟨f,fv,vv,cv,ov,rfl,_,_,xg,kB,a5⟩;obtain⟨H,F,G,D,z,y,x,o,f1,f2,f3,f4⟩:=a5.ZX;simp only at f1 f2 f3 f4;subst f1 f2 f3 f4;have L:=b5.u.1;have i6:=cell_later f (cell_later L c0);have i5:=cell_later f (cell_later L c1);have i4:=cell_later f (cell_later L c3);have i3:=cell_later f (cell_later L c5);have i2:=cell_later f (cell_later L t0);have i1:=cell_later f (cell_later L t1);have h9:=cell_later f (cell_later L t2);have h8:=cell_later f (cell_later L t3);have h6:=cell_later f (cell_later L t4);have h0:=cell_later f (cell_later L t5);have g9:=cell_later f (cell_later L t6);obtain⟨o0,o1,o2,o3,o4,o5,o6⟩:=seven (zU b5.u.2 f);have oz:=zS (zU b5.u.2 f);have k5:=qG f a5;clear f a5 L;unfold jh))
    ·go_wp2_with fail;go_meet
     case rel=>
      obtain⟨b6,q6⟩:=HQ.u;have hB:=V.u;have g0:w.heap.size<=w6.heap.size:=zi hB.size j5;have N:Below w.heap.size w w6:=(hB.trans ((zh _).mono hB.size)).trans (b6.mono (B':=w.heap.size) hB.size);exact⟨w6.heap.size,⟨.slice H p1.zH.length F,.slice G p1.vars.length D,.slice z p1.cells.length y,.slice x p1.out.length o,xg,kB⟩,rfl,rfl,N.alloc g0 _,g0,zN w6 (.cells (G5 H F G D z y x o p1) 72),(q6.zP ((zI w6.heap.size w6).alloc (zB _) (.cells (G5 H F G D z y x o p1) 72))).mono hB.size⟩
    ·go_wp2_with fail;go_meet
     case rel=>
      obtain⟨b6,q6⟩:=k5.u;have hB:=V.u;obtain⟨a1,a2⟩:=b5.u;have N:Below w.heap.size w w6:=(hB.trans (a1.mono hB.size)).trans (b6.mono (B':=w.heap.size) (zi hB.size a1.size));have a0:=zU a2 b6;have h7:=Xd.w7 (q6.mono (B':=w.heap.size) (zi hB.size a1.size)) a0 N hB.size (.slice H p1.zH.length F) (.slice G p1.vars.length D) (.slice z p1.cells.length y) (.int .i64 p1.read) (.slice x p1.out.length o) (.int .i64 p1.line) (.int .i64 p1.fin);exact⟨w0.heap.size,⟨.slice H p1.zH.length F,.slice G p1.vars.length D,.slice z p1.cells.length y,.slice x p1.out.length o,xg,kB⟩,rfl,rfl,h7.2,hB.size,GK a0 (.slice H p1.zH.length F) (.slice G p1.vars.length D) (.slice z p1.cells.length y) (.int .i64 p1.read) (.slice x p1.out.length o) (.int .i64 p1.line) (.int .i64 p1.fin),h7.1⟩
   case rest=>
    obtain⟨A,X1,rfl,rfl,J,k4,a0,d9⟩:=hcut;obtain⟨H,F,G,D,z,y,x,o,f1,f2,f3,f4⟩:=d9.ZX;have a4:=a0;unfold jh at a4;rw[f1,f2,f3,f4]at a4;obtain⟨o0,o1,o2,o3,o4,o5,o6⟩:=seven a4;have d0:jh X1.fv X1.vv X1.cv X1.ov p1=(G5 H F G D z y x o p1):=by unfold jh;rw[f1,f2,f3,f4]
    have e3:=cell_later J (xH O.u.1.block).2.2.2.1;rw[O.u.2.2.1]at e3;have n1:=zS (zU O.u.1.block J) 3;have j4:=J.size;have m5:¬C=wc.heap.size:=by omega
    have m6:C < wc.heap.size:=by omega
    have n4:=cell_later ((zI wc.heap.size wc).alloc (zB _) (.cells (G5 H F G D z y x o p1) 72)) e3;have HO:=zD (yG O.u.1.tr J);have l1:=zD (zU O.u.1.block J);have k2:some C≠Y.tv.ownBlock:=fun e=>by
     have:=(show qm w C 109 from⟨_,O.u.1.block⟩).uG (yW O.u.1.tr e.symm);exact absurd this (by decide)
    have HN:=gN J k4 d9 d0;clear J a0 d9 a4 f1 f2 f3 f4 d0 c0 c1 c3 c5 t0 t1 t2 t3 t4 t5 t6 m1 m2 m3 m4 f6 V;obtain⟨j0,j9,j3,j2,j1⟩:=yi lq;go_wp2_with fail;go_cut [] (fun wx=>∃(wA w2:World) (tv:Value),Below w.heap.size w wA/\Xd wA w.heap.size p1 X1/\wA.grownBy w2 Y.tv.ownBlock/\w2.ownsRow 0 72 7 tv (n+2) (trC (ZN zL S) 0 (Y.xs++[X1]))/\(∀g,tv.ownBlock=some g->Y.tv.ownBlock=some g\/wA.heap.size<=g)/\Below (w2.setCell ⟨C,3,none⟩ tv).heap.size (w2.setCell ⟨C,3,none⟩ tv) wx)
    case first=>
     go_region_law
      ((refine step_append_lies _ (by rfl) _ _ _ (by rfl) 0 72 j0 _ 7 120 underlying106 j9 j3 j2 j1 rfl (by decide) _ (n+1) (trC (ZN zL S) 0 Y.xs) (by rfl) (by rw[<-O.u.2.2.1];exact((HO.u.alloc _).drew)) ⟨wc.heap.size,0,none⟩ 1 1 [.slice H p1.zH.length F,.slice G p1.vars.length D,.slice z p1.cells.length y,.int .i64 p1.read,.slice x p1.out.length o,.int .i64 p1.line,.int .i64 p1.fin] (by rfl) (by rfl) (World.news_of_block (cs:=(G5 H F G D z y x o p1)) (t:=72) (fr:=(0,0)) (zN wc _)) (by simp[Value.oneCell']) (by omega) (by unfold maxLen;omega) (by omega) (zo _) (wc.heap.size+1) (by simp) ?_;intro g' cap' w4 T I hat g3;rw[<-O.u.2.2.1]at I hat;have b2:=(I.block C (by simp;omega) k2).trans (yR l1.u _);have q3:=(xH b2).2.2.2.1;rw[O.u.2.2.1]at q3;have z3:=zS b2 3;have k7:=XX T I hat;clear T I hat b2 g3))
     all_goals
      go_wp2_with fail;go_meet
      case rel=>
       obtain⟨T,I,hat⟩:=k7.u;have hb:=HN.u.1.alloc j4 (.cells (G5 H F G D z y x o p1) 72);have k1:=(zI wc.heap.size wc).alloc (zB _) (.cells (G5 H F G D z y x o p1) 72);refine⟨_,w4,.slice (some ⟨g',0,none⟩) (n+1+1) cap',hb.trans ((zh _).mono hb.size),(HN.u.2.2.1.zP k1).zP (zh _),I,?_,fun q e=>?_,by first | exact zI _ _ | exact zh _⟩
       ·rw[np,O.u.1.xl,xW,g6,HN.u.2.2.2];exact T
       ·simp[Value.ownBlock]at e;subst e;rcases hat with e | e
        ·exact Or.inl e
        ·exact Or.inr (by rw[e];simp)
    case rest=>
     obtain⟨wA,w2,tv,N,a9,b0,U,a3,a7⟩:=hcut;obtain⟨b3,M,d7⟩:=Ca O.u.1 N b0 a7;obtain⟨l3,l2,d8⟩:=zK M;have r4:=(xH b3).2.2.2.2.1;have b7:=(zI wc.heap.size wc).alloc (zB _) (.cells #[.int .i64 ((ku S n).length:Nat)] 3);have d4:=cell_later b7 r4;have n3:=zQ b3;have m7:¬C=wc.heap.size:=by omega
     have k3:some C≠Y.rv.ownBlock:=fun e=>by
      have:=(show qm w C 109 from⟨_,O.u.1.block⟩).uG (yW O.u.1.oH e.symm);exact absurd this (by decide)
     try simp only at r4 d4
     have HR:=qG M d8;have HM:=hd8 N a9 b0 U a3 a7 b3 d7;rw[d8]at r4 d4 M;obtain⟨i0,k0,i9,i8,i7⟩:=yi eU;clear N a9 b0 U a3 a7 b3 d7 d8 b7;go_wp2_with (at_builtin;refine wpList_append_lies _ rfl _ _ 24 rfl 0 3 i0 _ 1 8 underlying24 k0 i9 i8 i7 rfl (by decide) _ _ _ rfl (M.alloc _) ⟨wc.heap.size,0,none⟩ 1 1 [.int .i64 ((ku S n).length:Nat)] rfl rfl (cell_one_new _ _ _) (by simp[Value.oneCell']) (by omega) (by unfold maxLen;omega) (by omega) (zo _) (wc.heap.size+1) (by simp) ?_);intro g5 d3 w5 R j hat5 g2;rw[<-HR.u.2]at j hat5;have b1:=(j.block C (by simp;omega) k3).trans (yR HM.u.2.2.2.2.2.2.1 _);have q4:=(xH b1).2.2.2.2.1;have z4:=zS b1 4
     try simp only at q4
     rw[HR.u.2]at q4;have k6:=XX R j hat5;clear R j hat5 b1 g2 r4 d4 M;go_wp2_with fail;go_meet
     case rel=>
      obtain⟨R,j,hat5⟩:=k6.u;obtain⟨N,a9,b0,U,a3,a7,b3,d7⟩:=HM.u;have b7:=(zI wc.heap.size wc).alloc (zB _) (.cells #[.int .i64 ((ku S n).length:Nat)] 3);have j6:=a7.size;have d2:∀q,(Value.slice (some ⟨g5,0,none⟩) (n+1) d3).ownBlock=some q->Y.rv.ownBlock=some q\/(wc.alloc (.cells #[.int .i64 ((ku S n).length:Nat)] 3)).heap.size<=q:=fun q e=>by
       simp[Value.ownBlock]at e;subst e;rcases hat5 with e | e
       ·exact Or.inl e
       ·exact Or.inr (by rw[e];simp)
      refine⟨{ Y with tv:=tv,rv:=.slice (some ⟨g5,0,none⟩) (n+1) d3,xs:=Y.xs++[X1] },?_⟩;rw[Nat.max_eq_right (by omega)];rw[<-g6]at a9;refine⟨vg.more O.u.1 N a9 b0 U a3 (a7.trans (b7.mono j6)) j ?_ d2,Ac (a:=wA.heap.size) N.size (by simp;omega) a3 d2⟩;rw[wk,xR,yB];exact R
 case rest=>
  obtain⟨Y2,hA⟩:=hcut;have d5:=(xH hA.aC.cur.block).2.2.2.2.2.1;have z5:=zS hA.aC.cur.block 5;have d1:∀d,low+d<=n+1->(xT S (low+d) (n+1-(low+d))).length<=1000000:=fun d hd=>by
   obtain⟨a6,hP,hc⟩:=f7.u;have h1:=fS S low d (n+1-(low+d));have j7:=a6.le;rw[show n+1-(low+d)+d=(n-low)+1 by omega,xT,ze,show low+(n-low)=n by omega]at h1;have h2:=a6.room;obtain⟨_,q1,q2⟩:=Kw hP.call (hP.par n);have q3:=q2 hz;have e:(ku S n).length=(Rt.qd S (Rt.atM S n)).2.length:=rfl;omega
  have HN:=zD d1;have HA:=zD (hA.trans (hA.aC.cur.Fp (n2:=n+1) (low2:=low) 5 (.int .i64 ((n:Int)+1)) rfl));clear hA d1 t0 t1 t2 t3 t4 t5 t6 c0 c1 c2 c3 c4 c5 c6 c7 i hF hK g4;go_wp2_with fail;generalize wc.setCell ⟨C,5,none⟩ (.int .i64 ((n:Int)+1))=w5 at *;clear d5 z5;go_loopw [] (fun wr=>∃(d:Nat) (Y3:iQ),low+d<=n+1/\Rt.lowR S cap (n+1-(low+d)) (low+d)=ik S cap n low/\J0 C zL ls S cap (max len (n+1)) (n+1) (low+d) mk Y Y3 w wr) (fun wr=>n+2-pC wr C)
  case atStart=>
   have j7:=f7.u.1.le;exact⟨0,Y2,by omega,rfl,HA.u⟩
  case round=>
   obtain⟨d,Y3,hd,g1,a8⟩:=hrel;have g8:=zD (lu a8.aC.cur (Y7 _ _) hd (by omega) (HN.u d hd));obtain⟨_,_,c2,_,_,_,c6,_⟩:=xH a8.aC.cur.block;have z6:=zS a8.aC.cur.block 6;have a4:=a8.aC.cur.block;have b4:=qG a8 g1;have l0:=zD a4;clear a8 g1 a4 z6;generalize g7:(xT S (low+d) (n+1-(low+d))).length=K at *;have f8:=zD g7;clear g7;go_wp2_with fail;refine g8.u.mono ?_;rintro e w1 ⟨rfl,J⟩;have e2:=cell_later J c2;have e6:=cell_later J c6;have z6:=zS (zU l0.u J) 6;have b8:=zD (b4.u.1.trans (J0.below b4.u.1.aC.cur J));clear J c2 c6 g8;by_cases hle:(K:Int)<=cap
   case pos=>
    go_wp2_with fail;refine zT (v:=.tuple #[]) (by simp[results,results112]) rfl ⟨rfl,Y3,?_⟩;rw[<-b4.u.2,Ah S cap (by rw[f8.u];exact hle)];exact b8.u
   case neg=>
    have l4:IntKind.i64.wrap (((low+d:Nat):Int)+1)=((low+d:Nat):Int)+1:=zl _ ⟨by omega,by omega⟩;have m0:low+d<=n:=by
     have m8:=f7.u.2.2.1;rcases bj n (low+d)with h | h
     ·exfalso;have:=f8.u;rw[show n+1-(low+d)=0 by omega,xT]at this;simp at this;omega
     ·exact h
    go_wp2_with fail;go_roundw
    case rel=>
     refine⟨d+1,Y3,by omega,?_,b8.u.trans (b8.u.aC.cur.Fp (n2:=n+1) (low2:=low+(d+1)) 6 _ rfl)⟩;rw[<-b4.u.2];obtain⟨k,hk⟩:∃k,n+1-(low+d)=k+1:=⟨n-(low+d),by omega⟩;have j8:=f8.u;rw[hk]at j8 ⊢;rw[show n+1-(low+(d+1))=k by omega];show _=Rt.lowR S cap (k+1) (low+d);rw[Rt.lowR,zE (by omega)];rfl
    case measure=>
     show n+2-pC _ C < n+2-pC wr C;have f:=(b8.u.aC.cur.Fp (n2:=n+1) (low2:=low+(d+1)) 6 (.int .i64 ((low:Int)+(d:Int)+1)) rfl).aC.cur;rw[pB f,pB b4.u.1.aC.cur];omega
end
namespace Rt
theorem lW {S:Src} {i:Nat}:JI S cap (i+1) n low=ik S cap (n+i) (JI S cap i n low):=by
 rw[lX S cap i 1 n low];rfl
theorem VK.iP {S:Src} {cap:Int} {n low:Nat} (h:VK S cap n low) (d:0<=cap):∀i,(∀k,k < i->(atM S (n+k)).fin=0)->VK S cap (n+i) (JI S cap i n low)
 | 0,_=>h
 | i+1,hz=>by
  rw[lW];exact(h.iP d i (fun k hk=>hz k (by omega))).step d (hz i (by omega))
end Rt
theorem GI {q:Nat} (d:Rf.Ctx ps zL ls S) (i:Rf.KA ps zL ls S (Rt.atM S q)) (x:Yw.length=101):∃(l:Nat) (b:Bool),(Rt.atM S q).line=(l:Int)/\(Yw.take (ls.length+1))[l]?=some b/\∀low kind d0 mv,jS (XY S q low Yw) kind d0 mv=if mv=0 then 0 else if kf kind d0 (Rt.atM S q).zH.length=true then 1 else if b=true then 2 else 0:=by
 obtain⟨l,j,f,_⟩:=i.line;have y:l < ls.length:=by rw[<-d.len];exact j
 have h:=d.law.len;refine⟨l+1,Yw[l+1]'(by omega),f,?_,fun low kind d0 mv=>?_⟩
 ·rw[List.getElem?_take_of_lt (by omega),zJ]
 ·unfold jS Qk;have o:(XY S q low Yw).m=Rt.atM S q:=rfl;have k:(XY S q low Yw).marks=Yw:=rfl;rw[o,k,f,show ((l:Int)+1).toNat=l+1 by omega,zJ (by omega),qA (by omega)];simp
namespace Rt
theorem ta (S:Src) (i:List Bool) (d f j:Int) (n k:Nat):(¬(atM S n).fin=0->Qq S i d f j n k=3)/\((atM S n).fin=0->¬jS (XY S n 0 i) d j k=0->Qq S i d f j n k=jS (XY S n 0 i) d j k)/\((atM S n).fin=0->jS (XY S n 0 i) d j k=0->(f<=k->Qq S i d f j n k=4)/\(¬f<=k->Qq S i d f j n k=0)):=by
 have e:(XY S n 0 i).m=atM S n:=rfl;unfold Qq kq;rw[e];refine⟨fun h=>zE h,fun h h2=>?_,fun h h2=>⟨fun h3=>?_,fun h3=>?_⟩⟩
 ·rw[zA (kW h),zA (fun hh=>h2 hh.1)]
 ·rw[zA (kW h),zE ⟨h2,h3⟩]
 ·rw[zA (kW h),zA (fun hh=>h3 hh.2),h2]
end Rt
section
variable {C:Nat} {ps zL:List Rt.PL} {ls:List (List ByteArray)} {S:Rt.Src} {cap:Int} {len n low:Nat} {Y:iQ}
def G1 (C:Nat) (zL:List Rt.PL) (ls:List (List ByteArray)) (S:Rt.Src) (cap:Int) (mk:List Bool) (Y:iQ) (len n low k:Nat) (rs:Int) (w:World) (e:Ending) (w':World):Prop:=
 e=.returned (.tuple #[.int .i64 rs,.int .i64 (k:Int),.int .i64 0])/\∃Y',J0 C zL ls S cap len n low mk Y Y' w w'
theorem DX (h:vg w C zL ls S cap len n low (Yw.take (ls.length+1)) Y) (hn:n<=len) (hx:Rf.Ctx ps zL ls S) (hP:Be S) (R:VK S cap n low) (hc:0<=cap/\cap<=500) (hm:Yw.length=101) (hl:len+1001 < 1000000000000) (d:Int) (fuel:Nat) (b3:0<=d/\d<=3) (b5:fuel<=1000):Calls Tryz.prog 66 #[.pointer (some ⟨C,0,none⟩),.int .i64 d,.int .i64 fuel] w (G1 C zL ls S cap (Yw.take (ls.length+1)) Y (max len (Rt.fwdN S Yw d fuel (Rt.atM S n).zH.length (fuel+1) n 0).1) (Rt.fwdN S Yw d fuel (Rt.atM S n).zH.length (fuel+1) n 0).1 (JI S cap ((Rt.fwdN S Yw d fuel (Rt.atM S n).zH.length (fuel+1) n 0).1-n) n low) (Rt.fwdN S Yw d fuel (Rt.atM S n).zH.length (fuel+1) n 0).2.1 (Rt.fwdN S Yw d fuel (Rt.atM S n).zH.length (fuel+1) n 0).2.2 w):=by
 obtain⟨y,M⟩:∃y,y=(Rt.atM S n).zH.length:=⟨_,rfl⟩;rw[<-M];obtain⟨j,h1,h2,h3,h4⟩:=dC S Yw d fuel y (fuel+1) n 0 (by omega) (by omega);rw[h1];simp only[xW]at h2 h3 h4 ⊢;rw[show n+j-n=j by omega];clear h1;have hz:∀i,i < j->(Rt.atM S (n+i)).fin=0:=fun i hi=>(Xo (h4 i hi)).1;have G:∀i,i<=j->VK S cap (n+i) (JI S cap i n low):=fun i hi=>R.iP hc.1 i (fun k hk=>hz k (by omega));have F:∀i,i<=j->Rf.KA ps zL ls S (Rt.atM S (n+i)):=fun i hi=>nU hx hP.input (n+i) (G i hi).run;have J:Q2 d fuel=0:=by unfold Q2;rw[zA (by omega),zA (by omega)]
 have HC:=zD (uW d fuel);rw[J]at HC;obtain⟨g,c,X,hX,z,hq,H⟩:=h.cells hn;obtain⟨c0,c1,c2,c3,c4,c5,c6,c7⟩:=xH h.block;rw[z]at c3;obtain⟨xa,xc,ya,yc,za,zc,oa,oc,f1,f2,f3,f4⟩:=hq.ZX;have t0:=H 0 (by omega);simp only[jh,yQ,zv,qO]at t0;rw[f1,show (ZN zL S n).zH.length=y from (Rf.XD _ _ _).trans M.symm]at t0;have a6:(0:Int)<=(n:Int):=by omega
 have a5:(n:Int) < (len:Int)+1:=by omega
 have L:=hd7 h hx hP G F h3 h4;clear h hX H z hq f1 f2 f3 f4 R J M hz G F h3 h4 hx hP c0 c1 c2 c4 c6 c7;go_enter func66,ntmps66;go_wp2_with fail;refine(HC.u w).mono ?_;rintro e w0 ⟨rfl,O⟩;rw[O];clear O w0;go_wp2_with fail;go_quiet (fail);go_wp2_with fail;have U:Below w.heap.size w (w.drewN nq):=below_drewN _ _;generalize w.drewN nq=w0 at *;have b0:=zD U;clear U t0 c3 c5;go_loopw [11] (fun a wr=>∃(i:Nat) (Yi:iQ),i<=j/\a=.int .i64 (i:Int)/\J0 C zL ls S cap (max len (n+i)) (n+i) (JI S cap i n low) (Yw.take (ls.length+1)) Y Yi w wr) (fun a _=>j+1-(intOf a).toNat)
 case atStart=>
  refine⟨0,Y,zo _,rfl,?_⟩;rw[qO,Nat.max_eq_left hn];exact J0.below L.u.1 b0.u
 case round=>
  obtain⟨i,Yi,hi,rfl,hA⟩:=hrel;obtain⟨g,c,X,_,z,hq,H⟩:=hA.aC.cur.cells (Y7 len (n+i));obtain⟨c0,c1,c2,c3,c4,c5,c6,c7⟩:=xH hA.aC.cur.block;rw[z]at c3;have t6:=H 6 (by omega);simp only[jh,yQ,zv,yH]at t6;rw[show (ZN zL S (n+i)).fin=(Rt.atM S (n+i)).fin from rfl]at t6;obtain⟨g1,g2,g3⟩:=ta S Yw d fuel y (n+i) i;have o:¬Qq S Yw d fuel y (n+i) i=0->i=j:=fun he=>Zt fun hne=>he (L.u.2.2.2.2.2.2 i (by omega));have I:=zD hA;have T:=Y7 len (n+i);have b2:max len (n+i)<=len+1000:=by omega
  generalize f:n+i=q at *;generalize D:max len q=ln at *;have a6:(0:Int)<=(q:Int):=by omega
  have a5:(q:Int) < (ln:Int)+1:=by omega
  clear hA z hq H c0 c1 c2 c4 c6 c7;by_cases hfin:(Rt.atM S q).fin=0
  case neg=>
   have Z:=o (by rw[g1 hfin];omega);have ge:=g1 hfin;have b6:((Rt.atM S q).fin != 0)=true:=by simpa using hfin
   generalize (Rt.atM S q).fin=fn at *;subst Z;have HG:=zD ge;clear g1 g2 g3 o hfin ge;go_wp2_with fail;go_quiet (fail);go_wp2_with fail;go_ret3;refine⟨by rw[f,HG.u] <;> rfl,Yi,?_⟩;rw[f,D];exact I.u.trans (J0.below I.u.aC.cur (kT _))
  case pos=>
   rw[hfin]at t6;have HG:=XX o (g2 hfin) (g3 hfin);clear g1 g2 g3 o;go_wp2_with fail;go_quiet (fail);go_upto_if 45 with (fail);have x:Below wr.heap.size wr (wr.drewN nq):=below_drewN _ _;go_cut [] (fun wx=>jS (XY S q 0 Yw) d y i=0/\Below wr.heap.size wr wx)
   case first=>
    by_cases hi0:i=0
    case pos=>
     subst hi0;go_wp2_with fail;go_meet
     case rel=>exact⟨by unfold jS;simp,x⟩
    case neg=>
     have a7:(0:Int) < (i:Int):=by omega
     obtain⟨l,b,a1,a2,a3⟩:=GI (q:=q) L.u.2.1 (by rw[<-f];exact L.u.2.2.2.2.1 i hi) hm;have a4:=a3 0 d y i;rw[zA (by omega)]at a4;have HC:Hd (∀w1,Below wr.heap.size wr w1->Calls Tryz.prog 111 #[.pointer (some ⟨C,0,none⟩),.int .i64 d,.int .i64 (y:Int)] w1 fun e w'=>e=.returned (.int .i64 (jS (XY S q 0 Yw) d y i))/\Below w1.heap.size w1 w'):=zD (fun w1 hb1=>by rw[a4];exact DU (I.u.aC.cur.zP hb1) T d y l a1 b a2);clear a1 a2 a3 a4;generalize a8:jS (XY S q 0 Yw) d y i=A at *;clear a8;go_wp2_with fail;refine(HC.u _ x).mono ?_;rintro e w2 ⟨rfl,W⟩;have V:=x.trans (W.mono x.size);have HB3:=zD V;clear W V x;by_cases hA0:A=0
     case pos=>
      have a9:(A != 0)=false:=by simp[hA0]
      go_wp2_with fail;go_meet
      case rel=>exact⟨hA0,HB3.u⟩
     case neg=>
      have a9:(A != 0)=true:=by simpa using hA0
      go_wp2_with fail;go_ret3;obtain⟨N,s2,s3⟩:=HG.u;have he:=s2 hA0;have Z:=N (by rw[he];exact hA0);subst Z;refine⟨by rw[f,he] <;> rfl,Yi,?_⟩;rw[f,D];exact I.u.trans (J0.below I.u.aC.cur HB3.u)
   case rest=>
    obtain⟨ha,hb⟩:=hcut;obtain⟨N,_,s3⟩:=HG.u;obtain⟨s4,s5⟩:=s3 ha;have HB:=zD hb;clear x hb t6 c3 c5;by_cases hif:i=fuel
    case pos=>
     have he:=s4 (by omega);have Z:=N (by rw[he];omega);subst hif;clear N s3 s4 s5;go_wp2_with fail;go_ret3;subst Z;refine⟨by rw[f,he] <;> rfl,Yi,?_⟩;rw[f,D];exact I.u.trans (J0.below I.u.aC.cur HB.u)
    case neg=>
     have b4:i < j:=by
      rcases bj i j with h | h
      ·exact h
      ·have:i=j:=by omega
       subst this;exact absurd (s5 (by omega)) (by rw[<-f];exact L.u.2.2.2.2.2.1)
     have a7:((i:Int)==(fuel:Int))=false:=by rw[zV];omega
     have a0:=zD (Fv (I.u.aC.cur.zP HB.u) T L.u.2.1 L.u.2.2.1 (by have:=L.u.2.2.2.1 i hi;rw[f]at this;exact this) hfin hc (by omega));clear N s3 s4 s5;go_wp2_with fail;refine a0.u.mono ?_;rintro e w3 ⟨rfl,Y',hM⟩;have HM:=zD hM;clear hM a0;have b1:IntKind.i64.wrap ((i:Int)+1)=(i:Int)+1:=zl _ ⟨by omega,by omega⟩;go_wp2_with fail;go_roundw
     case rel=>
      refine⟨i+1,Y',by omega,by go_num,?_⟩;have e1:n+(i+1)=q+1:=by omega
      have e2:max len (q+1)=max ln (q+1):=by omega
      rw[e1,e2,lW,f];exact(I.u.trans (J0.below I.u.aC.cur HB.u)).trans HM.u
     case measure=>simp[intOf];omega
end
end Go.Proofs.YthleadfkfnnadaaGreat
