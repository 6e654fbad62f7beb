/- Run: whatever source, input and fuel. -/
import Derived.Test.YthleadfkfnnadaaGreatGnA
import Derived.Test.YthleadfkfnnadaaGreatRnC
import Derived.Test.YthleadfkfnnadaaGreatJrC
set_option maxHeartbeats 4000000
set_option maxRecDepth 100000
set_option linter.unusedSimpArgs false
namespace Go.Proofs.YthleadfkfnnadaaGreat
open Rt Go.Proofs.Tryz
open Go.RowKit
variable {s:ByteArray} {cap low idx:Int} {marks:List Bool} {qo:List Int} {zL:List Rt.PL} {tail xs:List Value} {X:ZK} {M B P n:Nat} {m:Rt.Mc} {S:Rt.Src} {ty:TypeId} {jv:Value} {w w' w2:World}
section
attribute [local go_sem ↓] Go.wp_at_zero Go.wp_at_succ
def ER (v:Int):Rt.Rec:=⟨7,0,⟨0,0⟩,v⟩
def Jj (l c:Int) (ps:List Int) (k:Nat):List Value:=xE (⟨3,l,⟨0,0⟩,c⟩::(ps.take k).map ER)
theorem cD {b:Nat} {x y:Value} {t:TypeId} (h:w.heap[b]?=some (.cells #[x,y] t (0,0))):w.cell? ⟨b,0,none⟩=some x/\w.cell? ⟨b,1,none⟩=some y:=
 ⟨by have:=zC h 0 (by simp);simpa using this,by have:=zC h 1 (by simp);simpa using this⟩
theorem sr (h:jz w M B ty tail S m X) (hm:dL S m):Calls Tryz.prog 151 #[.pointer (some ⟨M,0,none⟩)] w (eE M B ty tail S X (Vv m) w):=by
 by_cases hfl:m.zH.length < 2
 ·refine(pK h hfl).mono ?_;intro e w' ho;rw[show Vv m=Rt.ended m 1 by unfold Vv;rw[zE hfl]];exact ho
 ·obtain⟨D,f,O,Z,I,a5⟩:=gH hfl;have HL:=zD (show Vv m=⟨0,wrap64 (f.call+1),⟨3,m.line,⟨0,0⟩,f.call⟩::f.params.map ER,{ m with zH:=D }⟩ by unfold Vv;rw[zA hfl,I,a5];rfl);obtain⟨j0,b5,b2,b1,b0⟩:=yi Ej;have N:m.zH.length=D.length+1:=by rw[O];simp
  have b3:m.zH.length<=1000:=hm.zH;have d9:f.params.length<=1000:=hm.params f (by rw[O];simp);have L:=h.zH;rw[N]at L;obtain⟨f2,d5,b6⟩:=zK L;have A:=h.sR D.length (by omega);have W:m.zH[D.length]'(by omega)=f:=by simp[O]
  rw[W]at A;obtain⟨g,d4,hg,_,_,k1⟩:=yD L (Js X.xg m.zH h.fl D.length (by omega)).1;obtain⟨g',c0,V,_,_,k2⟩:=yD L (Js X.xg m.zH h.fl D.length (by omega)).2;rw[W]at k2;rw[hg]at V;simp at V;obtain⟨rfl,rfl⟩:=V;obtain⟨F,d,a3⟩:=zK A;rw[a3]at k1 A;have c2:=h.c2;rw[hg]at c2;have c6:=h.c6;have d3:=zQ h.block;have HH:=XX h hm A;have a2:=yC ((D.length:Int)+1-1) (by omega);have hw:IntKind.i64.wrap ((D.length:Int)+1-1)=(D.length:Int):=by rw[yv,a2];omega
  have d8:IntKind.i64.wrap (D.length:Int)=(D.length:Int):=by rw[yv,yC _ (by omega)]
  have h0:(0:Int)<=(D.length:Int):=by omega
  have h2:¬(D.length:Int) < 1:=by omega
  have h3:(D.length:Int) < (D.length:Int)+1:=by omega
  clear h L b6 a3 W I a5 a2;clear A hfl hm N;go_enter func151,ntmps151;go_wp2_with fail;have hbA:=((zI w.heap.size w).alloc (zB _) (.cells #[.int .i64 0,.int .i64 0,.slice none 0 0] 157)).alloc (by simp) (.cells #[.slice F f.params.length d,.int .i64 f.call] 153);have bR:=yR (zN w (.cells #[.int .i64 0,.int .i64 0,.slice none 0 0] 157)) (.cells #[.slice F f.params.length d,.int .i64 f.call] 153);have bG:=qD w (.cells #[.int .i64 0,.int .i64 0,.slice none 0 0] 157) (.cells #[.slice F f.params.length d,.int .i64 f.call] 153);have hsA:((w.alloc (.cells #[.int .i64 0,.int .i64 0,.slice none 0 0] 157)).alloc (.cells #[.slice F f.params.length d,.int .i64 f.call] 153)).heap.size=w.heap.size+2:=by simp
  revert hbA bR bG hsA;generalize (w.alloc (.cells #[.int .i64 0,.int .i64 0,.slice none 0 0] 157)).alloc (.cells #[.slice F f.params.length d,.int .i64 f.call] 153)=wA;intro hbA bR bG hsA;have d6:=(HH.u.1.zP hbA).c6;obtain⟨g0,g1⟩:=cD bG;have f1:¬M=wA.heap.size:=by omega
  have HA:=gN hbA bR bG hsA;clear hbA bR bG c2 c6 k1 k2;go_region_held3 (fun w'=>w'.cell? ⟨M,6,none⟩=some (.int .i64 m.line)/\w'.cell? ⟨w.heap.size+1,1,none⟩=some (.int .i64 f.call)) (go_keep) (fail);go_wp2_with fail;go_loopw [5,6] (fun rv i wr=>∃k:Nat,k<=f.params.length/\i=.int .i64 k/\wr.ownsRow (w.heap.size+2) 162 5 rv (k+1) (Jj m.line f.call f.params k)/\wr.heap[w.heap.size]?=some (.cells #[.int .i64 0,.int .i64 0,.slice none 0 0] 157 (0,0))/\wr.heap[w.heap.size+1]?=some (.cells #[.slice F f.params.length d,.int .i64 f.call] 153 (0,0))/\Below w.heap.size w wr)
   (fun _ i _=>f.params.length-(intOf i).toNat)
  case atStart=>
   obtain⟨q1,q2,q3,q4⟩:=HA.u;have hb:=Below.drew <| (zI wA.heap.size wA).alloc (zB _) (.cells #[.int .i64 3,.int .i64 m.line,.int .i64 0,.int .i64 0,.int .i64 f.call] 162);have Z:=lH 1 wA (w.heap.size+2) #[.int .i64 3,.int .i64 m.line,.int .i64 0,.int .i64 0,.int .i64 f.call] (by omega) rfl (by omega);rw[q4]at Z;exact⟨0,zo _,rfl,Z,zU q2 hb,zU q3 hb,q1.trans (hb.mono (B':=w.heap.size) q1.size)⟩
  case round=>
   obtain⟨k,hk,rfl,o,bR,bG,y⟩:=hrel;obtain⟨a1,U,rfl⟩:=zK o;obtain⟨g0,g1⟩:=cD bG;clear d6 hsA;by_cases hlt:k < f.params.length
   ·have a4:(k:Int) < (f.params.length:Int):=by omega
    have f0:(0:Int)<=(k:Int):=by omega
    obtain⟨b,d7,a6,_,d2,cx⟩:=yD (yG HH.u.2.2 y) (j:=k) (u:=.int .i64 f.params[k]) (by simp[xR,hlt]);simp at a6;obtain⟨rfl,rfl⟩:=a6;have HT:=zD (show Jj m.line f.call f.params (k+1)=Jj m.line f.call f.params k++[.int .i64 7,.int .i64 0,.int .i64 0,.int .i64 0,.int .i64 f.params[k]] by
     unfold Jj;rw[kI,zJ hlt,yB,<-yF];simp only[xE,List.flatMap_append];rfl)
    have b8:=zQ bR;have b9:=zQ bG;have HX:=XX bR bG y;clear bR bG y;generalize f.params[k]=x at *;go_wp2_with (at_builtin;refine wpList_append_lies _ rfl _ _ 94 rfl (w.heap.size+2) 162 j0 _ 5 40 underlying94 b5 b2 b1 b0 rfl (by decide) _ (k+1) _ rfl (o.alloc _) ⟨wr.heap.size,0,none⟩ 1 1 [.int .i64 7,.int .i64 0,.int .i64 0,.int .i64 0,.int .i64 x] rfl rfl (World.news_of_block (cs:=#[.int .i64 7,.int .i64 0,.int .i64 0,.int .i64 0,.int .i64 x]) (t:=162) (fr:=(0,0)) (zN wr _)) (by simp[Value.oneCell']) (by omega) (by unfold maxLen;omega) (by omega) (by simp;omega) (wr.heap.size+1) (by simp) ?_);intro g' cap' w4 H J b7 d1;obtain⟨bR,bG,y⟩:=HX.u;have R:Below (w.heap.size+2) wr w4:=Below.grown ((zI (w.heap.size+2) wr).alloc (by omega) _) J (by simp;omega) (fun q hq=>(o.lt q hq).1);have HF:=zD (show _/\_/\_/\_ from⟨H,(R.block _ (by omega)).trans bR,(R.block _ (by omega)).trans bG,y.trans (R.mono (B':=w.heap.size) (by omega))⟩);clear H J b7 o bR bG y R HX b8 b9;go_wp2_with fail;go_roundw
    case rel=>
     obtain⟨q1,q2,q3,q4⟩:=HF.u;exact⟨k+1,by omega,by go_num,by rw[HT.u];exact q1,q2,q3,q4⟩
    case measure=>simp[intOf];omega
   ·have a4:¬(k:Int) < (f.params.length:Int):=by omega
    have b4:k=f.params.length:=by omega
    subst b4;have d0:=zD o;go_wp2_with fail;refine(iq (HH.u.1.zP y) D f O b3).mono ?_;rintro e w5 ⟨rfl,X',a0⟩;have iP:∀k,w.heap.size<=k->k < wr.heap.size->w5.heap[k]?=wr.heap[k]?:=fun k hk1 hk2=>a0.vz.block k hk2 (fun hin=>by
     rcases zw.mp hin with e | e
     ·omega
     ·rw[<-HH.u.1.xh]at e;have:=HH.u.1.own.lt k e;omega)
    have T:=(iP _ (zB _) (zQ bR)).trans bR;have a8:=(iP _ (by omega) (zQ bG)).trans bG;have G:=yP (w':=w5) o (fun q hq=>iP q (by have:=(o.lt q hq).1;omega) (o.lt q hq).2);have a7:=Z8.from HH.u.1 y a0;obtain⟨r0,r1,r2⟩:=yb T;obtain⟨s0,s1⟩:=cD a8;have z:=zS T;have HF:=zD (fun a b c=>And.intro (a7.three T (zB _) (by unfold Xe;decide) a b c) (show (W3 w5 w.heap.size a b c).ownsRow w.heap.size 162 5 (.slice a1 (f.params.length+1) U) (f.params.length+1) (Jj m.line f.call f.params f.params.length)from yP (yn G (by omega)) (fun q hq=>iF (by have:=(G.lt q hq).1;omega))));have a9:=zD (show (⟨3,m.line,⟨0,0⟩,f.call⟩::f.params.map ER:List Rt.Rec).length=f.params.length+1/\xE (⟨3,m.line,⟨0,0⟩,f.call⟩::f.params.map ER)=Jj m.line f.call f.params f.params.length by
     unfold Jj;rw[Zp];exact⟨by simp,rfl⟩)
    clear a0 a7 T a8 G o bR bG y iP d0 g0 g1;go_wp2_with fail;refine zT (v:=.agg #[.int .i64 0,.int .i64 (wrap64 (f.call+1)),.slice a1 (f.params.length+1) U]) ?_ rfl ⟨_,_,by rw[HL.u],by rw[HL.u];exact(HF.u _ _ _).1,by rw[HL.u];show World.ownsRow _ _ _ _ _ (List.length _) _;rw[a9.u.1,a9.u.2];exact(HF.u _ _ _).2⟩;simp[results,results151,go_sem,r0,r1,r2]
theorem oJ {BB:Nat} {fm:Rt.qS} {a1 a2 a3:Option Addr} {c1 c2 c3:Nat} (h:jz w M B ty tail S m X) (j:dL S m) (J:qk w BB (Qd fm a1 a2 a3 c1 c2 c3) fm) (d:Rt.Small fm):Calls Tryz.prog 91 #[.pointer (some ⟨M,0,none⟩),.agg (Qd fm a1 a2 a3 c1 c2 c3)] w (eE M B ty tail S X (Rt.perform S m fm) w):=by
 have f:=d.each;have D:=d.index;have k:=((zI w.heap.size w).alloc (zB _) (.cells (Qd fm a1 a2 a3 c1 c2 c3) 143)).alloc (by simp) (.cells #[.int .i64 0,.int .i64 0,.slice none 0 0] 157);have L:=qD w (.cells (Qd fm a1 a2 a3 c1 c2 c3) 143) (.cells #[.int .i64 0,.int .i64 0,.slice none 0 0] 157);have x:=h.zP k;have i:=ZY J k;have N:=iX S m fm;generalize y:Rt.perform S m fm=o at *;go_enter func91,ntmps91;go_wp2_with fail
 all_goals
  first
   | (refine(Ae x j i d (by simpa using ‹(fm.kind==12)=true›)).mono ?_;rw[y])
   | (refine(nw x j i d f (by simpa using ‹(fm.kind==8)=true›)).mono ?_;rw[y])
   | (refine(setCell_any x j i d f (by simpa using ‹(fm.kind==9)=true›) D).mono ?_;rw[y])
   | (refine(AA x j i d f (by simpa using ‹(fm.kind==10)=true›)).mono ?_;rw[y])
   | (refine(sD fm a1 a2 a3 c1 c2 c3 x j (by simpa using ‹(fm.kind==11)=true›)).mono ?_;rw[y])
   | (refine(tm x j i d f (by first | exact Or.inl (by simpa using ‹(fm.kind==5)=true›)| exact Or.inr (by simpa using ‹(fm.kind==7)=true›))).mono ?_;rw[y])
   | (refine(sr x j).mono ?_;rw[<-N (by simpa using ‹(fm.kind==8)=false›) (by simpa using ‹(fm.kind==9)=false›) (by simpa using ‹(fm.kind==10)=false›) (by simpa using ‹(fm.kind==11)=false›) (by simpa using ‹(fm.kind==5)=false›) (by simpa using ‹(fm.kind==7)=false›) (by simpa using ‹(fm.kind==12)=false›)])
  (rintro e O ⟨rv,X',rfl,F,A⟩;obtain⟨ad,cp,rfl⟩:=zK A;have q:=eE.held h k L (by omega) F A;have HQ:=zD q.2;obtain⟨I,H,G⟩:=yb q.1;have z:=zS q.1;clear q F A)
  go_wp2_with fail;refine zT (v:=.agg #[.int .i64 o.fin,.int .i64 o.next,.slice ad o.YU.length cp]) ?_ rfl (HQ.u _ _ _);simp[results,results91,go_sem,I,H,G]
theorem Bx (h:jz w M B ty tail S m X) (hm:dL S m) (a5:Rt.Small (Rt.yA S.zL m.line)) (hfw:mX S.zL S.lk):Calls Tryz.prog 51 #[.pointer (some ⟨M,0,none⟩)] w (Gu M B ty tail S X m w):=by
 have c6:=h.c6;have c7:=h.c7;have HH:=zD h;have HM:=zD hm;have b1:=zQ h.block;by_cases hz:m.fin=0
 ·clear h hm;rw[hz]at c7;have V:=(zI w.heap.size w).alloc (zB _) (.cells #[.int .i64 0,.string ⟨#[]⟩,.int .i64 0,.slice none 0 0,.slice none 0 0,.slice none 0 0] 143);have b0:¬M=w.heap.size:=by omega
  have HF:=zD (show (yM S.zL m.line).form=Rt.yA S.zL m.line from Zk _ _);have HB:=zD V;have HO:=zD (zN w (.cells #[.int .i64 0,.string ⟨#[]⟩,.int .i64 0,.slice none 0 0,.slice none 0 0,.slice none 0 0] 143));clear V;go_enter func51,ntmps51;go_wp2_with fail;apply cutL (F:=fun O a0 a1 a2 a3 c0 c1 c2 c3 wy=>iH B (yM S.zL m.line).form w O a1 a2 a3 c1 c2 c3 wy)
  ·intro HT;have a7:=zD HT;clear HT;go_region_with (first | (go_at_call 90;refine(Kp m.line (HH.u.prog.zP (zh _))).mono ?_;rintro e w1 ⟨a0,a1,a2,a3,k0,L,J,I,rfl,-,f,H⟩;have hf:=VA a0 (yM S.zL m.line).yY.length k0 (yM S.zL m.line).form.kind (yM S.zL m.line).form.name (yM S.zL m.line).form.cells a1 (yM S.zL m.line).form.params.length L a2 (yM S.zL m.line).form.index.length J a3 (yM S.zL m.line).form.values.length I (yM S.zL m.line).depth (yM S.zL m.line).opener (Rt.jR S.lk m.line).1 (Rt.jR S.lk m.line).2 (yM S.zL m.line).proc;have HR:=zD (iH.one (yh H) f);clear H f)| (go_at_call 90;refine(Kp m.line (HH.u.prog.zP (HB.u.drew))).mono ?_;rintro e w1 ⟨a0,a1,a2,a3,k0,L,J,I,rfl,-,f,H⟩;have hf:=VA a0 (yM S.zL m.line).yY.length k0 (yM S.zL m.line).form.kind (yM S.zL m.line).form.name (yM S.zL m.line).form.cells a1 (yM S.zL m.line).form.params.length L a2 (yM S.zL m.line).form.index.length J a3 (yM S.zL m.line).form.values.length I (yM S.zL m.line).depth (yM S.zL m.line).opener (Rt.jR S.lk m.line).1 (Rt.jR S.lk m.line).2 (yM S.zL m.line).proc;have hO:=zU HO.u (yh H);have HR:=zD (iH.two (HB.u.trans ((yh H).mono (by simp))) hO f (zB _));obtain⟨y0,y1,y2,y3,y4,y5,z0,z1,z2,z3,z4,z5⟩:=YD hO;have yz:=zQ hO;clear H f hO))
   all_goals
    rename_i hKK;refine hKK _ _ ?_;have A:=HR.u;revert A
    first
     | (generalize w1.alloc (.cells (Qd (yM S.zL m.line).form a1 a2 a3 L J I) 143)=wy;generalize w1.heap.size=O)
     | (generalize W6 w1 w.heap.size (.int .i64 (yM S.zL m.line).form.kind) (.string (yM S.zL m.line).form.name) (.int .i64 (yM S.zL m.line).form.cells) (.slice a1 (yM S.zL m.line).form.params.length L) (.slice a2 (yM S.zL m.line).form.index.length J) (.slice a3 (yM S.zL m.line).form.values.length I)=wy;generalize w.heap.size=O)
    intro A;exact a7.u _ a0 _ _ _ k0 _ _ _ _ A
  ·intro O a0 a1 a2 a3 c0 c1 c2 c3 wy hR;have HS:=zD (show Rt.qd S m=if (Rt.perform S m (Rt.yA S.zL m.line)).fin=0 then ({ (Rt.perform S m (Rt.yA S.zL m.line)).m with line:=Rt.goOn S.zL S.lk 102 (Rt.perform S m (Rt.yA S.zL m.line)).next },(Rt.perform S m (Rt.yA S.zL m.line)).YU)else ({ m with fin:=(Rt.perform S m (Rt.yA S.zL m.line)).fin },[Rt.stay m.line]) by unfold Rt.qd;rw[zE hz]);rw[HF.u]at hR ⊢;obtain⟨x,bO,f,b3⟩:=hR;have hY:=HH.u.zP x;obtain⟨y0,y1,y2,y3,y4,y5,z0,z1,z2,z3,z4,z5⟩:=YD bO;go_wp2_with fail;refine(oJ hY HM.u f a5).mono ?_;rintro e w4 ⟨rv,X',rfl,ha,ho⟩;have a8:=zD (iZ S m (Rt.yA S.zL m.line));have HRG:=zD (iW S m (Rt.yA S.zL m.line));generalize Rt.perform S m (Rt.yA S.zL m.line)=o at *;obtain⟨ad,cp,rfl⟩:=zK ho;have d:=Z8.from HH.u x ha;have T:=yn ho x.size;have y:=(zI w4.heap.size w4).alloc (zB _) (.cells #[.int .i64 o.fin,.int .i64 o.next,.slice ad o.YU.length cp] 157);have HA5:=XX (d.below y) (yG T y) (zN w4 (.cells #[.int .i64 o.fin,.int .i64 o.next,.slice ad o.YU.length cp] 157));have a9:=zD d;have b6:M < w4.heap.size:=zX d.lt d.vz.size;have b5:¬M=w4.heap.size:=by omega
   have b4:w.heap.size<=w4.heap.size:=d.vz.size;have d7:=d.mc.c7;have d6:=d.mc.c6;have e7:=d.mc.fz 7;have e6:=d.mc.fz 6;clear ha ho d T y hY f bO y0 y1 y2 y3 y4 y5 z0 z1 z2 z3 z4 z5 c6 c7;by_cases hfn:o.fin=0
   ·replace HS:=zD (HS.u.trans (zE hfn))
    have U:(o.fin != 0)=false:=by simpa using hfn
    rw[hfn]at HA5;go_wp2_with fail;go_region_with ((go_at_call 92;refine(pW o.next (HA5.u.1.mc.prog.zP (zh _)) HM.u.zL hfw HRG.u).mono ?_;rintro e w6 ⟨rfl,j⟩;have i:=yh j;obtain⟨W,R,a4⟩:=HA5.u;have hA6:=W.below i;have ho6:=yG R i;have Z:=zU a4 i;have g6:=hA6.mc.c6;have k6:=hA6.mc.fz 6;obtain⟨r0,r1,r2⟩:=yb Z;have G:=zD (hA6.own (m':={ o.m with line:=Rt.goOn S.zL S.lk 102 o.next }) 6 (.int .i64 (Rt.goOn S.zL S.lk 102 o.next)) (by simp[xC]) rfl rfl rfl);have D:=zD (yP (w':=w6.setCell ⟨M,6,none⟩ (.int .i64 (Rt.goOn S.zL S.lk 102 o.next))) ho6 (fun g hg=>zO w6 ⟨M,6,none⟩ _ g (by have:=(ho6.lt g hg).1;show g≠M;omega)));clear W R a4 hA6 ho6 Z i j))
    all_goals
     clear d6 d7 e6 e7;go_wp2;go_ret;exact⟨_,_,rfl,by rw[HS.u];exact G.u,by rw[HS.u];exact D.u⟩
   ·replace HS:=zD (HS.u.trans (zA hfn))
    have U:(o.fin != 0)=true:=by simpa using hfn
    have a6:=a8.u hfn;have z:=a9.u;rw[a6]at z d6 d7;have hA6:=(z.own (m':={ m with fin:=o.fin }) 7 (.int .i64 o.fin) (by simp[xC]) rfl rfl rfl).below ((zI _ _).alloc (zB _) (.cells #[.int .i64 o.fin,.int .i64 o.next,.slice ad o.YU.length cp] 157));have N:((w4.setCell ⟨M,7,none⟩ (.int .i64 o.fin)).alloc (.cells #[.int .i64 o.fin,.int .i64 o.next,.slice ad o.YU.length cp] 157)).heap.size=w4.heap.size+1:=by simp[World.setCell]
    have G:=zD (hA6.below ((zI _ _).alloc (zB _) (.cells #[.int .i64 1,.int .i64 m.line,.int .i64 0,.int .i64 0,.int .i64 0] 162)));have k:=lH 1 ((w4.setCell ⟨M,7,none⟩ (.int .i64 o.fin)).alloc (.cells #[.int .i64 o.fin,.int .i64 o.next,.slice ad o.YU.length cp] 157)) w.heap.size #[.int .i64 1,.int .i64 m.line,.int .i64 0,.int .i64 0,.int .i64 0] (hA6.vz.size) rfl (by omega);rw[N]at k;have D:=zD k;clear z hA6 k N;go_wp2;go_ret;exact⟨_,_,rfl,by rw[HS.u];exact G.u,by rw[HS.u];exact D.u⟩
 ·have b2:(m.fin != 0)=true:=by simpa using hz
  have HS:=zD (show Rt.qd S m=(m,[]) by unfold Rt.qd;rw[zA hz]);clear h hm;go_enter func51,ntmps51;go_wp2;go_ret;exact⟨_,X,rfl,by rw[HS.u];exact Z8.start HH.u (zI _ _),by rw[HS.u];exact zW _ _ _ _⟩
theorem dD (P:List Rt.PL) (n:Int):Rt.yA P n=Rt.zF\/∃p∈P,Rt.yA P n=p.form:=by
 unfold Rt.yA;split
 ·exact Or.inl rfl
 ·cases e:P[n.toNat]? with
  | none=>exact Or.inl rfl
  | some p=>exact Or.inr ⟨p,qF e,rfl⟩
theorem ui (h:Rt.qx s=(0,0,zL)) (x:qo.length<=100):Good (Zs s zL qo):=by
 obtain⟨y,k,_⟩:=QH h;have d:∀p∈(Zs s zL qo).zL,Rt.Small p.form:=fun p hp=>by
  obtain⟨q,o,rfl⟩:=xr.mp hp;exact y q o
 refine⟨fun n=>?_,oE h,?_⟩
 ·rcases dD (Zs s zL qo).zL n with e | ⟨p,hp,e⟩
  ·rw[e];exact eN
  ·rw[e];exact d p hp
 ·refine⟨by simpa[Zs] using k,x,by simp[Rt.firstM],by simpa[Rt.firstM,Zs] using k,by simp[Rt.firstM],?_,?_,d⟩
  ·intro f j;simp only[Rt.firstM,yN]at j;rw[j];simp[Rt.Qe]
  ·intro l i;simp only[Rt.firstM,xr]at i;obtain⟨p,hp,rfl⟩:=i;have:=(d p hp).cells;unfold Rt.ji;rw[qN];split <;> omega
end
namespace Rt
theorem aY (zL:List PL):∀(rem:List PL) (n:Nat),0 < n->nameErr zL n rem=0->∀(j:Nat) (p:PL),rem[j]?=some p->qh zL (n+j) p=true
 | [],_,_,_,j,p,h=>by simp at h
 | q::r,n,h0,he,j,p,h=>by
  unfold nameErr at he;split at he
  ·next hq=>
   cases j with
   | zero=>simp at h;subst h;exact hq
   | succ j=>
    have:=aY zL r (n+1) (by omega) he j p (by simpa using h);rw[show n+(j+1)=n+1+j by omega];exact this
  ·omega
end Rt
theorem VR:∀(ps:List Rt.PL) (n:Nat) (bs:List Rt.Zx) (acc ls:List Rt.PL) (b2:List Rt.Zx) (p:Rt.PL),Rt.nestFrom ps n bs (p::acc)=(0,ls,b2)->0 < n->ls[0]?=some p
 | [],n,bs,acc,ls,b2,p,h,_=>by simp[Rt.nestFrom]at h;rw[<-h.1];rfl
 | q::r,n,bs,acc,ls,b2,p,h,h0=>by
  rw[Rt.nestFrom]at h;split at h
  ·rw[yF]at h;exact VR r (n+1) _ _ ls b2 p h (by omega)
  ·simp at h;omega
theorem AZ {ps ls:List Rt.PL} {b2:List Rt.Zx} (h:Rt.nestFrom ps 1 [] [Rt.kb]=(0,ls,b2)):ls[0]?=some Rt.kb:=VR ps 1 [] [] ls b2 Rt.kb h (by omega)
def iN (S:Rt.Src):Prop:=∀n,(Rt.yA S.zL n).kind=12->(Rt.yA S.zL n).values.length<=4
theorem Dd (h:Rt.qx s=(0,0,zL)):iN (Zs s zL qo):=by
 obtain⟨o,_,_⟩:=QH h;obtain⟨_,_,_,x,_⟩:=Rt.JG h;have k:∀p∈zL,p.form.kind=12->p.form.values.length<=4:=by
  intro p hp d;obtain⟨i,f⟩:=List.mem_iff_getElem?.mp hp;cases i with
  | zero=>
   have z:zL[0]?=some Rt.kb:=by
    obtain⟨A,j,y,_,_⟩:=Rt.JG h;exact AZ y
   rw[z]at f;injection f with f;subst f;exact absurd d (by decide)
  | succ i=>
   have:=aY zL (zL.drop 1) 1 (by omega) x i p (by rw[vp,Xs];exact f);unfold Rt.qh at this;rw[zA (by omega),zA (by omega),zA (by omega),zA (by omega),zE d,zy]at this;have j:=this.1;unfold Rt.XF at j;rw[zy,yS,yS]at j;rw[<-j.2];unfold Rt.yJ;rcases dD zL (Rt.xb zL p.form.name)with e | ⟨q,hq,e⟩
   ·rw[e];simp[Rt.zF]
   ·rw[e];exact(o q hq).params
 intro n d;rcases dD (Zs s zL qo).zL n with e | ⟨p,hp,e⟩
 ·rw[e];simp[Rt.zF]
 ·rw[e]at d ⊢;obtain⟨q,hq,rfl⟩:=xr.mp hp;exact k q hq d
def iK (m:Rt.Mc):Prop:=∀f∈m.zH,f.params.length<=4
theorem CC (h:iK m) (s:Rt.Q9) {v:Int}:iK (Rt.jN m s v):=by
 unfold Rt.jN;split
 ·split
  ·exact h
  ·intro l d;obtain⟨i,f,rfl⟩:=XT.mp d;simp only[jW];split
   ·simp only[jD];exact h _ (zj _)
   ·exact h _ (zj _)
 ·exact h
theorem my (h:iK m) (f:Rt.qS) (j:f.kind=12->f.values.length<=4):iK (Rt.perform S m f).m/\(Rt.perform S m f).YU.length<=5/\((Rt.perform S m f).fin=0->0 < (Rt.perform S m f).YU.length):=by
 unfold Rt.perform;simp only
 repeat' split
 all_goals first
  | (refine⟨h,by simp[Rt.ended],fun hz=>?_⟩;first | (simp;done)| exact absurd hz (by assumption)| (simp[Rt.ended]at hz;done))
  | exact⟨CC h _,by simp,by simp⟩
  | skip
 ·next hk ha hn=>
  refine⟨?_,by simp,by simp⟩;intro g hg;rcases zd.mp hg with hg | hg
  ·exact h g hg
  ·rw[yN.mp hg];have:=VG S m f.values [] ha;have:=j hk;simp only[qQ]at *;omega
 ·next hn=>
  refine⟨fun g hg=>h g (vL _ hg),?_,by simp⟩;obtain⟨k,g,d,_,i,_⟩:=gH hn;rw[i];have:=h g (by rw[d];simp);simp;omega
theorem Kw (d:iN S) (h:iK m):iK (Rt.qd S m).1/\(Rt.qd S m).2.length<=5/\(m.fin=0->0 < (Rt.qd S m).2.length):=by
 unfold Rt.qd;obtain⟨h1,h2,h3⟩:=my (S:=S) h (Rt.yA S.zL m.line) (d m.line);split
 ·simp only;split
  ·next hz=>exact⟨h1,h2,fun _=>h3 hz⟩
  ·exact⟨h,by simp,by simp⟩
 ·next hz=>exact⟨h,by simp,fun e=>absurd e hz⟩
theorem tS (S:Rt.Src):iK (Rt.firstM S):=by
 intro f d;simp only[Rt.firstM,yN]at d;rw[d];simp[Rt.Qe]
section
attribute [local go_sem ↓] Go.wp_at_zero Go.wp_at_succ
namespace Rt
structure Se where
 m:Mc
 YU:List Rec
 low:Int
 idx:Int
 marks:List Bool
def Vl (S:Src) (cap:Int) (s:Se):Se:=⟨(qd S s.m).1,(QR cap (s.YU++(qd S s.m).2) s.low).1,(QR cap (s.YU++(qd S s.m).2) s.low).2,wrap64 (s.idx+1),s.marks⟩
end Rt
def vF (cap:Int) (jv:Value) (low idx:Int) (marks:List Bool):List Value:=[.int .i64 cap,jv,.int .i64 low,.int .i64 idx]++marks.map Value.bool
structure Zv (w:World) (P B:Nat) (S:Rt.Src) (cap:Int) (s:Se) (X:ZK) (jv:Value):Prop where
 mc:jz w P B 105 (vF cap jv s.low s.idx s.marks) S s.m X
 jr:w.ownsRow 0 162 5 jv s.YU.length (xE s.YU)
theorem Zv.zP {w w':World} {P B:Nat} {S:Rt.Src} {cap:Int} {s:Se} {X:ZK} {jv:Value} (h:Zv w P B S cap s X jv) (d:Below w.heap.size w w'):Zv w' P B S cap s X jv:=⟨h.mc.zP d,yG h.jr d⟩
theorem Zv.jrS {s:Se} (h:Zv w P B S cap s X jv):aD w P 105 (xC X s.m (vF cap jv s.low s.idx s.marks)) cap s.YU s.low jv:=
 ⟨h.mc.block,by simp[xC,vF],by simp[xC,vF],by simp[xC,vF],h.jr,by decide⟩
structure SFr (P:Nat) (X:ZK) (jv:Value) (w w':World):Prop where
 os:w'.os=w.os
 tape:w'.tape=w.tape
 output:w'.output=w.output
 size:w.heap.size<=w'.heap.size
 block:∀k,k < w.heap.size->k∉P::Z4 X->jv.ownBlock≠some k->w'.heap[k]?=w.heap[k]?
theorem SFr.jQ (X:ZK) (jv:Value) (h:Below w.heap.size w w'):SFr P X jv w w':=⟨h.os,h.tape,h.output,h.size,fun k hk _ _=>h.block k hk⟩
structure vX (P B:Nat) (S:Rt.Src) (cap:Int) (X X':ZK) (jv jv':Value) (s':Se) (w w':World):Prop where
 Yo:Zv w' P B S cap s' X' jv'
 vz:SFr P X jv w w'
 grow:vd w (Z4 X) (Z4 X')
 jg:∀g,jv'.ownBlock=some g->jv.ownBlock=some g\/w.heap.size<=g
 lt:P < w.heap.size
theorem vX.start {s:Se} (h:Zv w P B S cap s X jv) (d:Below w.heap.size w w'):vX P B S cap X X jv jv s w w':=
 ⟨h.zP d,SFr.jQ X jv d,vd.refl _ _,fun _ h=>Or.inl h,zQ h.mc.block⟩
theorem vX.trans {w w1 w2:World} {P B:Nat} {S:Rt.Src} {cap:Int} {s1 s2:Se} {X X1 X2:ZK} {jv jv1 jv2:Value} (h:vX P B S cap X X1 jv jv1 s1 w w1) (g:vX P B S cap X1 X2 jv1 jv2 s2 w1 w2):vX P B S cap X X2 jv jv2 s2 w w2:=by
 refine⟨g.Yo,⟨g.vz.os.trans h.vz.os,g.vz.tape.trans h.vz.tape,g.vz.output.trans h.vz.output,zi h.vz.size g.vz.size,?_⟩,h.grow.trans g.grow h.vz.size,?_,h.lt⟩
 ·intro k j f i;refine(g.vz.block k (zX j h.vz.size) (fun hm=>?_) (fun e=>?_)).trans (h.vz.block k j f i)
  ·rcases zw.mp hm with rfl | hm
   ·exact f (xB ..)
   ·rcases h.grow k hm with d | d
    ·exact f (zm _ d)
    ·omega
  ·rcases h.jg k e with d | d
   ·exact i d
   ·omega
 ·intro q hq;rcases g.jg q hq with d | d
  ·exact h.jg q d
  ·exact Or.inr (zi h.vz.size d)
theorem jz.ru {tail':List Value} (h:jz w P B ty tail S m X) (A:w.ownsRow 0 162 5 jv n xs) (hf:KB P jv w w2) (hb:w2.heap[P]?=some (.cells (xC X m tail') ty (0,0))):jz w2 P B ty tail' S m X:=by
 have i:∀k,jv.ownBlock=some k->∃c,w.heap[k]?=some (.cells c 162 (0,0)):=fun k hk=>yW A hk;refine h.next hb hf.size ?_ ?_ rfl rfl h.fl h.vl
 ·intro k x y z j;rw[hf.block k (zQ y) z (fun e=>by
   obtain⟨c,f⟩:=i k e;rw[y]at f;injection f with f;obtain⟨D,F,o,j⟩:=j;rw[f]at o;injection o with _ o;rw[<-o]at j;exact absurd j (by unfold Xe;decide))]
  exact y
 ·refine⟨fun r hr=>yP (h.own.rows r hr) (fun g hg=>?_),h.own.apart⟩;obtain⟨c,f⟩:=yW (h.own.rows r hr) hg;have h3:=JF hr;refine hf.block g (zQ f) (fun e=>?_) (fun e=>?_)
  ·rw[e,h.block]at f;injection f with f;injection f with _ f;rw[<-f]at h3;rcases h3 with e | e | e
   ·exact h.ty.1 e
   ·exact h.ty.2.1 e
   ·exact h.ty.2.2.1 e
  ·obtain⟨D,d⟩:=i g e;rw[f]at d;injection d with d;injection d with _ d;rw[d]at h3;exact absurd h3 (by decide)
theorem na {jv':Value} {low':Int}:((xC X m (vF cap jv low idx marks)).setIfInBounds 9 jv').setIfInBounds 10 (.int .i64 low')=xC X m (vF cap jv' low' idx marks):=by
 simp[xC,vF]
theorem BK {idx':Int}:(xC X m (vF cap jv low idx marks)).setIfInBounds 11 (.int .i64 idx')=xC X m (vF cap jv low idx' marks):=by
 simp[xC,vF]
theorem Z8.row {m':Rt.Mc} {X':ZK} (i:jz w M B ty tail S m X) (h:Z8 M B ty tail S X X' m' w w') (j:w.ownsRow 0 162 5 jv n xs) (f:ty≠162):w'.ownsRow 0 162 5 jv n xs:=by
 refine yP j (fun g hg=>?_);obtain⟨c,d⟩:=yW j hg;rw[d];exact Z8.keeps i h d (fun e=>by
  rw[e,i.block]at d;injection d with d;injection d with _ d;exact f d) (by decide)
theorem nF {s:Se} (h:Zv w P B S cap s X jv) (V:Good S) (J:XW S s.m) (h4:iN S) (M:iK s.m) (hz:s.m.fin=0) (hr:s.YU.length<=900):Calls Tryz.prog 108 #[.pointer (some ⟨P,0,none⟩)] w fun e w'=>e=.returned (.tuple #[])/\∃X' jv',vX P B S cap X X' jv jv' (Vl S cap s) w w':=by
 obtain⟨_,a0,L⟩:=Kw h4 M;have I:=zQ h.mc.block;go_enter func108,ntmps108;go_wp2_with fail;refine(Bx h.mc J.Zi (V.small _) V.fwd).mono ?_;rintro e w1 ⟨rv,W,rfl,d,D⟩;have i:=Z8.row h.mc d h.jr (by decide);have G:aD w1 P 105 (xC W (Rt.qd S s.m).1 (vF cap jv s.low s.idx s.marks)) cap s.YU s.low jv:=⟨d.mc.block,by simp[xC,vF],by simp[xC,vF],by simp[xC,vF],i,by decide⟩;obtain⟨Z,T,rfl⟩:=zK D;have R:=gN d i h D;have HJ:=zD (Cp G D (L hz) (by omega));clear d i G D h;generalize (Rt.qd S s.m).2.length=rn at *;go_wp2_with fail;refine HJ.u.mono ?_;rintro e w2 ⟨rfl,A,f,y,q3⟩;rw[na]at f;have x:=R.u.1.mc.ru R.u.2.1 y f.block;have a2:w2.cell? ⟨P,11,none⟩=some (.int .i64 s.idx):=by
  have:=vj w2 P 11 _ _ _ f.block;rw[this];simp[xC,vF]
 have a1:=zS f.block 11;have z:KB P A w2 (w2.setCell ⟨P,11,none⟩ (.int .i64 (wrap64 (s.idx+1)))):=⟨rfl,rfl,rfl,by simp[World.setCell],fun k _ M _=>zO _ _ _ _ M⟩;have O:=zf f.block 11 (.int .i64 (wrap64 (s.idx+1)));rw[BK]at O;have o:=x.ru f.own z O;have j:=f.ne;have H:=yP (w':=w2.setCell ⟨P,11,none⟩ (.int .i64 (wrap64 (s.idx+1)))) f.own (fun g hg=>zO _ _ _ _ (fun e=>j (by rw[hg,show g=P from e])));have HF:=zD (show vX P B S cap X W jv A (Vl S cap s) w (w2.setCell ⟨P,11,none⟩ (.int .i64 (wrap64 (s.idx+1))))from by
  obtain⟨d,i,h,D⟩:=R.u;refine⟨⟨o,H⟩,⟨y.os.trans d.vz.os,y.tape.trans d.vz.tape,y.output.trans d.vz.output,zi d.vz.size (zi y.size z.size),?_⟩,d.grow,?_,I⟩
  ·intro k J U hv;have F:k≠P:=fun e=>U (by rw[e];exact xB ..);have N:k < w1.heap.size:=zX J d.vz.size;rw[zO _ _ _ _ F,y.block k N F hv];exact d.vz.block k J U
  ·intro g hg;rcases q3 g hg with e | e
   ·exact Or.inl e
   ·exact Or.inr (zi d.vz.size e))
 clear f y q3 x z O o H j;go_wp2_with fail;go_end0;exact⟨rfl,_,_,HF.u⟩
theorem Rt.uS (h:(Rt.qx s).1=0):Rt.qx s=(0,0,(Rt.qx s).2.2):=by
 refine Z6 h (Z6 ?_ rfl);unfold Rt.qx Rt.Yq Rt.vH Rt.jV at h ⊢
 repeat' split
 all_goals first | rfl | (exfalso;simp_all)
end
end Go.Proofs.YthleadfkfnnadaaGreat
