/- The journal: plain; where it lies. -/
import Derived.Test.YthleadfkfnnadaaGreatGnA
import Derived.Test.YthleadfkfnnadaaGreatFwB
import Derived.Laws.OwnMore
import Derived.Test.YthleadfkfnnadaaGreatNwA
set_option maxHeartbeats 4000000
set_option maxRecDepth 100000
set_option linter.unusedSimpArgs false
namespace Go.Proofs.YthleadfkfnnadaaGreat
open Go.RowKit
attribute [local go_sem ↓] Go.wp_at_zero Go.wp_at_succ
variable {cs:Array Value} {s:ByteArray} {cap low:Int} {qo:List Int} {zL:List Rt.PL} {tail:List Value} {X:ZK} {M B P:Nat} {m:Rt.Mc} {S:Rt.Src} {ty:TypeId} {jv:Value} {w w':World}
def ER (v:Int):Rt.Rec:=⟨7,0,⟨0,0⟩,v⟩
def Jj (l c:Int) (ps:List Int) (k:Nat):List Value:=xE (⟨3,l,⟨0,0⟩,c⟩::(ps.take k).map ER)
theorem cD {b:Nat} {x y:Value} {t:TypeId} (h:w.heap[b]?=some (.cells #[x,y] t (0,0))):w.cell? ⟨b,0,none⟩=some x/\w.cell? ⟨b,1,none⟩=some y:=
 ⟨by have:=zC h 0 (by simp);simpa using this,by have:=zC h 1 (by simp);simpa using this⟩
theorem sr (h:jz w M B ty tail S m X) (hm:dL S m) :
  Calls Tryz.prog 151 #[.pointer (some ⟨M,0,none⟩)] w (eE M B ty tail S X (Rt.Vv m) w):=by
 by_cases hfl:m.zH.length < 2
 ·refine(pK h hfl).mono ?_
  intro e w' ho
  rw[show Rt.Vv m=Rt.ended m 1 by unfold Rt.Vv;rw[zE hfl]]
  exact ho
 ·obtain⟨D,f,O,Z,I,a5⟩:=gH hfl
  have HL:=zD (show Rt.Vv m=⟨0,wrap64 (f.call+1),⟨3,m.line,⟨0,0⟩,f.call⟩::f.params.map ER,{ m with zH:=D }⟩ by unfold Rt.Vv;rw[zA hfl,I,a5];rfl)
  obtain⟨j0,b5,b2,b1,b0⟩:=yi Tryz.Ej
  have N:m.zH.length=D.length+1:=by rw[O];simp
  have b3:m.zH.length<=1000:=hm.zH
  have d9:f.params.length<=1000:=hm.params f (by rw[O];simp)
  have L:=h.zH
  rw[N]at L
  obtain⟨f2,d5,b6⟩:=zK L
  have A:=h.sR D.length (by omega)
  have W:m.zH[D.length]'(by omega)=f:=by simp[O]
  rw[W]at A
  obtain⟨g,d4,hg,_,_,k1⟩:=yD L (Js X.xg m.zH h.fl D.length (by omega)).1
  obtain⟨g',c0,V,_,_,k2⟩:=yD L (Js X.xg m.zH h.fl D.length (by omega)).2
  rw[W]at k2
  rw[hg]at V
  simp at V
  obtain⟨rfl,rfl⟩:=V
  obtain⟨F,d,a3⟩:=zK A
  rw[a3]at k1 A
  have c2:=h.c2
  rw[hg]at c2
  have c6:=h.c6
  have d3:=zQ h.block
  have HH:=XX h hm A
  have a2:=yC ((D.length:Int)+1-1) (by omega)
  have hw:IntKind.i64.wrap ((D.length:Int)+1-1)=(D.length:Int):=by rw[yv,a2];omega
  have d8:IntKind.i64.wrap (D.length:Int)=(D.length:Int):=by rw[yv,yC _ (by omega)]
  have h0:(0:Int)<=(D.length:Int):=by omega
  have h2:¬(D.length:Int) < 1:=by omega
  have h3:(D.length:Int) < (D.length:Int)+1:=by omega
  clear h L b6 a3 W I a5 a2
  clear A hfl hm N
  go_enter Tryz.func151,Tryz.ntmps151
  go_wp2_with fail
  have hbA:=((zI w.heap.size w).alloc (zB _) (.cells #[.int .i64 0,.int .i64 0,.slice none 0 0] 157)).alloc (by simp) (.cells #[.slice F f.params.length d,.int .i64 f.call] 153)
  have bR:=yR (zN w (.cells #[.int .i64 0,.int .i64 0,.slice none 0 0] 157)) (.cells #[.slice F f.params.length d,.int .i64 f.call] 153)
  have bG:=qD w (.cells #[.int .i64 0,.int .i64 0,.slice none 0 0] 157) (.cells #[.slice F f.params.length d,.int .i64 f.call] 153)
  have hsA:((w.alloc (.cells #[.int .i64 0,.int .i64 0,.slice none 0 0] 157)).alloc (.cells #[.slice F f.params.length d,.int .i64 f.call] 153)).heap.size=w.heap.size+2:=by simp
  revert hbA bR bG hsA
  generalize (w.alloc (.cells #[.int .i64 0,.int .i64 0,.slice none 0 0] 157)).alloc (.cells #[.slice F f.params.length d,.int .i64 f.call] 153)=wA
  intro hbA bR bG hsA
  have d6:=(HH.u.1.zP hbA).c6
  obtain⟨g0,g1⟩:=cD bG
  have f1:¬M=wA.heap.size:=by omega
  have HA:=gN hbA bR bG hsA
  clear hbA bR bG c2 c6 k1 k2
  go_region_held3 (fun w'=>w'.cell? ⟨M,6,none⟩=some (.int .i64 m.line)/\w'.cell? ⟨w.heap.size+1,1,none⟩=some (.int .i64 f.call)) (go_keep) (fail)
  go_wp2_with fail
  go_loopw [5,6] (fun rv i wr=>∃k:Nat,k<=f.params.length/\i=.int .i64 k/\wr.ownsRow (w.heap.size+2) 162 5 rv (k+1) (Jj m.line f.call f.params k)/\wr.heap[w.heap.size]?=some (.cells #[.int .i64 0,.int .i64 0,.slice none 0 0] 157 (0,0))/\wr.heap[w.heap.size+1]?=some (.cells #[.slice F f.params.length d,.int .i64 f.call] 153 (0,0))/\Below w.heap.size w wr)
   (fun _ i _=>f.params.length-(intOf i).toNat)
  case atStart=>
   obtain⟨q1,q2,q3,q4⟩:=HA.u
   have hb:=Below.drew <| (zI wA.heap.size wA).alloc (zB _) (.cells #[.int .i64 3,.int .i64 m.line,.int .i64 0,.int .i64 0,.int .i64 f.call] 162)
   have Z:=lH 1 wA (w.heap.size+2) #[.int .i64 3,.int .i64 m.line,.int .i64 0,.int .i64 0,.int .i64 f.call] (by omega) rfl (by omega)
   rw[q4]at Z
   exact⟨0,zo _,rfl,Z,zU q2 hb,zU q3 hb,q1.trans (hb.mono (B':=w.heap.size) q1.size)⟩
  case round=>
   obtain⟨k,hk,rfl,o,bR,bG,y⟩:=hrel
   obtain⟨a1,U,rfl⟩:=zK o
   obtain⟨g0,g1⟩:=cD bG
   clear d6 hsA
   by_cases hlt:k < f.params.length
   ·have a4:(k:Int) < (f.params.length:Int):=by omega
    have f0:(0:Int)<=(k:Int):=by omega
    obtain⟨b,d7,a6,_,d2,cx⟩:=yD (yG HH.u.2.2 y) (j:=k) (u:=.int .i64 f.params[k]) (by simp[xR,hlt])
    simp at a6
    obtain⟨rfl,rfl⟩:=a6
    have HT:=zD (show Jj m.line f.call f.params (k+1)=Jj m.line f.call f.params k++[.int .i64 7,.int .i64 0,.int .i64 0,.int .i64 0,.int .i64 f.params[k]] by
     unfold Jj
     rw[kI,zJ hlt,yB,<-yF]
     simp only[xE,List.flatMap_append]
     rfl)
    have b8:=zQ bR
    have b9:=zQ bG
    have HX:=XX bR bG y
    clear bR bG y
    generalize f.params[k]=x at *
    go_wp2_with (at_builtin;refine wpList_append_lies _ rfl _ _ 94 rfl (w.heap.size+2) 162 j0 _ 5 40 Tryz.underlying94 b5 b2 b1 b0 rfl (by decide) _ (k+1) _ rfl (o.alloc _) ⟨wr.heap.size,0,none⟩ 1 1 [.int .i64 7,.int .i64 0,.int .i64 0,.int .i64 0,.int .i64 x] rfl rfl (World.news_of_block (cs:=#[.int .i64 7,.int .i64 0,.int .i64 0,.int .i64 0,.int .i64 x]) (t:=162) (fr:=(0,0)) (zN wr _)) (by simp[Value.oneCell']) (by omega) (by unfold maxLen;omega) (by omega) (by simp;omega) (wr.heap.size+1) (by simp) ?_)
    intro g' cap' w4 H J b7 d1
    obtain⟨bR,bG,y⟩:=HX.u
    have R:Below (w.heap.size+2) wr w4:=Below.grown ((zI (w.heap.size+2) wr).alloc (by omega) _) J (by simp;omega) (fun q hq=>(o.lt q hq).1)
    have HF:=zD (show _/\_/\_/\_ from⟨H,(R.block _ (by omega)).trans bR,(R.block _ (by omega)).trans bG,y.trans (R.mono (B':=w.heap.size) (by omega))⟩)
    clear H J b7 o bR bG y R HX b8 b9
    go_wp2_with fail
    go_roundw
    case rel=>
     obtain⟨q1,q2,q3,q4⟩:=HF.u
     exact⟨k+1,by omega,by go_num,by rw[HT.u];exact q1,q2,q3,q4⟩
    case measure=>simp[intOf];omega
   ·have a4:¬(k:Int) < (f.params.length:Int):=by omega
    have b4:k=f.params.length:=by omega
    subst b4
    have d0:=zD o
    go_wp2_with fail
    refine(iq (HH.u.1.zP y) D f O b3).mono ?_
    rintro e w5 ⟨rfl,X',a0⟩
    have iP:∀k,w.heap.size<=k->k < wr.heap.size->w5.heap[k]?=wr.heap[k]?:=fun k hk1 hk2=>a0.vz.block k hk2 (fun hin=>by
     rcases zw.mp hin with e | e
     ·omega
     ·rw[<-HH.u.1.xh]at e
      have:=HH.u.1.own.lt k e
      omega)
    have T:=(iP _ (zB _) (zQ bR)).trans bR
    have a8:=(iP _ (by omega) (zQ bG)).trans bG
    have G:=yP (w':=w5) o (fun q hq=>iP q (by have:=(o.lt q hq).1;omega) (o.lt q hq).2)
    have a7:=Z8.from HH.u.1 y a0
    obtain⟨r0,r1,r2⟩:=yb T
    obtain⟨s0,s1⟩:=cD a8
    have z:=zS T
    have HF:=zD (fun a b c=>And.intro (a7.three T (zB _) (by unfold Xe;decide) a b c) (show (W3 w5 w.heap.size a b c).ownsRow w.heap.size 162 5 (.slice a1 (f.params.length+1) U) (f.params.length+1) (Jj m.line f.call f.params f.params.length)from yP (yn G (by omega)) (fun q hq=>iF _ _ _ _ _ _ (by have:=(G.lt q hq).1;omega))))
    have a9:=zD (show (⟨3,m.line,⟨0,0⟩,f.call⟩::f.params.map ER:List Rt.Rec).length=f.params.length+1/\xE (⟨3,m.line,⟨0,0⟩,f.call⟩::f.params.map ER)=Jj m.line f.call f.params f.params.length by
     unfold Jj
     rw[Zp]
     exact⟨by simp,rfl⟩)
    clear a0 a7 T a8 G o bR bG y iP d0 g0 g1
    go_wp2_with fail
    refine zT (v:=.agg #[.int .i64 0,.int .i64 (wrap64 (f.call+1)),.slice a1 (f.params.length+1) U]) ?_ rfl ⟨_,_,by rw[HL.u],by rw[HL.u];exact(HF.u _ _ _).1,by rw[HL.u];show World.ownsRow _ _ _ _ _ (List.length _) _;rw[a9.u.1,a9.u.2];exact(HF.u _ _ _).2⟩
    simp[results,Tryz.results151,go_sem,r0,r1,r2]
theorem oJ {BB:Nat} {fm:Rt.qS} {a1 a2 a3:Option Addr} {c1 c2 c3:Nat} (h:jz w M B ty tail S m X) (j:dL S m) (J:qk w BB (Qd fm a1 a2 a3 c1 c2 c3) fm) (d:Rt.Small fm) :
  Calls Tryz.prog 91 #[.pointer (some ⟨M,0,none⟩),.agg (Qd fm a1 a2 a3 c1 c2 c3)] w (eE M B ty tail S X (Rt.perform S m fm) w):=by
 have f:=d.each
 have D:=d.index
 have k:=((zI w.heap.size w).alloc (zB _) (.cells (Qd fm a1 a2 a3 c1 c2 c3) 143)).alloc (by simp) (.cells #[.int .i64 0,.int .i64 0,.slice none 0 0] 157)
 have L:=qD w (.cells (Qd fm a1 a2 a3 c1 c2 c3) 143) (.cells #[.int .i64 0,.int .i64 0,.slice none 0 0] 157)
 have x:=h.zP k
 have i:=ZY J k
 have N:=Rt.iX S m fm
 generalize y:Rt.perform S m fm=o at *
 go_enter Tryz.func91,Tryz.ntmps91
 go_wp2_with fail
 all_goals
  first
   | (refine(Ae x j i d (by simpa using ‹(fm.kind==12)=true›)).mono ?_;rw[y])
   | (refine(nw x j i d f (by simpa using ‹(fm.kind==8)=true›)).mono ?_;rw[y])
   | (refine(setCell_any x j i d f (by simpa using ‹(fm.kind==9)=true›) D).mono ?_;rw[y])
   | (refine(AA x j i d f (by simpa using ‹(fm.kind==10)=true›)).mono ?_;rw[y])
   | (refine(sD fm a1 a2 a3 c1 c2 c3 x j (by simpa using ‹(fm.kind==11)=true›)).mono ?_;rw[y])
   | (refine(tm x j i d f (by first | exact Or.inl (by simpa using ‹(fm.kind==5)=true›)| exact Or.inr (by simpa using ‹(fm.kind==7)=true›))).mono ?_;rw[y])
   | (refine(sr x j).mono ?_;rw[<-N (by simpa using ‹(fm.kind==8)=false›) (by simpa using ‹(fm.kind==9)=false›) (by simpa using ‹(fm.kind==10)=false›) (by simpa using ‹(fm.kind==11)=false›) (by simpa using ‹(fm.kind==5)=false›) (by simpa using ‹(fm.kind==7)=false›) (by simpa using ‹(fm.kind==12)=false›)])
  (rintro e O ⟨rv,X',rfl,F,A⟩;obtain⟨ad,cp,rfl⟩:=zK A;have q:=eE.held h k L (by omega) F A;have HQ:=zD q.2;obtain⟨I,H,G⟩:=yb q.1;have z:=zS q.1;clear q F A)
  go_wp2_with fail
  refine zT (v:=.agg #[.int .i64 o.fin,.int .i64 o.next,.slice ad o.YU.length cp]) ?_ rfl (HQ.u _ _ _)
  simp[results,Tryz.results91,go_sem,I,H,G]
theorem Bx (h:jz w M B ty tail S m X) (hm:dL S m) (a5:Rt.Small (Rt.yA S.zL m.line)) (hfw:mX S.zL S.lk) :
  Calls Tryz.prog 51 #[.pointer (some ⟨M,0,none⟩)] w (Gu M B ty tail S X m w):=by
 have c6:=h.c6
 have c7:=h.c7
 have HH:=zD h
 have HM:=zD hm
 have b1:=zQ h.block
 by_cases hz:m.fin=0
 ·clear h hm
  rw[hz]at c7
  have V:=(zI w.heap.size w).alloc (zB _) (.cells #[.int .i64 0,.string ⟨#[]⟩,.int .i64 0,.slice none 0 0,.slice none 0 0,.slice none 0 0] 143)
  have b0:¬M=w.heap.size:=by omega
  have HF:=zD (show (Rt.yM S.zL m.line).form=Rt.yA S.zL m.line from Rt.Zk _ _)
  have HB:=zD V
  have HO:=zD (zN w (.cells #[.int .i64 0,.string ⟨#[]⟩,.int .i64 0,.slice none 0 0,.slice none 0 0,.slice none 0 0] 143))
  clear V
  go_enter Tryz.func51,Tryz.ntmps51
  go_wp2_with fail
  apply cutL (F:=fun O a0 a1 a2 a3 c0 c1 c2 c3 wy=>iH B (Rt.yM S.zL m.line).form w O a1 a2 a3 c1 c2 c3 wy)
  ·intro HT
   have a7:=zD HT
   clear HT
   go_region_with (first | (go_at_call 90;refine(Kp m.line (HH.u.prog.zP (zh _))).mono ?_;rintro e w1 ⟨a0,a1,a2,a3,k0,L,J,I,rfl,-,f,H⟩;have hf:=Tryz.VA a0 (Rt.yM S.zL m.line).yY.length k0 (Rt.yM S.zL m.line).form.kind (Rt.yM S.zL m.line).form.name (Rt.yM S.zL m.line).form.cells a1 (Rt.yM S.zL m.line).form.params.length L a2 (Rt.yM S.zL m.line).form.index.length J a3 (Rt.yM S.zL m.line).form.values.length I (Rt.yM S.zL m.line).depth (Rt.yM S.zL m.line).opener (Rt.jR S.lk m.line).1 (Rt.jR S.lk m.line).2 (Rt.yM S.zL m.line).proc;have HR:=zD (iH.one (yh H) f);clear H f)| (go_at_call 90;refine(Kp m.line (HH.u.prog.zP (HB.u.drew))).mono ?_;rintro e w1 ⟨a0,a1,a2,a3,k0,L,J,I,rfl,-,f,H⟩;have hf:=Tryz.VA a0 (Rt.yM S.zL m.line).yY.length k0 (Rt.yM S.zL m.line).form.kind (Rt.yM S.zL m.line).form.name (Rt.yM S.zL m.line).form.cells a1 (Rt.yM S.zL m.line).form.params.length L a2 (Rt.yM S.zL m.line).form.index.length J a3 (Rt.yM S.zL m.line).form.values.length I (Rt.yM S.zL m.line).depth (Rt.yM S.zL m.line).opener (Rt.jR S.lk m.line).1 (Rt.jR S.lk m.line).2 (Rt.yM S.zL m.line).proc;have hO:=zU HO.u (yh H);have HR:=zD (iH.two (HB.u.trans ((yh H).mono (by simp))) hO f (zB _));obtain⟨y0,y1,y2,y3,y4,y5,z0,z1,z2,z3,z4,z5⟩:=YD hO;have yz:=zQ hO;clear H f hO))
   all_goals
    rename_i hKK
    refine hKK _ _ ?_
    have A:=HR.u
    revert A
    first
     | (generalize w1.alloc (.cells (Qd (Rt.yM S.zL m.line).form a1 a2 a3 L J I) 143)=wy;generalize w1.heap.size=O)
     | (generalize W6 w1 w.heap.size (.int .i64 (Rt.yM S.zL m.line).form.kind) (.string (Rt.yM S.zL m.line).form.name) (.int .i64 (Rt.yM S.zL m.line).form.cells) (.slice a1 (Rt.yM S.zL m.line).form.params.length L) (.slice a2 (Rt.yM S.zL m.line).form.index.length J) (.slice a3 (Rt.yM S.zL m.line).form.values.length I)=wy;generalize w.heap.size=O)
    intro A
    exact a7.u _ a0 _ _ _ k0 _ _ _ _ A
  ·intro O a0 a1 a2 a3 c0 c1 c2 c3 wy hR
   have HS:=zD (show Rt.qd S m=if (Rt.perform S m (Rt.yA S.zL m.line)).fin=0 then ({ (Rt.perform S m (Rt.yA S.zL m.line)).m with line:=Rt.goOn S.zL S.lk 102 (Rt.perform S m (Rt.yA S.zL m.line)).next },(Rt.perform S m (Rt.yA S.zL m.line)).YU)else ({ m with fin:=(Rt.perform S m (Rt.yA S.zL m.line)).fin },[Rt.stay m.line]) by unfold Rt.qd;rw[zE hz])
   rw[HF.u]at hR ⊢
   obtain⟨x,bO,f,b3⟩:=hR
   have hY:=HH.u.zP x
   obtain⟨y0,y1,y2,y3,y4,y5,z0,z1,z2,z3,z4,z5⟩:=YD bO
   go_wp2_with fail
   refine(oJ hY HM.u f a5).mono ?_
   rintro e w4 ⟨rv,X',rfl,ha,ho⟩
   have a8:=zD (iZ S m (Rt.yA S.zL m.line))
   have HRG:=zD (iW S m (Rt.yA S.zL m.line))
   generalize Rt.perform S m (Rt.yA S.zL m.line)=o at *
   obtain⟨ad,cp,rfl⟩:=zK ho
   have d:=Z8.from HH.u x ha
   have T:=yn ho x.size
   have y:=(zI w4.heap.size w4).alloc (zB _) (.cells #[.int .i64 o.fin,.int .i64 o.next,.slice ad o.YU.length cp] 157)
   have HA5:=XX (d.below y) (yG T y) (zN w4 (.cells #[.int .i64 o.fin,.int .i64 o.next,.slice ad o.YU.length cp] 157))
   have a9:=zD d
   have b6:M < w4.heap.size:=zX d.lt d.vz.size
   have b5:¬M=w4.heap.size:=by omega
   have b4:w.heap.size<=w4.heap.size:=d.vz.size
   have d7:=d.mc.c7
   have d6:=d.mc.c6
   have e7:=d.mc.fz 7
   have e6:=d.mc.fz 6
   clear ha ho d T y hY f bO y0 y1 y2 y3 y4 y5 z0 z1 z2 z3 z4 z5 c6 c7
   by_cases hfn:o.fin=0
   ·replace HS:=zD (HS.u.trans (zE hfn))
    have U:(o.fin != 0)=false:=by simpa using hfn
    rw[hfn]at HA5
    go_wp2_with fail
    go_region_with ((go_at_call 92;refine(pW o.next (HA5.u.1.mc.prog.zP (zh _)) HM.u.zL hfw HRG.u).mono ?_;rintro e w6 ⟨rfl,j⟩;have i:=yh j;obtain⟨W,R,a4⟩:=HA5.u;have hA6:=W.below i;have ho6:=yG R i;have Z:=zU a4 i;have g6:=hA6.mc.c6;have k6:=hA6.mc.fz 6;obtain⟨r0,r1,r2⟩:=yb Z;have G:=zD (hA6.own (m':={ o.m with line:=Rt.goOn S.zL S.lk 102 o.next }) 6 (.int .i64 (Rt.goOn S.zL S.lk 102 o.next)) (by simp[xC]) rfl rfl rfl);have D:=zD (yP (w':=w6.setCell ⟨M,6,none⟩ (.int .i64 (Rt.goOn S.zL S.lk 102 o.next))) ho6 (fun g hg=>zO w6 ⟨M,6,none⟩ _ g (by have:=(ho6.lt g hg).1;show g≠M;omega)));clear W R a4 hA6 ho6 Z i j))
    all_goals
     clear d6 d7 e6 e7
     go_wp2_with fail
     go_ret
     exact⟨_,_,rfl,by rw[HS.u];exact G.u,by rw[HS.u];exact D.u⟩
   ·replace HS:=zD (HS.u.trans (zA hfn))
    have U:(o.fin != 0)=true:=by simpa using hfn
    have a6:=a8.u hfn
    have z:=a9.u
    rw[a6]at z d6 d7
    have hA6:=(z.own (m':={ m with fin:=o.fin }) 7 (.int .i64 o.fin) (by simp[xC]) rfl rfl rfl).below ((zI _ _).alloc (zB _) (.cells #[.int .i64 o.fin,.int .i64 o.next,.slice ad o.YU.length cp] 157))
    have N:((w4.setCell ⟨M,7,none⟩ (.int .i64 o.fin)).alloc (.cells #[.int .i64 o.fin,.int .i64 o.next,.slice ad o.YU.length cp] 157)).heap.size=w4.heap.size+1:=by simp[World.setCell]
    have G:=zD (hA6.below ((zI _ _).alloc (zB _) (.cells #[.int .i64 1,.int .i64 m.line,.int .i64 0,.int .i64 0,.int .i64 0] 162)))
    have k:=lH 1 ((w4.setCell ⟨M,7,none⟩ (.int .i64 o.fin)).alloc (.cells #[.int .i64 o.fin,.int .i64 o.next,.slice ad o.YU.length cp] 157)) w.heap.size #[.int .i64 1,.int .i64 m.line,.int .i64 0,.int .i64 0,.int .i64 0] (hA6.vz.size) rfl (by omega)
    rw[N]at k
    have D:=zD k
    clear z hA6 k N
    go_wp2_with fail
    go_ret
    exact⟨_,_,rfl,by rw[HS.u];exact G.u,by rw[HS.u];exact D.u⟩
 ·have b2:(m.fin != 0)=true:=by simpa using hz
  have HS:=zD (show Rt.qd S m=(m,[]) by unfold Rt.qd;rw[zA hz])
  clear h hm
  go_enter Tryz.func51,Tryz.ntmps51
  go_wp2_with fail
  go_ret
  exact⟨_,X,rfl,by rw[HS.u];exact Z8.start HH.u (zI _ _),by rw[HS.u];exact zW _ _ _ _⟩
theorem ur (h:jz w M B ty tail S m X) :
  Calls Tryz.prog 50 #[.pointer (some ⟨M,0,none⟩)] w fun e w'=>e=.returned (.int .i64 m.fin)/\w'=w:=by
 have d:=h.c7
 clear h
 go_enter Tryz.func50,Tryz.ntmps50
 go_wp2_with fail
 go_ret
 exact⟨rfl,rfl⟩
theorem jz.Gg {M':Nat} {ty':TypeId} {tail':List Value} (h:jz w M B ty tail S m X) (j:Below w.heap.size w w') (f:w'.heap[M']?=some (.cells (xC X m tail') ty' (0,0))) (i:FE ty'):jz w' M' B ty' tail' S m X:=by
 have d:=h.zP j
 refine⟨f,⟨zQ f,?_,d.prog.own,d.prog.lines,d.prog.gE,d.prog.len⟩,d.own,d.fl,d.vl,i⟩
 have:=zC f 0 (by simp[xC])
 simpa[xC] using this
theorem dD (P:List Rt.PL) (n:Int):Rt.yA P n=Rt.zF\/∃p∈P,Rt.yA P n=p.form:=by
 unfold Rt.yA
 split
 ·exact Or.inl rfl
 ·cases e:P[n.toNat]? with
  | none=>exact Or.inl rfl
  | some p=>exact Or.inr ⟨p,qF e,rfl⟩
theorem ui (h:Rt.qx s=(0,0,zL)) (x:qo.length<=100):Good (Zs s zL qo):=by
 obtain⟨y,k,_⟩:=Rt.QH h
 have d:∀p∈(Zs s zL qo).zL,Rt.Small p.form:=fun p hp=>by
  obtain⟨q,o,rfl⟩:=xr.mp hp
  exact y q o
 refine⟨fun n=>?_,Rt.oE h,?_⟩
 ·rcases dD (Zs s zL qo).zL n with e | ⟨p,hp,e⟩
  ·rw[e];exact Rt.eN
  ·rw[e];exact d p hp
 ·refine⟨by simpa[Zs] using k,x,by simp[Rt.firstM],by simpa[Rt.firstM,Zs] using k,by simp[Rt.firstM],?_,?_,d⟩
  ·intro f j
   simp only[Rt.firstM,yN]at j
   rw[j]
   simp[Rt.Qe]
  ·intro l i
   simp only[Rt.firstM,xr]at i
   obtain⟨p,hp,rfl⟩:=i
   have:=(d p hp).cells
   unfold Rt.ji
   rw[qN]
   split <;> omega
end Go.Proofs.YthleadfkfnnadaaGreat
namespace Go.Proofs.YthleadfkfnnadaaGreat
open Go.RowKit
variable {cs:Array Value} {s:ByteArray} {cap low:Int} {qo:List Int} {zL:List Rt.PL} {tail:List Value} {X:ZK} {M B P:Nat} {m:Rt.Mc} {S:Rt.Src} {ty:TypeId} {jv:Value} {w w':World}
namespace Rt
theorem aY (zL:List PL):∀(rem:List PL) (n:Nat),0 < n->nameErr zL n rem=0->∀(j:Nat) (p:PL),rem[j]?=some p->qh zL (n+j) p=true
 | [],_,_,_,j,p,h=>by simp at h
 | q::r,n,h0,he,j,p,h=>by
  unfold nameErr at he
  split at he
  ·next hq=>
   cases j with
   | zero=>simp at h;subst h;exact hq
   | succ j=>
    have:=aY zL r (n+1) (by omega) he j p (by simpa using h)
    rw[show n+(j+1)=n+1+j by omega]
    exact this
  ·omega
end Rt
theorem VR:∀(ps:List Rt.PL) (n:Nat) (bs:List Rt.Zx) (acc ls:List Rt.PL) (b2:List Rt.Zx) (p:Rt.PL),Rt.nestFrom ps n bs (p::acc)=(0,ls,b2)->0 < n->ls[0]?=some p
 | [],n,bs,acc,ls,b2,p,h,_=>by simp[Rt.nestFrom]at h;rw[<-h.1];rfl
 | q::r,n,bs,acc,ls,b2,p,h,h0=>by
  rw[Rt.nestFrom]at h
  split at h
  ·rw[yF]at h
   exact VR r (n+1) _ _ ls b2 p h (by omega)
  ·simp at h;omega
theorem AZ {ps ls:List Rt.PL} {b2:List Rt.Zx} (h:Rt.nestFrom ps 1 [] [Rt.kb]=(0,ls,b2)):ls[0]?=some Rt.kb:=VR ps 1 [] [] ls b2 Rt.kb h (by omega)
def iN (S:Rt.Src):Prop:=∀n,(Rt.yA S.zL n).kind=12->(Rt.yA S.zL n).values.length<=4
theorem Dd (h:Rt.qx s=(0,0,zL)):iN (Zs s zL qo):=by
 obtain⟨o,_,_⟩:=Rt.QH h
 obtain⟨_,_,_,x,_⟩:=Rt.JG h
 have k:∀p∈zL,p.form.kind=12->p.form.values.length<=4:=by
  intro p hp d
  obtain⟨i,f⟩:=List.mem_iff_getElem?.mp hp
  cases i with
  | zero=>
   -- the zeroth line is empty
   have z:zL[0]?=some Rt.kb:=by
    obtain⟨A,j,y,_,_⟩:=Rt.JG h
    exact AZ y
   rw[z]at f
   injection f with f
   subst f
   exact absurd d (by decide)
  | succ i=>
   have:=Rt.aY zL (zL.drop 1) 1 (by omega) x i p (by rw[vp,Xs];exact f)
   unfold Rt.qh at this
   rw[zA (by omega),zA (by omega),zA (by omega),zA (by omega),zE d,zy]at this
   have j:=this.1
   unfold Rt.XF at j
   rw[zy,yS,yS]at j
   rw[<-j.2]
   unfold Rt.yJ
   rcases dD zL (Rt.xb zL p.form.name)with e | ⟨q,hq,e⟩
   ·rw[e];simp[Rt.zF]
   ·rw[e];exact(o q hq).params
 intro n d
 rcases dD (Zs s zL qo).zL n with e | ⟨p,hp,e⟩
 ·rw[e];simp[Rt.zF]
 ·rw[e]at d ⊢
  obtain⟨q,hq,rfl⟩:=xr.mp hp
  exact k q hq d
def iK (m:Rt.Mc):Prop:=∀f∈m.zH,f.params.length<=4
theorem CC (h:iK m) (s:Rt.Q9) (v:Int):iK (Rt.jN m s v):=by
 unfold Rt.jN
 split
 ·split
  ·exact h
  ·intro l d
   obtain⟨i,f,rfl⟩:=XT.mp d
   simp only[jW]
   split
   ·simp only[jD];exact h _ (zj _)
   ·exact h _ (zj _)
 ·exact h
theorem my (h:iK m) (f:Rt.qS) (j:f.kind=12->f.values.length<=4):iK (Rt.perform S m f).m/\(Rt.perform S m f).YU.length<=5/\((Rt.perform S m f).fin=0->0 < (Rt.perform S m f).YU.length):=by
 unfold Rt.perform
 simp only
 repeat' split
 all_goals first
  | (refine⟨h,by simp[Rt.ended],fun hz=>?_⟩;first | (simp;done)| exact absurd hz (by assumption)| (simp[Rt.ended]at hz;done))
  | exact⟨CC h _ _,by simp,by simp⟩
  | skip
 ·next hk ha hn=>
  refine⟨?_,by simp,by simp⟩
  intro g hg
  rcases zd.mp hg with hg | hg
  ·exact h g hg
  ·rw[yN.mp hg]
   have:=Rt.VG S m f.values [] ha
   have:=j hk
   simp only[qQ]at *
   omega
 ·next hn=>
  refine⟨fun g hg=>h g (vL _ hg),?_,by simp⟩
  obtain⟨k,g,d,_,i,_⟩:=gH hn
  rw[i]
  have:=h g (by rw[d];simp)
  simp
  omega
theorem Kw (d:iN S) (h:iK m):iK (Rt.qd S m).1/\(Rt.qd S m).2.length<=5/\(m.fin=0->0 < (Rt.qd S m).2.length):=by
 unfold Rt.qd
 obtain⟨h1,h2,h3⟩:=my (S:=S) h (Rt.yA S.zL m.line) (d m.line)
 split
 ·simp only
  split
  ·next hz=>exact⟨h1,h2,fun _=>h3 hz⟩
  ·exact⟨h,by simp,by simp⟩
 ·next hz=>exact⟨h,by simp,fun e=>absurd e hz⟩
theorem tS (S:Rt.Src):iK (Rt.firstM S):=by
 intro f d
 simp only[Rt.firstM,yN]at d
 rw[d]
 simp[Rt.Qe]
end Go.Proofs.YthleadfkfnnadaaGreat
namespace Go.Proofs.YthleadfkfnnadaaGreat
open Go.RowKit
attribute [local go_sem ↓] Go.wp_at_zero Go.wp_at_succ
variable {cs:Array Value} {s:ByteArray} {cap low:Int} {qo:List Int} {zL:List Rt.PL} {tail:List Value} {X:ZK} {M B P:Nat} {m:Rt.Mc} {S:Rt.Src} {ty:TypeId} {jv:Value} {w w':World}
namespace Rt
def jt (r:Rec):Bool:=decide (r.kind=1)|| decide (r.kind=2)|| decide (r.kind=3)
def restLen:List Rec->Nat
 | []=>0
 | r::t=>if jt r=true then 0 else restLen t+1
def qV:List Rec->Nat
 | []=>0
 | _::t=>restLen t+1
theorem Vm:∀l:List Rec,restLen l<=l.length
 | []=>zB _
 | r::t=>by
  have:=Vm t
  unfold restLen
  split
  ·omega
  ·simp;omega
theorem Kh (l:List Rec):qV l<=l.length:=by
 cases l with
 | nil=>exact zB _
 | cons r t=>
  have:=Vm t
  simp[qV]
  omega
theorem Zm {l:List Rec} (h:0 < l.length):0 < qV l:=by
 cases l with
 | nil=>simp at h
 | cons r t=>simp[qV]
theorem dT:∀(l:List Rec) (j:Nat) (h:j < restLen l),jt (l[j]'(zX h (Vm l)))=false
 | [],j,h=>by simp[restLen]at h
 | r::t,j,h=>by
  unfold restLen at h
  split at h
  ·omega
  ·next hb=>
   cases j with
   | zero=>simpa using hb
   | succ j=>exact dT t j (by omega)
theorem fR:∀(l:List Rec) (h:restLen l < l.length),jt l[restLen l]=true
 | [],h=>by simp at h
 | r::t,h=>by
  by_cases hb:jt r=true
  ·have:restLen (r::t)=0:=by unfold restLen;rw[zE hb]
   simp only[this]
   exact hb
  ·have e:restLen (r::t)=restLen t+1:=by rw[restLen,zA hb]
   simp only[e,yH]
   exact fR t (by rw[e]at h;simpa using h)
theorem BC {rs:List Rec} {k:Nat} (f:0 < k) (h:k < qV rs) (d:k < rs.length):jt rs[k]=false:=by
 cases rs with
 | nil=>simp at d
 | cons r t=>
  cases k with
  | zero=>omega
  | succ k=>exact dT t k (by simp[qV]at h;omega)
theorem DK {rs:List Rec} (h:qV rs < rs.length):jt rs[qV rs]=true:=by
 cases rs with
 | nil=>simp at h
 | cons r t=>
  simp only[qV,yH]
  exact fR t (by simpa[qV] using h)
def jnL (cap:Int):Nat->List Rec->Int->List Rec×Int
 | 0,rs,low=>(rs,low)
 | f+1,rs,low=>if cap < rs.length/\0 < rs.length then jnL cap f (rs.drop (qV rs)) (wrap64 (low+1))else (rs,low)
def QR (cap:Int) (rs:List Rec) (low:Int):List Rec×Int:=jnL cap rs.length rs low
theorem pO (cap:Int):∀(f g:Nat) (rs:List Rec) (low:Int),rs.length<=f->rs.length<=g->jnL cap f rs low=jnL cap g rs low
 | 0,0,_,_,_,_=>rfl
 | 0,g+1,rs,low,h,_=>by
  have:¬(cap < rs.length/\0 < rs.length):=by omega
  rw[jnL,jnL,zA this]
 | f+1,0,rs,low,_,h=>by
  have:¬(cap < rs.length/\0 < rs.length):=by omega
  rw[jnL,jnL,zA this]
 | f+1,g+1,rs,low,h1,h2=>by
  rw[jnL,jnL]
  split
  ·next hc=>
   have:=Zm hc.2
   exact pO cap f g _ _ (by rw[xp];omega) (by rw[xp];omega)
  ·rfl
theorem gJ {rs:List Rec} (low:Int) (h:cap < rs.length/\0 < rs.length):QR cap rs low=QR cap (rs.drop (qV rs)) (wrap64 (low+1)):=by
 unfold QR
 have d:=Zm h.2
 have:=Kh rs
 cases e:rs.length with
 | zero=>omega
 | succ f=>
  rw[jnL,zE h]
  exact pO cap _ _ _ _ (by rw[xp];omega) (zB _)
theorem Vx {rs:List Rec} (low:Int) (h:¬(cap < rs.length/\0 < rs.length)):QR cap rs low=(rs,low):=by
 unfold QR
 cases rs.length with
 | zero=>rfl
 | succ f=>rw[jnL,zA h]
end Rt
theorem XB (rs:List Rt.Rec):(xE rs).length=rs.length*5:=by
 induction rs with
 | nil=>rfl
 | cons r t ih=>
  simp only[xE,Q0,ze,yE]at ih ⊢
  simp[Rt.YV]at ih ⊢
  omega
theorem Z0 (a b:List Rt.Rec):xE (a++b)=xE a++xE b:=by simp[xE]
theorem VO (rs:List Rt.Rec) (i:Nat) (h:i < rs.length) (j:Nat) (f:j < 5):(xE rs)[i*5+j]?=(Rt.YV rs[i])[j]?:=by
 conv=>lhs;rw[<-kt i rs,Z0]
 have d:(xE (rs.take i)).length=i*5:=by rw[XB,jw,vD (by omega)]
 rw[yU (by omega),d,zZ h]
 have:i*5+j-i*5=j:=by omega
 rw[this]
 show (Rt.YV rs[i]++xE (rs.drop (i+1)))[j]?=_
 rw[yp (by simp[Rt.YV];omega)]
theorem sB {g n cap:Nat} {rs:List Rt.Rec} (h:w.ownsRow B 162 5 (.slice (some ⟨g,0,none⟩) n cap) n (xE rs)) (i:Nat) (x:i < rs.length) :
  w.cell? ⟨g,i*5,none⟩=some (.int .i64 rs[i].kind)/\w.cell? ⟨g,i*5+1,none⟩=some (.int .i64 rs[i].line)/\w.cell? ⟨g,i*5+2,none⟩=some (.int .i64 rs[i].at_.line)/\w.cell? ⟨g,i*5+3,none⟩=some (.int .i64 rs[i].at_.cell)/\w.cell? ⟨g,i*5+4,none⟩=some (.int .i64 rs[i].value):=by
 have d:∀j u,j < 5->(Rt.YV rs[i])[j]?=some u->w.cell? ⟨g,i*5+j,none⟩=some u:=by
  intro j u o k
  obtain⟨g',cap',f,_,_,y⟩:=yD h (j:=i*5+j) (u:=u) (by rw[VO rs i x j o];exact k)
  simp at f
  obtain⟨rfl,rfl⟩:=f
  exact y
 exact⟨d 0 _ (by omega) rfl,d 1 _ (by omega) rfl,d 2 _ (by omega) rfl,d 3 _ (by omega) rfl,d 4 _ (by omega) rfl⟩
theorem tn (w:World) (r:Rt.Rec):Calls Tryz.prog 189 #[.agg #[.int .i64 r.kind,.int .i64 r.line,.int .i64 r.at_.line,.int .i64 r.at_.cell,.int .i64 r.value]] w fun e w'=>e=.returned (.bool (Rt.jt r))/\Below w.heap.size w w':=by
 have f:=(zI w.heap.size w).alloc (zB _) (.cells #[.int .i64 r.kind,.int .i64 r.line,.int .i64 r.at_.line,.int .i64 r.at_.cell,.int .i64 r.value] 162)
 by_cases h1:r.kind=1
 ·have d:=zD (show Rt.jt r=true by simp[Rt.jt,h1])
  have j:(r.kind==1)=true:=by simpa using h1
  clear h1
  go_enter Tryz.func189,Tryz.ntmps189
  go_wp2_with fail
  go_ret
  exact⟨by rw[d.u];rfl,f⟩
 ·have j:(r.kind==1)=false:=by simpa using h1
  by_cases h2:r.kind=2
  ·have d:=zD (show Rt.jt r=true by simp[Rt.jt,h2])
   have i:(r.kind==2)=true:=by simpa using h2
   clear h1 h2
   go_enter Tryz.func189,Tryz.ntmps189
   go_wp2_with fail
   go_ret
   exact⟨by rw[d.u];rfl,f⟩
  ·have i:(r.kind==2)=false:=by simpa using h2
   by_cases h3:r.kind=3
   ·have d:=zD (show Rt.jt r=true by simp[Rt.jt,h3])
    have h:(r.kind==3)=true:=by simpa using h3
    clear h1 h2 h3
    go_enter Tryz.func189,Tryz.ntmps189
    go_wp2_with fail
    go_ret
    exact⟨by rw[d.u];rfl,f⟩
   ·have d:=zD (show Rt.jt r=false by simp[Rt.jt,h1,h2,h3])
    have h:(r.kind==3)=false:=by simpa using h3
    clear h1 h2 h3
    go_enter Tryz.func189,Tryz.ntmps189
    go_wp2_with fail
    go_ret
    exact⟨by rw[d.u];rfl,f⟩
structure aD (w:World) (P:Nat) (ty:TypeId) (cs:Array Value) (cap:Int) (rs:List Rt.Rec) (low:Int) (jv:Value):Prop where
 block:w.heap[P]?=some (.cells cs ty (0,0))
 c8:cs[8]?=some (.int .i64 cap)
 c9:cs[9]?=some jv
 GF:cs[10]?=some (.int .i64 low)
 own:w.ownsRow 0 162 5 jv rs.length (xE rs)
 ty:ty≠162
theorem aD.zP {rs:List Rt.Rec} (h:aD w P ty cs cap rs low jv) (d:Below w.heap.size w w'):aD w' P ty cs cap rs low jv:=
 ⟨zU h.block d,h.c8,h.c9,h.GF,yG h.own d,h.ty⟩
section
variable {w : World} {P : Nat} {ty : TypeId} {cs : Array Value} {cap : Int} {rs : List Rt.Rec} {low : Int} {jv : Value} (h : aD w P ty cs cap rs low jv)
include h
theorem aD.k8:w.cell? ⟨P,8,none⟩=some (.int .i64 cap):=(vj w P 8 cs ty (0,0) h.block).trans h.c8
theorem aD.k9:w.cell? ⟨P,9,none⟩=some jv:=(vj w P 9 cs ty (0,0) h.block).trans h.c9
theorem aD.ud:w.cell? ⟨P,10,none⟩=some (.int .i64 low):=(vj w P 10 cs ty (0,0) h.block).trans h.GF
theorem aD.fz (i:Nat):w.frozen? ⟨P,i,none⟩=false:=zS h.block i
theorem aD.ne:jv.ownBlock≠some P:=by
 intro e
 obtain⟨c,d⟩:=yW h.own e
 rw[h.block]at d
 injection d with d
 injection d with _ d
 exact h.ty d
end
theorem nW {rs:List Rt.Rec} (h:aD w P ty cs cap rs low jv) (Z:rs.length<=1000) :
  Calls Tryz.prog 210 #[.pointer (some ⟨P,8,none⟩)] w fun e w'=>e=.returned (.int .i64 ((Rt.qV rs:Nat):Int))/\Below w.heap.size w w':=by
 obtain⟨ad,D,rfl⟩:=zK h.own
 have L:=zD h
 clear h
 go_enter Tryz.func210,Tryz.ntmps210
 go_wp2_with fail
 go_loopw [3] (fun c wr=>∃k:Nat,k<=rs.length/\c=.int .i64 k/\(0 < k->0 < rs.length/\k<=Rt.qV rs)/\Below w.heap.size w wr) (fun c _=>rs.length+1-(intOf c).toNat)
 case atStart=>exact⟨0,zo _,rfl,fun h=>by omega,zI _ _⟩
 case round=>
  obtain⟨k,hk,rfl,d,f⟩:=hrel
  have o:=L.u.zP f
  have V:=o.k9
  by_cases hlt:k < rs.length
  ·have x:(k:Int) < (rs.length:Int):=by omega
   have I:(0:Int)<=(k:Int):=by omega
   obtain⟨g,gc,G,F,_⟩:=yD o.own (j:=k*5) (u:=.int .i64 rs[k].kind) (by have:=VO rs k hlt 0 (by omega);simpa[Rt.YV] using this)
   simp at G
   obtain⟨rfl,rfl⟩:=G
   obtain⟨U,T,R,O,N⟩:=sB o.own k hlt
   have z:=zD f
   by_cases hz:k=0
   ·subst hz
    have J:=zD (show 0 < rs.length/\1<=Rt.qV rs from⟨hlt,Rt.Zm hlt⟩)
    clear d f o
    go_wp2_with fail
    exact⟨⟨1,by omega,rfl,fun _=>J.u,z.u⟩,by simp[intOf]⟩
   ·have H:((k:Int)==0)=false:=by rw[zV];omega
    have HIN:=zD (d (by omega))
    have M:=zD (fun (W:World)=>tn W rs[k])
    have A:=zD (show Rt.jt rs[k]=true->k=Rt.qV rs from fun e=>by
     have:=(d (by omega)).2
     by_cases hke:k=Rt.qV rs
     ·exact hke
     ·rw[Rt.BC (by omega) (by omega) hlt]at e;cases e)
    have i:=zD (show Rt.jt rs[k]=false->k+1<=Rt.qV rs from fun e=>by
     have:=(d (by omega)).2
     by_cases hke:k=Rt.qV rs
     ·subst hke
      rw[Rt.DK hlt]at e;cases e
     ·omega)
    clear d f o
    generalize rs[k]=r at *
    go_wp2_with fail
    refine(M.u _).mono ?_
    rintro e w1 ⟨rfl,y⟩
    have HB1:=zD (z.u.trans (y.mono z.u.size))
    clear y
    cases hb:Rt.jt r with
    | true=>
     have HE:=zD (A.u hb)
     clear A i
     go_wp2_with fail
     go_ret
     exact⟨by rw[<-HE.u];rfl,HB1.u⟩
    | false=>
     have HE:=zD (i.u hb)
     clear A i
     go_wp2_with fail
     go_roundw
     case rel=>exact⟨k+1,by omega,by go_num,fun _=>⟨HIN.u.1,HE.u⟩,HB1.u⟩
     case measure=>simp[intOf];omega
  ·have x:¬(k:Int) < (rs.length:Int):=by omega
   have HE:=zD (show k=Rt.qV rs by
    have:=Rt.Kh rs
    by_cases h0:0 < k
    ·have:=d h0;omega
    ·omega)
   have z:=zD f
   clear d f o
   go_wp2_with fail
   go_ret
   exact⟨by rw[<-HE.u];rfl,z.u⟩
end Go.Proofs.YthleadfkfnnadaaGreat
