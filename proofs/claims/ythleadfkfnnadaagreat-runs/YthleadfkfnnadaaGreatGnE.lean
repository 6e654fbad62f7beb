/- Run, of a right source. -/
import Derived.Test.YthleadfkfnnadaaGreatGnA
import Derived.Test.YthleadfkfnnadaaGreatPlA
set_option maxHeartbeats 4000000
set_option maxRecDepth 100000
namespace Go.Proofs.YthleadfkfnnadaaGreat
open Go.RowKit
attribute [local go_sem ↓] Go.wp_at_zero Go.wp_at_succ
def parR (v:Int):Rt.Rec:=⟨7,0,⟨0,0⟩,v⟩
def zE3 (l c:Int) (ps:List Int) (k:Nat):List Value:=zDi (⟨3,l,⟨0,0⟩,c⟩::(ps.take k).map parR)
theorem zH6 {w:World} {b:Nat} {x y:Value} {t:TypeId} (h:w.heap[b]?=some (.cells #[x,y] t (0,0))):w.cell? ⟨b,0,none⟩=some x∧w.cell? ⟨b,1,none⟩=some y:=
 ⟨by have:=zC h 0 (by simp);simpa using this,by have:=zC h 1 (by simp);simpa using this⟩
theorem zOk (w:World) (M B:Nat) (ty:TypeId) (tail:List Value) (S:Rt.Src) (m:Rt.Mc) (X:McX) (h:McS w M B ty tail S m X) (hm:Mok S m) :
  Calls Tryz.prog 151 #[.pointer (some ⟨M,0,none⟩)] w (zI2 M B ty tail S X (Rt.zGu m) w):=by
 by_cases hfl:m.zD.length < 2
 ·refine(zNU w M B ty tail S m X h hfl).mono ?_
  intro e w' ho
  rw[show Rt.zGu m=Rt.ended m 1 by unfold Rt.zGu;rw[if_pos hfl]]
  exact ho
 ·obtain⟨fs,f,hfs,hf1,hlast,hdl⟩:=zOu hfl
  have HL:=zB (show Rt.zGu m=⟨0,wrap64 (f.call+1),⟨3,m.line,⟨0,0⟩,f.call⟩::f.params.map parR,{ m with zD:=fs }⟩ by unfold Rt.zGu;rw[if_neg hfl,hlast,hdl];rfl)
  obtain⟨j0,hj0,hy0,hy1,hy2⟩:=info_parts Tryz.infoRec
  have hflen:m.zD.length=fs.length+1:=by rw[hfs];simp
  have hl6:m.zD.length≤1000:=hm.zD
  have hpl:f.params.length≤1000:=hm.params f (by rw[hfs];simp)
  have hfr:=h.zD
  rw[hflen]at hfr
  obtain⟨fad,fcap,hfv⟩:=zE hfr
  have hpar:=h.zOU fs.length (by omega)
  have hfi:m.zD[fs.length]'(by omega)=f:=by simp[hfs]
  rw[hfi]at hpar
  obtain⟨g,gcap,hg,_,_,k1⟩:=zW hfr (zFB X.fps m.zD h.fl fs.length (by omega)).1
  obtain⟨g',gcap',hg',_,_,k2⟩:=zW hfr (zFB X.fps m.zD h.fl fs.length (by omega)).2
  rw[hfi]at k2
  rw[hg]at hg'
  simp at hg'
  obtain⟨rfl,rfl⟩:=hg'
  obtain⟨pad,pcap,hpv⟩:=zE hpar
  rw[hpv]at k1 hpar
  have c2:=h.c2
  rw[hg]at c2
  have c6:=h.c6
  have hMlt:=zJ h.block
  have HH:=zB (And.intro h (And.intro hm hpar))
  have hw1:=IntWalk.wrap64_in ((fs.length:Int)+1-1) (by omega)
  have hw:IntKind.i64.wrap ((fs.length:Int)+1-1)=(fs.length:Int):=by rw[IntWalk.i64_left,hw1];omega
  have hw3:IntKind.i64.wrap (fs.length:Int)=(fs.length:Int):=by rw[IntWalk.i64_left,IntWalk.wrap64_in _ (by omega)]
  have h0:(0:Int)≤(fs.length:Int):=by omega
  have h2:¬(fs.length:Int) < 1:=by omega
  have h3:(fs.length:Int) < (fs.length:Int)+1:=by omega
  clear h hfr hfv hpv hfi hlast hdl hw1
  clear hpar hfl hm hflen
  go_enter Tryz.func151,Tryz.ntmps151
  go_wp2_with fail
  have hbA:=((Below.refl w.heap.size w).alloc (Nat.le_refl _) (.cells #[.int .i64 0,.int .i64 0,.slice none 0 0] 157)).alloc (by simp) (.cells #[.slice pad f.params.length pcap,.int .i64 f.call] 153)
  have bR:=zV (heap_alloc_new w (.cells #[.int .i64 0,.int .i64 0,.slice none 0 0] 157)) (.cells #[.slice pad f.params.length pcap,.int .i64 f.call] 153)
  have bG:=zAG w (.cells #[.int .i64 0,.int .i64 0,.slice none 0 0] 157) (.cells #[.slice pad f.params.length pcap,.int .i64 f.call] 153)
  have hsA:((w.alloc (.cells #[.int .i64 0,.int .i64 0,.slice none 0 0] 157)).alloc (.cells #[.slice pad f.params.length pcap,.int .i64 f.call] 153)).heap.size=w.heap.size+2:=by simp
  revert hbA bR bG hsA
  generalize (w.alloc (.cells #[.int .i64 0,.int .i64 0,.slice none 0 0] 157)).alloc (.cells #[.slice pad f.params.length pcap,.int .i64 f.call] 153)=wA
  intro hbA bR bG hsA
  have d6:=((zA HH).1.zH hbA).c6
  obtain⟨g0,g1⟩:=zH6 bG
  have hMA:¬M=wA.heap.size:=by omega
  have HA:=zB (And.intro hbA (And.intro bR (And.intro bG hsA)))
  clear hbA bR bG c2 c6 k1 k2
  go_region_held3 (fun w'=>w'.cell? ⟨M,6,none⟩=some (.int .i64 m.line)∧w'.cell? ⟨w.heap.size+1,1,none⟩=some (.int .i64 f.call)) (go_keep) (fail)
  go_wp2_with fail
  go_loopw [5,6] (fun rv i wr=>∃k:Nat,k≤f.params.length∧i=.int .i64 k∧wr.ownsRow (w.heap.size+2) 162 5 rv (k+1) (zE3 m.line f.call f.params k)∧wr.heap[w.heap.size]?=some (.cells #[.int .i64 0,.int .i64 0,.slice none 0 0] 157 (0,0))∧wr.heap[w.heap.size+1]?=some (.cells #[.slice pad f.params.length pcap,.int .i64 f.call] 153 (0,0))∧Below w.heap.size w wr)
   (fun _ i _=>f.params.length-(intOf i).toNat)
  case atStart=>
   obtain⟨q1,q2,q3,q4⟩:=zA HA
   have hb:=Below.drew <| (Below.refl wA.heap.size wA).alloc (Nat.le_refl _) (.cells #[.int .i64 3,.int .i64 m.line,.int .i64 0,.int .i64 0,.int .i64 f.call] 162)
   have hf1:=zLG 1 wA (w.heap.size+2) #[.int .i64 3,.int .i64 m.line,.int .i64 0,.int .i64 0,.int .i64 f.call] (by omega) rfl (by omega)
   rw[q4]at hf1
   exact⟨0,Nat.zero_le _,rfl,hf1,zK q2 hb,zK q3 hb,q1.trans (hb.mono (B':=w.heap.size) q1.size)⟩
  case round=>
   obtain⟨k,hk,rfl,hrv,bR,bG,hbe⟩:=hrel
   obtain⟨rad,rcap,rfl⟩:=zE hrv
   obtain⟨g0,g1⟩:=zH6 bG
   clear d6 hsA
   by_cases hlt:k < f.params.length
   ·have hlt':(k:Int) < (f.params.length:Int):=by omega
    have hk0:(0:Int)≤(k:Int):=by omega
    obtain⟨b,bcap,hb1,_,hblt,cx⟩:=zW (zZ (zA HH).2.2 hbe) (j:=k) (u:=.int .i64 f.params[k]) (by simp[zz,hlt])
    simp at hb1
    obtain⟨rfl,rfl⟩:=hb1
    have HT:=zB (show zE3 m.line f.call f.params (k+1)=zE3 m.line f.call f.params k++[.int .i64 7,.int .i64 0,.int .i64 0,.int .i64 0,.int .i64 f.params[k]] by
     unfold zE3
     rw[List.take_add_one,List.getElem?_eq_getElem hlt,List.map_append,←List.cons_append]
     simp only[zDi,List.flatMap_append]
     rfl)
    have hRl:=zJ bR
    have hGl:=zJ bG
    have HX:=zB (And.intro bR (And.intro bG hbe))
    clear bR bG hbe
    generalize f.params[k]=x at *
    go_wp2_with (at_builtin;refine wpList_append_lies _ rfl _ _ 94 rfl (w.heap.size+2) 162 j0 _ 5 40 Tryz.underlying94 hj0 hy0 hy1 hy2 rfl (by decide) _ (k+1) _ rfl (hrv.alloc _) ⟨wr.heap.size,0,none⟩ 1 1 [.int .i64 7,.int .i64 0,.int .i64 0,.int .i64 0,.int .i64 x] rfl rfl (World.news_of_block (cs:=#[.int .i64 7,.int .i64 0,.int .i64 0,.int .i64 0,.int .i64 x]) (t:=162) (fr:=(0,0)) (heap_alloc_new wr _)) (by simp[Value.oneCell']) (by omega) (by unfold maxLen;omega) (by omega) (by simp;omega) (wr.heap.size+1) (by simp) ?_)
    intro g' cap' w4 hown4 hgrow hat hlt4
    obtain⟨bR,bG,hbe⟩:=zA HX
    have hbx:Below (w.heap.size+2) wr w4:=Below.grown ((Below.refl (w.heap.size+2) wr).alloc (by omega) _) hgrow (by simp;omega) (fun q hq=>(hrv.lt q hq).1)
    have HF:=zB (show _∧_∧_∧_ from⟨hown4,(hbx.block _ (by omega)).trans bR,(hbx.block _ (by omega)).trans bG,hbe.trans (hbx.mono (B':=w.heap.size) (by omega))⟩)
    clear hown4 hgrow hat hrv bR bG hbe hbx HX hRl hGl
    go_wp2_with fail
    go_roundw
    case rel=>
     obtain⟨q1,q2,q3,q4⟩:=zA HF
     exact⟨k+1,by omega,by go_num,by rw[zA HT];exact q1,q2,q3,q4⟩
    case measure=>simp[intOf];omega
   ·have hlt':¬(k:Int) < (f.params.length:Int):=by omega
    have hkn:k=f.params.length:=by omega
    subst hkn
    have HRV:=zB hrv
    go_wp2_with fail
    refine(zK5 wr M B ty tail S m X ((zA HH).1.zH hbe) fs f hfs hl6).mono ?_
    rintro e w5 ⟨rfl,X',hA5⟩
    have far:∀k,w.heap.size≤k→k < wr.heap.size→w5.heap[k]?=wr.heap[k]?:=fun k hk1 hk2=>hA5.frm.block k hk2 (fun hin=>by
     rcases List.mem_cons.mp hin with e | e
     ·omega
     ·rw[←(zA HH).1.zAJ]at e
      have:=(zA HH).1.own.lt k e
      omega)
    have bR5:=(far _ (Nat.le_refl _) (zJ bR)).trans bR
    have bG5:=(far _ (by omega) (zJ bG)).trans bG
    have hrv5:=zAZ (w':=w5) hrv (fun q hq=>far q (by have:=(hrv.lt q hq).1;omega) (hrv.lt q hq).2)
    have hA6:=Aft.from (zA HH).1 hbe hA5
    obtain⟨r0,r1,r2⟩:=zY bR5
    obtain⟨s0,s1⟩:=zH6 bG5
    have z:=zI bR5
    have HF:=zB (fun a b c=>And.intro (hA6.three bR5 (Nat.le_refl _) (by unfold PTy;decide) a b c) (show (W3 w5 w.heap.size a b c).ownsRow w.heap.size 162 5 (.slice rad (f.params.length+1) rcap) (f.params.length+1) (zE3 m.line f.call f.params f.params.length)from zAZ (zh hrv5 (by omega)) (fun q hq=>zFw _ _ _ _ _ _ (by have:=(hrv5.lt q hq).1;omega))))
    have HLN:=zB (show (⟨3,m.line,⟨0,0⟩,f.call⟩::f.params.map parR:List Rt.Rec).length=f.params.length+1∧zDi (⟨3,m.line,⟨0,0⟩,f.call⟩::f.params.map parR)=zE3 m.line f.call f.params f.params.length by
     unfold zE3
     rw[List.take_length]
     exact⟨by simp,rfl⟩)
    clear hA5 hA6 bR5 bG5 hrv5 hrv bR bG hbe far HRV g0 g1
    go_wp2_with fail
    refine bodyPost_ret (v:=.agg #[.int .i64 0,.int .i64 (wrap64 (f.call+1)),.slice rad (f.params.length+1) rcap]) ?_ rfl ⟨_,_,by rw[zA HL],by rw[zA HL];exact(zA HF _ _ _).1,by rw[zA HL];show World.ownsRow _ _ _ _ _ (List.length _) _;rw[(zA HLN).1,(zA HLN).2];exact(zA HF _ _ _).2⟩
    simp[results,Tryz.results151,go_sem,r0,r1,r2]
theorem zMy (w:World) (M B:Nat) (ty:TypeId) (tail:List Value) (S:Rt.Src) (m:Rt.Mc) (X:McX) (BB:Nat) (fm:Rt.zAU) (a1 a2 a3:Option Addr) (c1 c2 c3:Nat) (h:McS w M B ty tail S m X) (hm:Mok S m) (hf:zAd w BB (fmA fm a1 a2 a3 c1 c2 c3) fm) (hsm:Rt.Small fm) :
  Calls Tryz.prog 91 #[.pointer (some ⟨M,0,none⟩),.agg (fmA fm a1 a2 a3 c1 c2 c3)] w (zI2 M B ty tail S X (Rt.perform S m fm) w):=by
 have hops:=hsm.each
 have hix:=hsm.index
 have hbA:=((Below.refl w.heap.size w).alloc (Nat.le_refl _) (.cells (fmA fm a1 a2 a3 c1 c2 c3) 143)).alloc (by simp) (.cells #[.int .i64 0,.int .i64 0,.slice none 0 0] 157)
 have bR:=zAG w (.cells (fmA fm a1 a2 a3 c1 c2 c3) 143) (.cells #[.int .i64 0,.int .i64 0,.slice none 0 0] 157)
 have hA:=h.zH hbA
 have hfA:=zCO hf hbA
 have HL:=Rt.zKy S m fm
 generalize hO:Rt.perform S m fm=o at *
 go_enter Tryz.func91,Tryz.ntmps91
 go_wp2_with fail
 all_goals
  first
   | (refine(zQT _ M B ty tail S m X BB fm a1 a2 a3 c1 c2 c3 hA hm hfA hsm (by simpa using ‹(fm.kind==12)=true›)).mono ?_;rw[hO])
   | (refine(zMs _ M B ty tail S m X BB fm a1 a2 a3 c1 c2 c3 hA hm hfA hsm hops (by simpa using ‹(fm.kind==8)=true›)).mono ?_;rw[hO])
   | (refine(setCell_any _ M B ty tail S m X BB fm a1 a2 a3 c1 c2 c3 hA hm hfA hsm hops (by simpa using ‹(fm.kind==9)=true›) hix).mono ?_;rw[hO])
   | (refine(zP7 _ M B ty tail S m X BB fm a1 a2 a3 c1 c2 c3 hA hm hfA hsm hops (by simpa using ‹(fm.kind==10)=true›)).mono ?_;rw[hO])
   | (refine(zOG _ M B ty tail S m X fm a1 a2 a3 c1 c2 c3 hA hm (by simpa using ‹(fm.kind==11)=true›)).mono ?_;rw[hO])
   | (refine(zPE _ M B ty tail S m X BB fm a1 a2 a3 c1 c2 c3 hA hm hfA hsm hops (by first | exact Or.inl (by simpa using ‹(fm.kind==5)=true›)| exact Or.inr (by simpa using ‹(fm.kind==7)=true›))).mono ?_;rw[hO])
   | (refine(zOk _ M B ty tail S m X hA hm).mono ?_;rw[←HL (by simpa using ‹(fm.kind==8)=false›) (by simpa using ‹(fm.kind==9)=false›) (by simpa using ‹(fm.kind==10)=false›) (by simpa using ‹(fm.kind==11)=false›) (by simpa using ‹(fm.kind==5)=false›) (by simpa using ‹(fm.kind==7)=false›) (by simpa using ‹(fm.kind==12)=false›)])
  (rintro e w4 ⟨rv,X',rfl,ha,ho⟩;obtain⟨ad,cp,rfl⟩:=zE ho;have q:=zI2.held h hbA bR (by omega) ha ho;have HQ:=zB q.2;obtain⟨r0,r1,r2⟩:=zY q.1;have z:=zI q.1;clear q ha ho)
  go_wp2_with fail
  refine bodyPost_ret (v:=.agg #[.int .i64 o.fin,.int .i64 o.next,.slice ad o.zHF.length cp]) ?_ rfl (zA HQ _ _ _)
  simp[results,Tryz.results91,go_sem,r0,r1,r2]
theorem step_any (w:World) (M B:Nat) (ty:TypeId) (tail:List Value) (S:Rt.Src) (m:Rt.Mc) (X:McX) (h:McS w M B ty tail S m X) (hm:Mok S m) (hsm:Rt.Small (Rt.zT S.pls m.line)) (hfw:zLy S.pls S.lk) :
  Calls Tryz.prog 51 #[.pointer (some ⟨M,0,none⟩)] w (StepP M B ty tail S X m w):=by
 have c6:=h.c6
 have c7:=h.c7
 have HH:=zB h
 have HM:=zB hm
 have hMlt:=zJ h.block
 by_cases hz:m.fin=0
 ·clear h hm
  rw[hz]at c7
  have hb0:=(Below.refl w.heap.size w).alloc (Nat.le_refl _) (.cells #[.int .i64 0,.string ⟨#[]⟩,.int .i64 0,.slice none 0 0,.slice none 0 0,.slice none 0 0] 143)
  have hMne:¬M=w.heap.size:=by omega
  have HF:=zB (show (Rt.zd S.pls m.line).form=Rt.zT S.pls m.line from Rt.zCX _ _)
  have HB:=zB hb0
  have HO:=zB (heap_alloc_new w (.cells #[.int .i64 0,.string ⟨#[]⟩,.int .i64 0,.slice none 0 0,.slice none 0 0,.slice none 0 0] 143))
  clear hb0
  go_enter Tryz.func51,Tryz.ntmps51
  go_wp2_with fail
  apply cutL (F:=fun O a0 a1 a2 a3 c0 c1 c2 c3 wy=>zKo B (Rt.zd S.pls m.line).form w O a1 a2 a3 c1 c2 c3 wy)
  ·intro HT
   have HT':=zB HT
   clear HT
   go_region_with (first | (go_at_call 90;refine(zF0 _ _ _ _ _ _ _ m.line ((zA HH).prog.zH (zS _))).mono ?_;rintro e w1 ⟨a0,a1,a2,a3,k0,k1,k2,k3,rfl,-,hfv,hb⟩;have hf:=Tryz.zGI a0 (Rt.zd S.pls m.line).zf.length k0 (Rt.zd S.pls m.line).form.kind (Rt.zd S.pls m.line).form.name (Rt.zd S.pls m.line).form.cells a1 (Rt.zd S.pls m.line).form.params.length k1 a2 (Rt.zd S.pls m.line).form.index.length k2 a3 (Rt.zd S.pls m.line).form.values.length k3 (Rt.zd S.pls m.line).depth (Rt.zd S.pls m.line).opener (Rt.zAy S.lk m.line).1 (Rt.zAy S.lk m.line).2 (Rt.zd S.pls m.line).proc;have HR:=zB (zKo.one (zm hb) hfv);clear hb hfv)| (go_at_call 90;refine(zF0 _ _ _ _ _ _ _ m.line ((zA HH).prog.zH ((zA HB).drew))).mono ?_;rintro e w1 ⟨a0,a1,a2,a3,k0,k1,k2,k3,rfl,-,hfv,hb⟩;have hf:=Tryz.zGI a0 (Rt.zd S.pls m.line).zf.length k0 (Rt.zd S.pls m.line).form.kind (Rt.zd S.pls m.line).form.name (Rt.zd S.pls m.line).form.cells a1 (Rt.zd S.pls m.line).form.params.length k1 a2 (Rt.zd S.pls m.line).form.index.length k2 a3 (Rt.zd S.pls m.line).form.values.length k3 (Rt.zd S.pls m.line).depth (Rt.zd S.pls m.line).opener (Rt.zAy S.lk m.line).1 (Rt.zAy S.lk m.line).2 (Rt.zd S.pls m.line).proc;have hO:=zK (zA HO) (zm hb);have HR:=zB (zKo.two ((zA HB).trans ((zm hb).mono (by simp))) hO hfv (Nat.le_refl _));obtain⟨y0,y1,y2,y3,y4,y5,z0,z1,z2,z3,z4,z5⟩:=six hO;have yz:=zJ hO;clear hb hfv hO))
   all_goals
    rename_i hKK
    refine hKK _ _ ?_
    have HR':=zA HR
    revert HR'
    first
     | (generalize w1.alloc (.cells (fmA (Rt.zd S.pls m.line).form a1 a2 a3 k1 k2 k3) 143)=wy;generalize w1.heap.size=O)
     | (generalize W6 w1 w.heap.size (.int .i64 (Rt.zd S.pls m.line).form.kind) (.string (Rt.zd S.pls m.line).form.name) (.int .i64 (Rt.zd S.pls m.line).form.cells) (.slice a1 (Rt.zd S.pls m.line).form.params.length k1) (.slice a2 (Rt.zd S.pls m.line).form.index.length k2) (.slice a3 (Rt.zd S.pls m.line).form.values.length k3)=wy;generalize w.heap.size=O)
    intro HR'
    exact zA HT' _ a0 _ _ _ k0 _ _ _ _ HR'
  ·intro O a0 a1 a2 a3 c0 c1 c2 c3 wy hR
   have HS:=zB (show Rt.zAI S m=if (Rt.perform S m (Rt.zT S.pls m.line)).fin=0 then ({ (Rt.perform S m (Rt.zT S.pls m.line)).m with line:=Rt.goOn S.pls S.lk 102 (Rt.perform S m (Rt.zT S.pls m.line)).next },(Rt.perform S m (Rt.zT S.pls m.line)).zHF)else ({ m with fin:=(Rt.perform S m (Rt.zT S.pls m.line)).fin },[Rt.stay m.line]) by unfold Rt.zAI;rw[if_pos hz])
   rw[zA HF]at hR ⊢
   obtain⟨hbY,bO,hfv,hle⟩:=hR
   have hY:=(zA HH).zH hbY
   obtain⟨y0,y1,y2,y3,y4,y5,z0,z1,z2,z3,z4,z5⟩:=six bO
   go_wp2_with fail
   refine(zMy _ M B ty tail S m X B _ a1 a2 a3 c1 c2 c3 hY (zA HM) hfv hsm).mono ?_
   rintro e w4 ⟨rv,X',rfl,ha,ho⟩
   have HEN:=zB (zK0 S m (Rt.zT S.pls m.line))
   have HRG:=zB (zKx S m (Rt.zT S.pls m.line))
   generalize Rt.perform S m (Rt.zT S.pls m.line)=o at *
   obtain⟨ad,cp,rfl⟩:=zE ho
   have ha':=Aft.from (zA HH) hbY ha
   have ho':=zh ho hbY.size
   have hb5:=(Below.refl w4.heap.size w4).alloc (Nat.le_refl _) (.cells #[.int .i64 o.fin,.int .i64 o.next,.slice ad o.zHF.length cp] 157)
   have HA5:=zB (And.intro (ha'.below hb5) (And.intro (zZ ho' hb5) (heap_alloc_new w4 (.cells #[.int .i64 o.fin,.int .i64 o.next,.slice ad o.zHF.length cp] 157))))
   have HA4:=zB ha'
   have hO5:M < w4.heap.size:=Nat.lt_of_lt_of_le ha'.lt ha'.frm.size
   have hO6:¬M=w4.heap.size:=by omega
   have hO7:w.heap.size≤w4.heap.size:=ha'.frm.size
   have d7:=ha'.mc.c7
   have d6:=ha'.mc.c6
   have e7:=ha'.mc.fz 7
   have e6:=ha'.mc.fz 6
   clear ha ho ha' ho' hb5 hY hfv bO y0 y1 y2 y3 y4 y5 z0 z1 z2 z3 z4 z5 c6 c7
   by_cases hfn:o.fin=0
   ·replace HS:=zB ((zA HS).trans (if_pos hfn))
    have hfn':(o.fin != 0)=false:=by simpa using hfn
    rw[hfn]at HA5
    go_wp2_with fail
    go_region_with ((go_at_call 92;refine(zNe _ M B S.pls S.lk _ _ o.next ((zA HA5).1.mc.prog.zH (zS _)) (zA HM).pls hfw (zA HRG)).mono ?_;rintro e w6 ⟨rfl,hb6'⟩;have hb6:=zm hb6';obtain⟨hA5,ho5,bO5⟩:=zA HA5;have hA6:=hA5.below hb6;have ho6:=zZ ho5 hb6;have bO6:=zK bO5 hb6;have g6:=hA6.mc.c6;have k6:=hA6.mc.fz 6;obtain⟨r0,r1,r2⟩:=zY bO6;have HF1:=zB (hA6.own (m':={ o.m with line:=Rt.goOn S.pls S.lk 102 o.next }) 6 (.int .i64 (Rt.goOn S.pls S.lk 102 o.next)) (by simp[zAn]) rfl rfl rfl);have HF2:=zB (zAZ (w':=w6.setCell ⟨M,6,none⟩ (.int .i64 (Rt.goOn S.pls S.lk 102 o.next))) ho6 (fun g hg=>Below.heap_setCell w6 ⟨M,6,none⟩ _ g (by have:=(ho6.lt g hg).1;show g≠M;omega)));clear hA5 ho5 bO5 hA6 ho6 bO6 hb6 hb6'))
    all_goals
     clear d6 d7 e6 e7
     go_wp2_with fail
     go_ret
     exact⟨_,_,rfl,by rw[zA HS];exact zA HF1,by rw[zA HS];exact zA HF2⟩
   ·replace HS:=zB ((zA HS).trans (if_neg hfn))
    have hfn':(o.fin != 0)=true:=by simpa using hfn
    have hom:=zA HEN hfn
    have hA4:=zA HA4
    rw[hom]at hA4 d6 d7
    have hA6:=(hA4.own (m':={ m with fin:=o.fin }) 7 (.int .i64 o.fin) (by simp[zAn]) rfl rfl rfl).below ((Below.refl _ _).alloc (Nat.le_refl _) (.cells #[.int .i64 o.fin,.int .i64 o.next,.slice ad o.zHF.length cp] 157))
    have hsz:((w4.setCell ⟨M,7,none⟩ (.int .i64 o.fin)).alloc (.cells #[.int .i64 o.fin,.int .i64 o.next,.slice ad o.zHF.length cp] 157)).heap.size=w4.heap.size+1:=by simp[World.setCell]
    have HF1:=zB (hA6.below ((Below.refl _ _).alloc (Nat.le_refl _) (.cells #[.int .i64 1,.int .i64 m.line,.int .i64 0,.int .i64 0,.int .i64 0] 162)))
    have hfr:=zLG 1 ((w4.setCell ⟨M,7,none⟩ (.int .i64 o.fin)).alloc (.cells #[.int .i64 o.fin,.int .i64 o.next,.slice ad o.zHF.length cp] 157)) w.heap.size #[.int .i64 1,.int .i64 m.line,.int .i64 0,.int .i64 0,.int .i64 0] (hA6.frm.size) rfl (by omega)
    rw[hsz]at hfr
    have HF2:=zB hfr
    clear hA4 hA6 hfr hsz
    go_wp2_with fail
    go_ret
    exact⟨_,_,rfl,by rw[zA HS];exact zA HF1,by rw[zA HS];exact zA HF2⟩
 ·have hz':(m.fin != 0)=true:=by simpa using hz
  have HS:=zB (show Rt.zAI S m=(m,[]) by unfold Rt.zAI;rw[if_neg hz])
  clear h hm
  go_enter Tryz.func51,Tryz.ntmps51
  go_wp2_with fail
  go_ret
  exact⟨_,X,rfl,by rw[zA HS];exact Aft.start (zA HH) (Below.refl _ _),by rw[zA HS];exact World.ownsRow_nil _ _ _ _⟩
theorem zJH (w:World) (M B:Nat) (ty:TypeId) (tail:List Value) (S:Rt.Src) (m:Rt.Mc) (X:McX) (h:McS w M B ty tail S m X) :
  Calls Tryz.prog 50 #[.pointer (some ⟨M,0,none⟩)] w fun e w'=>e=.returned (.int .i64 m.fin)∧w'=w:=by
 have c7:=h.c7
 clear h
 go_enter Tryz.func50,Tryz.ntmps50
 go_wp2_with fail
 go_ret
 exact⟨rfl,rfl⟩
theorem zJq (w:World) (M B:Nat) (ty:TypeId) (tail:List Value) (S:Rt.Src) (m:Rt.Mc) (X:McX) (h:McS w M B ty tail S m X) (hl:m.output.length≤1000) :
  Calls Tryz.prog 52 #[.pointer (some ⟨M,0,none⟩)] w fun e w'=>Below w.heap.size w w'∧∃v,e=.returned v∧w'.ownsRow w.heap.size 3 1 v m.output.length (zz m.output):=by
 obtain⟨i0,hi0,hz0,hz1,hz2⟩:=info_parts Tryz.zCv
 have c5:=h.c5
 have ho:=h.out
 have hsrc:zBP w X.ov m.output:=by
  obtain⟨oa,oc,e⟩:=zE ho
  refine⟨oa,oc,e,?_⟩
  by_cases hn:m.output=[]
  ·exact Or.inl hn
  ·refine Or.inr ?_
   have hpos:0 < m.output.length:=List.length_pos_iff.mpr hn
   obtain⟨g,cap,hv,_,_,_⟩:=zW ho (j:=0) (u:=.int .i64 m.output[0]) (by simp[zz,hpos])
   refine⟨g,0,by rw[e]at hv;injection hv,fun j hj=>?_⟩
   obtain⟨g',cap',hv',_,_,hc⟩:=zW ho (j:=j) (u:=.int .i64 m.output[j]) (by simp[zz,hj])
   have e1:g=g':=by
    have h1:X.ov.ownBlock=some g:=by rw[hv];rfl
    have h2:X.ov.ownBlock=some g':=by rw[hv'];rfl
    rw[h1]at h2
    exact Option.some.inj h2
   subst e1
   rw[Nat.zero_add]
   exact hc
 obtain⟨oa,oc,hov⟩:=zE ho
 rw[hov]at c5 hsrc
 have HS:=zB hsrc
 clear h ho hsrc hov
 go_enter Tryz.func52,Tryz.ntmps52
 go_wp2_with (at_builtin;refine zCo _ rfl _ _ 24 24 rfl w.heap.size 3 i0 _ Tryz.underlying24 hi0 hz0 hz1 (by omega) rfl _ 0 [] rfl (World.ownsRow_nil _ _ _ _) _ m.output.length (m.output.map (Value.int .i64)) rfl (zA HS).src ?c1 ?c2 ?_)
 case c1=>omega
 case c2=>exact Nat.le_refl _
 intro v' w3 hown3 hgrow3
 have hb:Below w.heap.size w w3:=⟨hgrow3.os,hgrow3.tape,hgrow3.output,hgrow3.size,fun k hk=>hgrow3.block k hk (by simp[Value.ownBlock])⟩
 have hown4:w3.ownsRow w.heap.size 3 1 v' m.output.length (zz m.output):=hown3
 have HF:=zB (And.intro hb hown4)
 clear hb hown3 hown4 hgrow3
 go_wp2_with fail
 go_ret
 exact⟨(zA HF).1,_,rfl,(zA HF).2⟩
theorem McS.moved {w w':World} {M M' B:Nat} {ty ty':TypeId} {tail tail':List Value} {S:Rt.Src} {m:Rt.Mc} {X:McX} (h:McS w M B ty tail S m X) (hb:Below w.heap.size w w') (hM:w'.heap[M']?=some (.cells (zAn X m tail') ty' (0,0))) (ht:TyOk ty'):McS w' M' B ty' tail' S m X:=by
 have h':=h.zH hb
 refine⟨hM,⟨zJ hM,?_,h'.prog.own,h'.prog.lines,h'.prog.zJ7,h'.prog.len⟩,h'.own,h'.fl,h'.vl,ht⟩
 have:=zC hM 0 (by simp[zAn])
 simpa[zAn] using this
theorem zLE {M B:Nat} {ty:TypeId} {tail:List Value} {S:Rt.Src} {m:Rt.Mc} {X X':McX} {w w2 wr:World} (hA:Aft M B ty tail S X X' m w2 wr) (h2:Below w.heap.size w w2) (hM:w.heap.size < M) (hbl:∀k∈zDX X,w.heap.size≤k):Below w.heap.size w wr:=
 ⟨hA.frm.os.trans h2.os,hA.frm.tape.trans h2.tape,hA.frm.output.trans h2.output,Nat.le_trans h2.size hA.frm.size,fun j hj=>(hA.frm.block j (Nat.lt_of_lt_of_le hj h2.size) (fun hm=>by
  rcases List.mem_cons.mp hm with rfl | hm
  ·omega
  ·have:=hbl j hm;omega)).trans (h2.block j hj)⟩
abbrev zJQ:Array Value:=#[.int .i64 0,.int .i64 0,.slice none 0 0]
def RunP (S:Rt.Src) (n:Nat) (w:World) (e:Ending) (w':World):Prop:=
 Below w.heap.size w w'∧∃v,e=.returned (.tuple #[.agg #[.int .i64 (Rt.runM S n (Rt.firstM S)).1.fin,.int .i64 (Rt.runM S n (Rt.firstM S)).2,v],.int .i64 0,.int .i64 0])∧w'.ownsRow w.heap.size 3 1 v (Rt.runM S n (Rt.firstM S)).1.output.length (zz (Rt.runM S n (Rt.firstM S)).1.output)
theorem zQp (P:List Rt.PL) (n:Int):Rt.zT P n=Rt.zF∨∃p∈P,Rt.zT P n=p.form:=by
 unfold Rt.zT
 split
 ·exact Or.inl rfl
 ·cases e:P[n.toNat]? with
  | none=>exact Or.inl rfl
  | some p=>exact Or.inr ⟨p,List.mem_of_getElem? e,rfl⟩
theorem zMY {s:ByteArray} {pls:List Rt.PL} {inp:List Int} (h:Rt.zAY s=(0,0,pls)) (hl:inp.length≤100):Good (zA1 s pls inp):=by
 obtain⟨h1,h2,_⟩:=Rt.zGn h
 have hsm:∀p∈(zA1 s pls inp).pls,Rt.Small p.form:=fun p hp=>by
  obtain⟨q,hq,rfl⟩:=List.mem_map.mp hp
  exact h1 q hq
 refine⟨fun n=>?_,Rt.zMv h,?_⟩
 ·rcases zQp (zA1 s pls inp).pls n with e | ⟨p,hp,e⟩
  ·rw[e];exact Rt.zI9
  ·rw[e];exact hsm p hp
 ·refine⟨by simpa[zA1] using h2,hl,by simp[Rt.firstM],by simpa[Rt.firstM,zA1] using h2,by simp[Rt.firstM],?_,?_,hsm⟩
  ·intro f hf
   simp only[Rt.firstM,List.mem_singleton]at hf
   rw[hf]
   simp[Rt.zEU]
  ·intro l hl2
   simp only[Rt.firstM,List.mem_map]at hl2
   obtain⟨p,hp,rfl⟩:=hl2
   have:=(hsm p hp).cells
   unfold Rt.zA9
   rw[List.length_replicate]
   split <;> omega
theorem zP0 (s:ByteArray) (iv:Value) (inp:List Int) (fuel:Nat) (w:World) (pls:List Rt.PL) (hs:s.size≤maxLen) (hi:zBP w iv inp) (hR:Rt.zAY s=(0,0,pls)) (hl:inp.length≤100) (hfu:fuel≤1000) :
  Calls Tryz.prog 25 #[.string s,iv,.int .i64 fuel] w (RunP (zA1 s pls inp) fuel w):=by
 have hfit:=zO4 hR
 have hS:=zMY hR hl
 have HI:=zB hi
 obtain⟨iad,icap,rfl,_⟩:=hi
 go_enter Tryz.func25,Tryz.ntmps25
 go_wp2_with fail
 have hb0:=(Below.refl w.heap.size w).alloc (Nat.le_refl _) (.cells zJQ 52)
 refine(zMI s _ inp _ hs ((zA HI).zH hb0) (fun p hp=>by rw[hR]at hp;injection hp with _ hp;injection hp with _ hp;rw[←hp];exact hfit)).mono ?_
 rintro e w1 ⟨hb1,hcase⟩
 have hB1:Below w.heap.size w w1:=hb0.trans (hb1.mono (by simp))
 have bR1:=zK (heap_alloc_new w (.cells zJQ 52)) hb1
 rcases hcase with⟨hlt,_⟩| ⟨_,er,ln,pls',hR',hc⟩
 ·exact absurd hlt (by omega)
 rw[hR]at hR'
 injection hR' with e1 hR'
 injection hR' with e2 e3
 subst e1 e2 e3
 rcases hc with⟨h0,_⟩| ⟨_,_,hlen,M0,X,rfl,hM0,hblk,hmc⟩
 ·exact absurd rfl h0
 have hkeep:=zFn hS
 obtain⟨la,lc,ia,ic,fa,fc,va,vc,oa,oc,q1,q2,q3,q4,q5⟩:=hmc.shape
 generalize hm0:Rt.firstM (zA1 s pls inp)=m0 at *
 have hcells:zAn X m0 []=#[.slice la pls.length lc,.slice ia inp.length ic,.slice fa m0.zD.length fc,.slice va m0.values.length vc,.int .i64 m0.taken,.slice oa m0.output.length oc,.int .i64 m0.line,.int .i64 m0.fin]:=by
  simp only[zAn,q1,q2,q3,q4,q5,zA1,List.length_map]
  rfl
 rw[hcells]
 have hb2:=(Below.refl w1.heap.size w1).alloc (Nat.le_refl _) (.cells (zAn X m0 []) 90)
 have hm2:=hmc.moved hb2 (heap_alloc_new w1 (.cells (zAn X m0 []) 90)) (by unfold TyOk;decide)
 rw[hcells]at hb2 hm2
 have H2:=zB (And.intro hm2 (And.intro (hB1.trans (hb2.mono (B':=w.heap.size) hB1.size)) (zK bR1 hb2)))
 have HBL:=zB (fun k hk=>Nat.le_trans (show w.heap.size≤_ by simp) (hblk k hk))
 have hRlt:=zJ bR1
 have hfu0:¬(fuel:Int) < 0:=by omega
 have hfu1:¬(1000:Int) < (fuel:Int):=by omega
 have HK:=zB hkeep
 have HS:=zB hS
 have HM0:=zB hm0
 clear hmc hm2 hb2 hcells q1 q2 q3 q4 q5 hb0 hb1 hB1 bR1 hkeep hblk hR hfit hm0 hS
 go_wp2_with fail
 generalize (zA1 s pls inp)=S at *
 generalize (w1.alloc (.cells #[.slice la pls.length lc,.slice ia inp.length ic,.slice fa m0.zD.length fc,.slice va m0.values.length vc,.int .i64 m0.taken,.slice oa m0.output.length oc,.int .i64 m0.line,.int .i64 m0.fin] 90))=w2 at *
 have hw2:w1.heap.size < w2.heap.size:=zJ (zA H2).1.block
 generalize w1.heap.size=M at *
 generalize (w.alloc (.cells zJQ 52)).heap.size=B at *
 go_loopw [12] (fun i wr=>∃(k:Nat) (m:Rt.Mc) (X':McX),k≤fuel∧i=.int .i64 k∧Aft M B 90 [] S X X' m w2 wr∧zET S m∧Rt.runM S fuel m0=((Rt.runM S (fuel-k) m).1,(Rt.runM S (fuel-k) m).2+k))
  (fun i _=>fuel+1-(intOf i).toNat)
 case atStart=>exact⟨0,m0,X,Nat.zero_le _,rfl,Aft.start (zA H2).1 (Below.refl _ _),zA HK,rfl⟩
 case round=>
  obtain⟨k,m,X',hk,rfl,hA,hkm,hrun⟩:=hrel
  have HA:=zB hA
  have HKM:=zB hkm
  have HRUN:=zB hrun
  clear hA hkm hrun
  by_cases hlt:k < fuel
  ·have hlt':(k:Int) < (fuel:Int):=by omega
   by_cases hz:m.fin=0
   ·have hz':(m.fin==0)=true:=by simpa using hz
    go_wp2_with fail
    refine(zJH _ M B _ _ S m X' (zA HA).mc).mono ?_
    rintro e w3 ⟨rfl,rfl⟩
    go_wp2_with fail
    refine(step_any _ M B _ _ S m X' (zA HA).mc (zA HKM).mok ((zA HS).small _) (zA HS).fwd).mono ?_
    rintro e w4 ⟨rv,X'',rfl,hA4,_⟩
    have hA5:=(zA HA).more hA4.mc hA4.frm hA4.grow
    have HF:=zB (And.intro hA5 (zGk (zA HS) (zA HKM)))
    have HN:=zB (show Rt.runM S fuel m0=((Rt.runM S (fuel-(k+1)) (Rt.zAI S m).1).1,(Rt.runM S (fuel-(k+1)) (Rt.zAI S m).1).2+(k+1)) by
     rw[zA HRUN,show fuel-k=(fuel-(k+1))+1 by omega,Rt.runM,if_pos hz]
     simp only[Prod.mk.injEq,true_and]
     omega)
    clear hA4 hA5
    go_wp2_with fail
    go_roundw
    case rel=>exact⟨k+1,_,_,by omega,by go_num,(zA HF).1,(zA HF).2,zA HN⟩
    case measure=>simp[intOf];omega
   ·have hz':(m.fin==0)=false:=by simpa using hz
    have HE:=zB (show Rt.runM S fuel m0=(m,k) by
     rw[zA HRUN,show fuel-k=(fuel-k-1)+1 by omega,Rt.runM,if_neg hz]
     simp)
    go_wp2_with fail
    refine(zJH _ M B _ _ S m X' (zA HA).mc).mono ?_
    rintro e w3 ⟨rfl,rfl⟩
    go_wp2_with fail
    refine(zJq _ M B _ _ S m X' (zA HA).mc (Nat.le_trans (zA HKM).out (by omega))).mono ?_
    rintro e w5 ⟨hb5,v,rfl,hown5⟩
    have hB:=zLE (zA HA) (zA H2).2.1 hRlt (zA HBL)
    have bR:=zK (Aft.keeps (zA H2).1 (zA HA) (zA H2).2.2 (by omega) (by decide)) hb5
    have hmc5:=(zA HA).mc.zH hb5
    have hB5:=hB.trans (hb5.mono (B':=w.heap.size) hB.size)
    have hown6:=zh hown5 hB.size
    obtain⟨ad,cap,rfl⟩:=zE hown5
    obtain⟨r0,r1,r2⟩:=zY bR
    have z:=zI bR
    have HF:Hid (∀a b c,Below w.heap.size w (W3 w5 w.heap.size a b c)∧(W3 w5 w.heap.size a b c).ownsRow w.heap.size 3 1 (.slice ad m.output.length cap) m.output.length (zz m.output)):=zB (fun a b c=>⟨zt (zt (zt hB5 (Nat.le_refl _) _ _) (Nat.le_refl _) _ _) (Nat.le_refl _) _ _,zAZ hown6 (fun g hg=>zFw _ _ _ _ _ _ (by have:=(hown5.lt g hg).1;have:=(zA HA).frm.size;omega))⟩)
    have HM5:=zB hmc5
    clear hown5 hown6 hB hB5 bR hmc5 hb5
    go_wp2_with fail
    refine(zJH _ M B _ _ S m X' (zA HM5)).mono ?_
    rintro e w6 ⟨rfl,rfl⟩
    go_wp2_with fail
    refine bodyPost_ret (v:=.tuple #[.agg #[.int .i64 m.fin,.int .i64 k,.slice ad m.output.length cap],.int .i64 0,.int .i64 0]) ?_ rfl ⟨(zA HF _ _ _).1,.slice ad m.output.length cap,by rw[zA HM0,zA HE],by rw[zA HM0,zA HE];exact(zA HF _ _ _).2⟩
    simp[results,Tryz.results25,go_sem,r0,r1,r2]
  ·have hlt':¬(k:Int) < (fuel:Int):=by omega
   have HE:=zB (show Rt.runM S fuel m0=(m,k) by
     rw[zA HRUN,show fuel-k=0 by omega,Rt.runM]
     simp)
   go_wp2_with fail
   refine(zJq _ M B _ _ S m X' (zA HA).mc (Nat.le_trans (zA HKM).out (by omega))).mono ?_
   rintro e w5 ⟨hb5,v,rfl,hown5⟩
   have hB:=zLE (zA HA) (zA H2).2.1 hRlt (zA HBL)
   have bR:=zK (Aft.keeps (zA H2).1 (zA HA) (zA H2).2.2 (by omega) (by decide)) hb5
   have hmc5:=(zA HA).mc.zH hb5
   have hB5:=hB.trans (hb5.mono (B':=w.heap.size) hB.size)
   have hown6:=zh hown5 hB.size
   obtain⟨ad,cap,rfl⟩:=zE hown5
   obtain⟨r0,r1,r2⟩:=zY bR
   have z:=zI bR
   have HF:Hid (∀a b c,Below w.heap.size w (W3 w5 w.heap.size a b c)∧(W3 w5 w.heap.size a b c).ownsRow w.heap.size 3 1 (.slice ad m.output.length cap) m.output.length (zz m.output)):=zB (fun a b c=>⟨zt (zt (zt hB5 (Nat.le_refl _) _ _) (Nat.le_refl _) _ _) (Nat.le_refl _) _ _,zAZ hown6 (fun g hg=>zFw _ _ _ _ _ _ (by have:=(hown5.lt g hg).1;have:=(zA HA).frm.size;omega))⟩)
   have HM5:=zB hmc5
   clear hown5 hown6 hB hB5 bR hmc5 hb5
   go_wp2_with fail
   refine(zJH _ M B _ _ S m X' (zA HM5)).mono ?_
   rintro e w6 ⟨rfl,rfl⟩
   go_wp2_with fail
   refine bodyPost_ret (v:=.tuple #[.agg #[.int .i64 m.fin,.int .i64 k,.slice ad m.output.length cap],.int .i64 0,.int .i64 0]) ?_ rfl ⟨(zA HF _ _ _).1,.slice ad m.output.length cap,by rw[zA HM0,zA HE],by rw[zA HM0,zA HE];exact(zA HF _ _ _).2⟩
   simp[results,Tryz.results25,go_sem,r0,r1,r2]
end Go.Proofs.YthleadfkfnnadaaGreat
