/- What a run keeps to, calls and all: plain. -/
import Derived.Test.YthleadfkfnnadaaGreatCaA
set_option maxHeartbeats 4000000
set_option maxRecDepth 100000
namespace Go.Proofs.YthleadfkfnnadaaGreat
open Go.RowKit
attribute [local go_sem ↓] Go.wp_at_zero Go.wp_at_succ
theorem Tryz.zQj:(Tryz.prog.info? 153).map (fun i=>(i.zero,i.size,i.bytes))=some (some (.agg #[.slice none 0 0,.int .i64 0]),2,32):=by kernel_rfl
namespace Rt
theorem zPG (S:Src) (m:Mc) (vs:List (List Pop)) (k:Nat) (hk:k < vs.length) (acc:List Int):argsI S m (vs.drop k) acc=if (zN S m vs[k]).2=0 then argsI S m (vs.drop (k+1)) (acc++[(zN S m vs[k]).1])else (acc,(zN S m vs[k]).2):=by
 rw[List.drop_eq_getElem_cons hk,argsI]
end Rt
theorem cutM {Goal:Prop} {F:Nat→Nat→World→Prop} {R:Code} {post:Exit→Act→World→Prop} {fr:Nat→Nat→Act} (main:(∀g c wy,F g c wy→Code.wp Tryz.prog R post (fr g c) wy)→Goal) (pf:∀g c wy,F g c wy→Code.wp Tryz.prog R post (fr g c) wy):Goal:=main pf
theorem call_aft {w wr w4:World} {M B:Nat} {ty:TypeId} {tail:List Value} {S:Rt.Src} {m:Rt.Mc} {X:McX} {fad:Option Addr} {fcap g cap':Nat} {pv:Value} {acc:List Int} {o:Obj} {cF cR:Array Value} {tF tR:TypeId} {F:Nat} (h:McS w M B ty tail S m X) (hb:Below w.heap.size w wr) (hfv:X.fv=.slice fad m.zD.length fcap) (hn:wr.ownsRow w.heap.size 3 1 pv acc.length (zz acc))
  (hg:(wr.alloc o).drew.grownBy w4 (Value.slice fad m.zD.length fcap).ownBlock) (hown:w4.ownsRow 0 153 2 (.slice (some ⟨g,0,none⟩) (m.zD.length+1) cap') (m.zD.length+1) (fCells X.fps m.zD++[pv,.int .i64 m.line])) (hat:(Value.slice fad m.zD.length fcap).ownBlock=some g∨g=wr.heap.size+1)
  (bF:wr.heap[F]?=some (.cells cF tF (0,0))) (bR:wr.heap[F+1]?=some (.cells cR tR (0,0))) (hF:w.heap.size≤F) :
  Aft M B ty tail S X { X with fv:=.slice (some ⟨g,0,none⟩) (m.zD.length+1) cap',fps:=X.fps++[pv] } { m with zD:=m.zD++[⟨acc,m.line⟩] } w (w4.setCell ⟨M,2,none⟩ (.slice (some ⟨g,0,none⟩) (m.zD.length+1) cap'))∧(w4.setCell ⟨M,2,none⟩ (.slice (some ⟨g,0,none⟩) (m.zD.length+1) cap')).heap[F]?=some (.cells cF tF (0,0))∧(w4.setCell ⟨M,2,none⟩ (.slice (some ⟨g,0,none⟩) (m.zD.length+1) cap')).heap[F+1]?=some (.cells cR tR (0,0)):=by
 have hby:Below wr.heap.size wr (wr.alloc o).drew:=((Below.refl _ wr).alloc (Nat.le_refl _) o).drew
 rw[←hfv]at hg hat
 obtain⟨q1,q2,q3⟩:=h.zQo hb hby pv acc m.line hn hg (.slice (some ⟨g,0,none⟩) (m.zD.length+1) cap') hown (fun k hk=>by simp[Value.ownBlock]at hk;subst hk;rcases hat with e | e;exact Or.inl e;exact Or.inr (by omega))
 have hMlt:=zJ h.block
 have far:∀k,w.heap.size≤k→k < wr.heap.size→(w4.setCell ⟨M,2,none⟩ (.slice (some ⟨g,0,none⟩) (m.zD.length+1) cap')).heap[k]?=wr.heap[k]?:=by
  intro k hk hk2
  rw[Below.heap_setCell w4 ⟨M,2,none⟩ _ k (by show k≠M;omega),hg.block k (Nat.lt_of_lt_of_le hk2 hby.size) (fun e=>by have:=(h.zD.lt k e.symm).2;omega)]
  exact hby.block k hk2
 exact⟨⟨q1,q2,q3,hMlt⟩,(far F hF (zJ bF)).trans bF,(far (F+1) (by omega) (zJ bR)).trans bR⟩
theorem zQT (w:World) (M B:Nat) (ty:TypeId) (tail:List Value) (S:Rt.Src) (m:Rt.Mc) (X:McX) (BB:Nat) (fm:Rt.zAU) (a1 a2 a3:Option Addr) (c1 c2 c3:Nat) (h:McS w M B ty tail S m X) (hm:Mok S m) (hf:zAd w BB (fmA fm a1 a2 a3 c1 c2 c3) fm) (hsm:Rt.Small fm) (hk:fm.kind=12) :
  Calls Tryz.prog 150 #[.pointer (some ⟨M,0,none⟩),.agg (fmA fm a1 a2 a3 c1 c2 c3)] w (zI2 M B ty tail S X (Rt.perform S m fm) w):=by
 obtain⟨i0,hi0,hz0,hz1,hz2⟩:=info_parts Tryz.zCv
 obtain⟨j0,hj0,hy0,hy1,hy2⟩:=info_parts Tryz.zQj
 have hbA:=((Below.refl w.heap.size w).alloc (Nat.le_refl _) (.cells (fmA fm a1 a2 a3 c1 c2 c3) 143)).alloc (by simp) (.cells #[.int .i64 0,.int .i64 0,.slice none 0 0] 157)
 have bF:=zV (heap_alloc_new w (.cells (fmA fm a1 a2 a3 c1 c2 c3) 143)) (.cells #[.int .i64 0,.int .i64 0,.slice none 0 0] 157)
 have bR:=zAG w (.cells (fmA fm a1 a2 a3 c1 c2 c3) 143) (.cells #[.int .i64 0,.int .i64 0,.slice none 0 0] 157)
 have HP:=zB (show Rt.perform S m fm=if (Rt.argsI S m fm.values []).2=0 then (if 6≤m.zD.length then Rt.ended m 5 else ⟨0,wrap64 (Rt.zAE S.pls fm.name+1),[⟨2,m.line,⟨0,0⟩,0⟩],{ m with zD:=m.zD++[⟨(Rt.argsI S m fm.values []).1,m.line⟩] }⟩)else Rt.ended m (Rt.argsI S m fm.values []).2 by unfold Rt.perform;simp only;rw[if_neg (by omega),if_neg (by omega),if_neg (by omega),if_neg (by omega),if_neg (by omega),if_pos hk])
 have HH:=zB (And.intro h (And.intro hm hf))
 have hvl:=hsm.values
 have HE:=zB hsm.each
 have hMlt:=zJ h.block
 clear h hf hk hm hsm
 go_enter Tryz.func150,Tryz.ntmps150
 go_wp2_with fail
 go_loopw [5,6,7,8] (fun pv i _ _ wr=>∃(k:Nat) (acc:List Int),k≤fm.values.length∧i=.int .i64 k∧acc.length=k∧Rt.argsI S m (fm.values.drop k) acc=Rt.argsI S m fm.values []∧wr.ownsRow (w.heap.size+2) 3 1 pv acc.length (zz acc)∧wr.heap[w.heap.size]?=some (.cells (fmA fm a1 a2 a3 c1 c2 c3) 143 (0,0))∧wr.heap[w.heap.size+1]?=some (.cells #[.int .i64 0,.int .i64 0,.slice none 0 0] 157 (0,0))∧Below w.heap.size w wr)
  (fun _ i _ _ _=>fm.values.length-(intOf i).toNat)
 case atStart=>exact⟨0,[],Nat.zero_le _,rfl,rfl,rfl,World.ownsRow_nil _ _ _ _,bF,bR,hbA⟩
 case round=>
  clear bF bR hbA
  obtain⟨k,acc,hk,rfl,hacc,hT,hpv,hF,hR,hbe⟩:=hrel
  subst hacc
  obtain⟨pad,pcap,rfl⟩:=zE hpv
  obtain⟨y0,y1,y2,y3,y4,y5,z0,z1,z2,z3,z4,z5⟩:=six hF
  by_cases hlt:acc.length < fm.values.length
  ·have hlt':(acc.length:Int) < (fm.values.length:Int):=by omega
   have hk0:(0:Int)≤(acc.length:Int):=by omega
   obtain⟨pv0,iv0,vv,vs,hfe,_,_,b3,b4⟩:=zCO (zA HH).2.2 hbe
   have hvv:vv=.slice a3 fm.values.length c3:=by simp[fmA]at hfe;exact hfe.2.2.symm
   subst hvv
   obtain⟨xv,hx1,hx2⟩:=zAc.get _ _ acc.length hlt b4
   obtain⟨adx,capx,rfl⟩:=zE hx2
   obtain⟨g,cap',hg,_,hglt,cx⟩:=zW b3 hx1
   simp at hg
   obtain⟨rfl,rfl⟩:=hg
   have hob:=zA HE _ (List.getElem_mem hlt)
   have hAN:=Rt.zPG S m fm.values acc.length hlt acc
   rw[hT]at hAN
   have HT:=zB hAN
   have HX:=zB (And.intro hpv (And.intro hF (And.intro hR hbe)))
   clear hAN hT hpv hF hR b3 b4 hx1 hfe
   generalize fm.values[acc.length]=ov at *
   have HV:=zB (fun (W:World) (hW:Below wr.heap.size wr W)=>zFD W M B ty tail S m X BB adx capx ov (((zA HH).1.zH hbe).zH hW) (zA HH).2.1 (zZ hx2 hW) hob)
   clear hx2 hbe
   go_wp2_with fail
   refine(zA HV _ (Below.refl _ _)).mono ?_
   rintro e w1 ⟨rfl,hb1⟩
   obtain⟨hpv,hF,hR,hbe⟩:=zA HX
   have hpv1:=zZ hpv hb1
   have hF1:=zK hF hb1
   have hR1:=zK hR hb1
   have hbe1:=hbe.trans (hb1.mono (B':=w.heap.size) hbe.size)
   clear hpv hF hR hbe hb1 HX HV hglt cx y0 y1 y2 y3 y4 y5 z0 z1 z2 z3 z4 z5
   generalize Rt.zN S m ov=y at *
   obtain⟨v1,v2⟩:=y
   simp only at HT
   by_cases hv:v2=0
   ·subst hv
    replace HT:=zB ((zA HT).trans (if_pos rfl))
    have hRl:=zJ hR1
    have HX:=zB (And.intro hpv1 (And.intro hF1 (And.intro hR1 hbe1)))
    clear hF1 hR1 hbe1
    go_wp2_with (at_builtin;refine wpList_append_lies _ rfl _ _ 24 rfl (w.heap.size+2) 3 i0 _ 1 8 Tryz.underlying24 hi0 hz0 hz1 hz2 rfl (by decide) _ _ _ rfl (hpv1.alloc _) ⟨w1.heap.size,0,none⟩ 1 1 [.int .i64 v1] rfl rfl (cell_one_new _ _ _) (by simp[Value.oneCell']) (by omega) (by unfold maxLen;omega) (by omega) (by simp;omega) (w1.heap.size+1) (by simp) ?_)
    intro g' cap' w4 hown4 hgrow hat hlt4
    obtain⟨_,hF1,hR1,hbe1⟩:=zA HX
    have hbx:Below (w.heap.size+2) w1 w4:=Below.grown ((Below.refl (w.heap.size+2) w1).alloc (by omega) _) hgrow (by simp;omega) (fun q hq=>(hpv1.lt q hq).1)
    have HF:=zB (show _∧_∧_∧_ from⟨hown4,(hbx.block _ (by omega)).trans hF1,(hbx.block _ (by omega)).trans hR1,hbe1.trans (hbx.mono (B':=w.heap.size) (by omega))⟩)
    clear hown4 hgrow hat hpv1 hF1 hR1 hbe1 hbx HX hRl
    go_wp2_with fail
    go_roundw
    case rel=>
     obtain⟨q1,q2,q3,q4⟩:=zA HF
     exact⟨acc.length+1,acc++[v1],by omega,by go_num,by simp,(zA HT).symm,by rw[List.length_append,zz,List.map_append];exact q1,q2,q3,q4⟩
    case measure=>simp[intOf];omega
   ·replace HT:=zB ((zA HT).trans (if_neg hv))
    have HP2:=zB (show Rt.perform S m fm=Rt.ended m v2 by rw[zA HP,zA HT];exact if_neg hv)
    have bv:(v2 != 0)=true:=by simpa using hv
    obtain⟨r0,r1,r2⟩:=zY hR1
    have z:=zI hR1
    have HF:=zB (fun a b c=>(Aft.start (zA HH).1 hbe1).three hR1 (by omega) (by unfold PTy;decide) a b c)
    clear hpv1 hF1 hR1 hbe1 HP HT hv
    go_wp2_with fail
    refine bodyPost_ret (v:=.agg #[.int .i64 v2,.int .i64 0,.slice none 0 0]) ?_ rfl ⟨_,_,by rw[zA HP2];rfl,by rw[zA HP2];exact zA HF _ _ _,by rw[zA HP2];exact World.ownsRow_nil _ _ _ _⟩
    simp[results,Tryz.results150,go_sem,r0,r1,r2]
  ·have hlt':¬(acc.length:Int) < (fm.values.length:Int):=by omega
   have HT:=zB (show Rt.argsI S m fm.values []=(acc,0) by rw[←hT,List.drop_eq_nil_of_le (by omega)];rfl)
   have hP2:=(zA HP).trans (if_pos (by rw[zA HT]))
   rw[zA HT]at hP2
   replace HP:=zB hP2
   clear hP2
   have hmr:=(zA HH).1.zH hbe
   have cM2:=hmr.c2
   have cM6:=hmr.c6
   obtain⟨fad,fcap,hfv⟩:=zE hmr.zD
   rw[hfv]at cM2
   by_cases h6:6≤m.zD.length
   ·have h6':(6:Int)≤(m.zD.length:Int):=by omega
    replace HP:=zB ((zA HP).trans (if_pos h6))
    obtain⟨r0,r1,r2⟩:=zY hR
    have z:=zI hR
    have HF:=zB (fun a b c=>(Aft.start (zA HH).1 hbe).three hR (by omega) (by unfold PTy;decide) a b c)
    clear hmr hfv h6 hR hF hpv hbe hT hlt
    go_wp2_with fail
    refine bodyPost_ret (v:=.agg #[.int .i64 5,.int .i64 0,.slice none 0 0]) ?_ rfl ⟨_,_,by rw[zA HP];rfl,by rw[zA HP];exact zA HF _ _ _,by rw[zA HP];exact World.ownsRow_nil _ _ _ _⟩
    simp[results,Tryz.results150,go_sem,r0,r1,r2]
   ·have h6':¬(6:Int)≤(m.zD.length:Int):=by omega
    replace HP:=zB ((zA HP).trans (if_neg h6))
    have HX:=zB (And.intro hmr (And.intro hpv (And.intro hF (And.intro hR (And.intro hbe hfv)))))
    have hfr:=hmr.zD
    rw[hfv]at hfr
    have HNE:=zB (show some M≠(Value.slice fad m.zD.length fcap).ownBlock by rw[←hfv];exact Ne.symm hmr.zPa)
    have HBM:=zB hmr.block
    have hMr:=zJ hmr.block
    have HFR:=zB hfr
    have hsz:=hbe.size
    clear hmr hfv hR hF hpv hbe hT hlt hfr
    go_wp2_with fail
    apply cutM (F:=fun g c wy=>Aft M B ty tail S X { X with fv:=.slice (some ⟨g,0,none⟩) (m.zD.length+1) c,fps:=X.fps++[.slice pad acc.length pcap] } { m with zD:=m.zD++[⟨acc,m.line⟩] } w wy∧wy.heap[w.heap.size]?=some (.cells (fmA fm a1 a2 a3 c1 c2 c3) 143 (0,0))∧wy.heap[w.heap.size+1]?=some (.cells #[.int .i64 0,.int .i64 0,.slice none 0 0] 157 (0,0)))
    ·intro HT0
     have HT':=zB HT0
     clear HT0
     go_region_law
      ((refine step_append_lies _ (by rfl) _ _ _ (by rfl) 0 153 j0 _ 2 32 Tryz.underlying88 hj0 hy0 hy1 hy2 rfl (by omega) _ m.zD.length (fCells X.fps m.zD) (by rfl) (((zA HFR).alloc _).drew) ⟨wr.heap.size,0,none⟩ 1 1 [.slice pad acc.length pcap,.int .i64 m.line] (by rfl) (by rfl) (World.news_of_block (cs:=#[.slice pad acc.length pcap,.int .i64 m.line]) (t:=153) (fr:=(0,0)) (heap_alloc_new wr _)) (by simp[Value.oneCell']) (by omega) (by unfold maxLen;omega) (by omega) (Nat.zero_le _) (wr.heap.size+1) (by simp) ?_;intro g cap' w4 hown4 hgrow hat hlt4;have bM:=(hgrow.block M (by simp;omega) (zA HNE)).trans (zV (zA HBM) _);have d2:w4.cell? ⟨M,2,none⟩=some X.fv:=(by have:=zC bM 2 (by simp);simpa using this);rw[(zA HX).2.2.2.2.2]at d2;have d6:w4.cell? ⟨M,6,none⟩=some (.int .i64 m.line):=(by have:=zC bM 6 (by simp);simpa using this);have e2:=zI bM 2))
     all_goals
      rename_i hKK
      refine hKK _ _ ?_
      have hwy:=call_aft (zA HH).1 (zA HX).2.2.2.2.1 (zA HX).2.2.2.2.2 (zh (zA HX).2.1 (by omega)) hgrow hown4 hat (zA HX).2.2.1 (zA HX).2.2.2.1 (Nat.le_refl _)
      revert hwy
      generalize w4.setCell ⟨M,2,none⟩ (.slice (some ⟨g,0,none⟩) (m.zD.length+1) cap')=wy
      intro hwy
      exact zA HT' _ _ _ hwy
    ·intro g c wy hR
     obtain⟨hA,bF,bR⟩:=hR
     clear cM2 cM6
     obtain⟨y0,y1,y2,y3,y4,y5,z0,z1,z2,z3,z4,z5⟩:=six bF
     go_wp2_with fail
     go_region_held3 (fun w'=>w'.cell? ⟨w.heap.size,1,none⟩=some (.string fm.name)) (go_keep) ((go_at_call 143;refine(zDE _ M B S.pls S.lk _ _ fm.name (hA.mc.prog.zH (by exact⟨rfl,rfl,rfl,Nat.le_refl _,fun _ _=>rfl⟩)) (zA HH).2.1.pls).mono ?_;rintro e w5 ⟨rfl,rfl⟩))
     have hAz:=hA.below (zS wy)
     have bRz:=zK bR (zS wy)
     clear hA bF bR y0 y1 y2 y3 y4 y5 z0 z1 z2 z3 z4 z5
     revert hAz bRz
     generalize wy.drew=wz
     intro hAz bRz
     have d6:wz.cell? ⟨M,6,none⟩=some (.int .i64 m.line):=hAz.mc.c6
     obtain⟨r0,r1,r2⟩:=zY bRz
     have z:=zI bRz
     have hRlt:=zJ bRz
     have hM4:=zJ hAz.mc.block
     have hQ:=hAz.frm.size
     have hMR:¬M=w.heap.size+1:=by omega
     have hne1:¬w.heap.size+1=wz.heap.size:=by omega
     have hne2:¬wz.heap.size=w.heap.size+1:=by omega
     have hne3:¬M=wz.heap.size:=by omega
     have hne5:¬w.heap.size+1=M:=by omega
     have HF:=zB (fun a b c=>And.intro ((hAz.three bRz (by omega) (by unfold PTy;decide) a b c).below ((Below.refl _ _).alloc (Nat.le_refl _) (.cells #[.int .i64 2,.int .i64 m.line,.int .i64 0,.int .i64 0,.int .i64 0] 162))) (zJC 1 wz w.heap.size (w.heap.size+1) #[.int .i64 2,.int .i64 m.line,.int .i64 0,.int .i64 0,.int .i64 0] hQ a b c rfl (by omega)))
     have HG:=zB (fun a b c:Value=>zY (zV (zFx bRz a b c) (.cells #[.int .i64 2,.int .i64 m.line,.int .i64 0,.int .i64 0,.int .i64 0] 162)))
     generalize Rt.zAE S.pls fm.name=dl at *
     clear hAz bRz
     go_wp2_with fail
     refine bodyPost_ret (v:=.agg #[.int .i64 0,.int .i64 (wrap64 (dl+1)),.slice (some ⟨wz.heap.size,0,none⟩) 1 1]) ?_ rfl ⟨_,_,by rw[zA HP],by rw[zA HP];exact(zA HF _ _ _).1,by rw[zA HP];exact(zA HF _ _ _).2⟩
     have E:=zA HG (.int .i64 0) (.int .i64 (wrap64 (dl+1))) (.slice (some ⟨wz.heap.size,0,none⟩) 1 1)
     revert E
     generalize (W3 wz (w.heap.size+1) (.int .i64 0) (.int .i64 (wrap64 (dl+1))) (.slice (some ⟨wz.heap.size,0,none⟩) 1 1)).alloc (.cells #[.int .i64 2,.int .i64 m.line,.int .i64 0,.int .i64 0,.int .i64 0] 162)=wq
     intro E
     simp[results,Tryz.results150,go_sem,E.1,E.2.1,E.2.2]
namespace Rt
def zGu (m:Mc):Out:=
 if m.zD.length < 2 then ended m 1
 else ⟨0,wrap64 ((m.zD.getLastD zEU).call+1),⟨3,m.line,⟨0,0⟩,(m.zD.getLastD zEU).call⟩::(m.zD.getLastD zEU).params.map (fun v=>⟨7,0,⟨0,0⟩,v⟩),{ m with zD:=m.zD.dropLast }⟩
theorem zKy (S:Src) (m:Mc) (f:zAU) (e1:¬f.kind=8) (e2:¬f.kind=9) (e3:¬f.kind=10) (e4:¬f.kind=11) (e5:¬f.kind=5) (e6:¬f.kind=7) (e7:¬f.kind=12):perform S m f=zGu m:=by
 unfold perform zGu
 simp only
 rw[if_neg e1,if_neg e2,if_neg e3,if_neg e4,if_neg (by omega),if_neg e7]
end Rt
theorem Tryz.infoRec:(Tryz.prog.info? 162).map (fun i=>(i.zero,i.size,i.bytes))=some (some (.agg #[.int .i64 0,.int .i64 0,.int .i64 0,.int .i64 0,.int .i64 0]),5,40):=by kernel_rfl
theorem zOu {m:Rt.Mc} (h:¬m.zD.length < 2):∃fs f,m.zD=fs++[f]∧1≤fs.length∧m.zD.getLastD Rt.zEU=f∧m.zD.dropLast=fs:=by
 have hne:m.zD≠[]:=by intro e;rw[e]at h;simp at h
 refine⟨m.zD.dropLast,m.zD.getLast hne,(List.dropLast_concat_getLast hne).symm,by rw[List.length_dropLast];omega,?_,rfl⟩
 rw[List.getLastD_eq_getLast?,List.getLast?_eq_some_getLast hne]
 rfl
theorem zK5 (w:World) (M B:Nat) (ty:TypeId) (tail:List Value) (S:Rt.Src) (m:Rt.Mc) (X:McX) (h:McS w M B ty tail S m X) (fs:List Rt.Fm) (f:Rt.Fm) (hf:m.zD=fs++[f]) (hfl:m.zD.length≤1000) :
  Calls Tryz.prog 184 #[.pointer (some ⟨M,0,none⟩)] w fun e w'=>e=.returned (.tuple #[])∧∃X',Aft M B ty tail S X X' { m with zD:=fs } w w':=by
 obtain⟨g,cap,hfv,hcap⟩:∃g cap,X.fv=.slice (some ⟨g,0,none⟩) (fs.length+1) cap∧fs.length+1≤cap:=by
  have h1:=h.zD
  rw[hf,List.length_append,List.length_singleton]at h1
  rcases h1.2 with⟨e,e2⟩| ⟨g,cap,cur,e,_,_,e3,_⟩
  ·simp at e2
  ·exact⟨g,cap,e,e3⟩
 have c2:=h.c2
 rw[hfv]at c2
 have f2:=h.fz 2
 have hl:fs.length+1≤1000:=by rw[hf]at hfl;simpa using hfl
 have hw:IntKind.i64.wrap (((fs.length+1:Nat):Int)-1)=(fs.length:Int):=by rw[IntWalk.i64_left,IntWalk.wrap64_in _ (by omega)];omega
 have hw2:IntKind.i64.wrap ((fs.length:Int)+1-1)=(fs.length:Int):=by rw[IntWalk.i64_left,IntWalk.wrap64_in _ (by omega)];omega
 have hw3:IntKind.i64.wrap (fs.length:Int)=(fs.length:Int):=by rw[IntWalk.i64_left,IntWalk.wrap64_in _ (by omega)]
 have h0:(0:Int) < (fs.length:Int)+1:=by omega
 have h1:(0:Int)≤(fs.length:Int):=by omega
 have h2:(fs.length:Int)≤(cap:Int):=by omega
 have hMlt:=zJ h.block
 have hF0:=h.framePop (w1:=w.drew) fs f hf g cap hfv (zS w)
 have HF:=zB (show Aft M B ty tail S X _ { m with zD:=fs } w _ from⟨hF0.1,hF0.2.1,hF0.2.2,hMlt⟩)
 clear h hfv hF0
 go_enter Tryz.func184,Tryz.ntmps184
 go_wp2_with fail
 go_region_law (fail)
 all_goals
  go_wp2_with fail
  go_end0
  exact⟨rfl,_,zA HF⟩
end Go.Proofs.YthleadfkfnnadaaGreat
namespace Go.Proofs.YthleadfkfnnadaaGreat
open Go.RowKit
namespace Rt
theorem zIS (S:Src) (m:Mc):∀(vs:List (List Pop)) (acc:List Int),(argsI S m vs acc).2=0→(argsI S m vs acc).1.length=acc.length+vs.length
 | [],acc,_=>by simp[argsI]
 | e::r,acc,h=>by
  rw[argsI]at h ⊢
  split
  ·next he=>
   rw[if_pos he]at h
   rw[zIS S m r _ h]
   simp
   omega
  ·next he=>rw[if_neg he]at h;exact absurd h he
end Rt
structure Good (S:Rt.Src):Prop where
 small:∀n,Rt.Small (Rt.zT S.pls n)
 fwd:zLy S.pls S.lk
 mok:Mok S (Rt.firstM S)
structure zET (S:Rt.Src) (m:Rt.Mc):Prop where
 mok:Mok S m
 lo:1≤m.zD.length
 hi:m.zD.length≤6
 out:m.output.length≤50
theorem zLH {S:Rt.Src} {m:Rt.Mc} (h:zET S m) (s:Rt.zEu) (v:Int):zET S (Rt.zA4 m s v):=by
 unfold Rt.zA4
 split
 ·split
  ·refine⟨⟨h.mok.pls,h.mok.input,h.mok.zD,by simpa using h.mok.values,h.mok.output,h.mok.params,?_,h.mok.zBp⟩,h.lo,h.hi,h.out⟩
   intro l hl
   obtain⟨i,hi,rfl⟩:=List.mem_iff_getElem.mp hl
   simp only[List.getElem_modify]
   split
   ·rw[List.length_set];exact h.mok.cells _ (List.getElem_mem _)
   ·exact h.mok.cells _ (List.getElem_mem _)
  ·refine⟨⟨h.mok.pls,h.mok.input,by simpa using h.mok.zD,h.mok.values,h.mok.output,?_,h.mok.cells,h.mok.zBp⟩,by simpa using h.lo,by simpa using h.hi,h.out⟩
   intro l hl
   obtain⟨i,hi,rfl⟩:=List.mem_iff_getElem.mp hl
   simp only[List.getElem_modify]
   split
   ·simp only[List.length_set];exact h.mok.params _ (List.getElem_mem _)
   ·exact h.mok.params _ (List.getElem_mem _)
 ·exact h
theorem zKz {S:Rt.Src} {m:Rt.Mc} (h:zET S m) (f:Rt.zAU) (hf:Rt.Small f):zET S (Rt.perform S m f).m:=by
 have hlo:=h.lo
 have hhi:=h.hi
 unfold Rt.perform
 simp only
 repeat' split
 all_goals first
  | exact h
  | exact zLH h _ _
  | skip
 ·exact⟨⟨h.mok.pls,h.mok.input,h.mok.zD,h.mok.values,by simp;omega,h.mok.params,h.mok.cells,h.mok.zBp⟩,h.lo,h.hi,by simp;omega⟩
 ·have:=zLH h (Rt.zB6 S m f.name) ((S.input[m.taken.toNat]?).getD 0)
  exact⟨⟨this.mok.pls,this.mok.input,this.mok.zD,this.mok.values,this.mok.output,this.mok.params,this.mok.cells,this.mok.zBp⟩,this.lo,this.hi,this.out⟩
 ·next ha hn=>
  refine⟨⟨h.mok.pls,h.mok.input,by simp;omega,h.mok.values,h.mok.output,?_,h.mok.cells,h.mok.zBp⟩,by simp,by simp;omega,h.out⟩
  intro g hg
  rcases List.mem_append.mp hg with hg | hg
  ·exact h.mok.params g hg
  ·rw[List.mem_singleton.mp hg]
   have:=Rt.zIS S m f.values [] ha
   have:=hf.values
   simp only[List.length_nil]at *
   omega
 ·refine⟨⟨h.mok.pls,h.mok.input,by simp;omega,h.mok.values,h.mok.output,fun g hg=>h.mok.params g (List.dropLast_subset _ hg),h.mok.cells,h.mok.zBp⟩,by simp;omega,by simp;omega,h.out⟩
theorem zGk {S:Rt.Src} (hS:Good S) {m:Rt.Mc} (h:zET S m):zET S (Rt.zAI S m).1:=by
 unfold Rt.zAI
 split
 ·simp only
  split
  ·have:=zKz h (Rt.zT S.pls m.line) (hS.small _)
   exact⟨⟨this.mok.pls,this.mok.input,this.mok.zD,this.mok.values,this.mok.output,this.mok.params,this.mok.cells,this.mok.zBp⟩,this.lo,this.hi,this.out⟩
  ·exact⟨⟨h.mok.pls,h.mok.input,h.mok.zD,h.mok.values,h.mok.output,h.mok.params,h.mok.cells,h.mok.zBp⟩,h.lo,h.hi,h.out⟩
 ·exact h
theorem zFn {S:Rt.Src} (hS:Good S):zET S (Rt.firstM S):=⟨hS.mok,by simp[Rt.firstM],by simp[Rt.firstM],by simp[Rt.firstM]⟩
end Go.Proofs.YthleadfkfnnadaaGreat
