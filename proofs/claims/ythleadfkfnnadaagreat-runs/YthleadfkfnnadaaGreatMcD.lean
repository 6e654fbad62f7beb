/- The machine: the stack of values, the signs. -/
import Derived.Test.YthleadfkfnnadaaGreatMcB
set_option maxHeartbeats 4000000
set_option maxRecDepth 100000
namespace Go.Proofs.YthleadfkfnnadaaGreat
open Go.RowKit
attribute [local go_sem ↓] Go.wp_at_zero Go.wp_at_succ
def zG6 (M B:Nat) (ty:TypeId) (tail:List Value) (S:Rt.Src) (m m':Rt.Mc) (X:McX) (w w':World):Prop:=McS w' M B ty tail S m' X∧Frm w w' (zAJ (rowsOf S.input X m))
theorem put_any (w:World) (M B:Nat) (ty:TypeId) (tail:List Value) (S:Rt.Src) (m:Rt.Mc) (X:McX) (s:Rt.zEu) (v:Int) (h:McS w M B ty tail S m X) (hm:Mok S m) :
  Calls Tryz.prog 206 #[.pointer (some ⟨M,0,none⟩),.agg #[.int .i64 s.line,.int .i64 s.cell],.int .i64 v] w fun e w'=>e=.returned (.tuple #[])∧zG6 M B ty tail S m (Rt.zA4 m s v) X w w':=by
 have hcl:=zIP hm s.line
 have hbA:=(Below.refl w.heap.size w).alloc (Nat.le_refl _) (.cells #[.int .i64 s.line,.int .i64 s.cell] 160)
 have hA:=h.zH hbA
 clear h
 go_enter Tryz.func206,Tryz.ntmps206
 go_wp2_with fail
 refine(zIQ _ M B ty tail S m X s.line hA hm).mono ?_
 rintro e w1 ⟨rfl,hb⟩
 have h1:=hA.zH hb
 have hrow:=h1.zHr s.line
 have hB:=hbA.trans (hb.mono (B':=w.heap.size) (by simp))
 have hS:=zK (heap_alloc_new w (.cells #[.int .i64 s.line,.int .i64 s.cell] 160)) hb
 have cS:=zC hS 1 (by simp)
 simp at cS
 have HH:=zB (And.intro h1 hB)
 by_cases hh:Rt.zEY m s=true
 ·obtain⟨g,cap,hgv,hglt,q1,q2⟩:=h1.stored s hh v
  have hin:0≤s.cell∧s.cell < (Rt.cellsOf m s.line).length:=of_decide_eq_true hh
  rw[hgv]at hrow ⊢
  have hfr:=hrow.frozenAt s.cell.toNat
  have HF:Hid (zG6 M B ty tail S m (Rt.zA4 m s v) X w (w1.setCell ⟨g,s.cell.toNat,none⟩ (.int .i64 v))):=zB ⟨q1,(Frm.zD0 _ hB).trans q2 (zCz.refl _ _)⟩
  obtain⟨g2,cap2,hgv2,_,_,ca⟩:=zW hrow (j:=s.cell.toNat) (u:=.int .i64 ((Rt.cellsOf m s.line)[s.cell.toNat]'(by omega))) (by simp[zz,List.getElem?_eq_getElem (show s.cell.toNat < (Rt.cellsOf m s.line).length by omega)])
  injection hgv2 with e1 _ e2
  injection e1 with e1
  injection e1 with e1
  subst e1
  have hgS:¬g=w.heap.size:=by
   intro e
   obtain⟨c,hc⟩:=zAj hrow (g:=g) rfl
   rw[e,hS]at hc
   injection hc with hc
   injection hc with _ hc
   exact absurd hc (by decide)
  clear hrow hb hA hbA hS h1 hB q1 q2 hm hgv hh e2
  generalize (Rt.cellsOf m s.line)[s.cell.toNat]'(by omega)=old at *
  generalize (Rt.cellsOf m s.line).length=n at *
  obtain⟨k,hk⟩:=Int.eq_ofNat_of_zero_le hin.1
  rw[hk]at cS HF hfr ca hin
  simp only[Int.toNat_natCast]at HF hfr ca
  have k1:¬(k:Int) < 0:=by omega
  have k2:¬(n:Int)≤(k:Int):=by omega
  have k3:(k:Int) < (n:Int):=by omega
  have k0:(0:Int)≤(k:Int):=by omega
  clear hin
  go_wp2_with fail
  go_end0
  exact⟨rfl,zA HF⟩
 ·have hout:¬(0≤s.cell∧s.cell < (Rt.cellsOf m s.line).length):=fun e=>hh (decide_eq_true e)
  have HF:Hid (zG6 M B ty tail S m (Rt.zA4 m s v) X w w1):=by
   refine zB ?_
   rw[show Rt.zA4 m s v=m by unfold Rt.zA4;rw[if_neg hh]]
   exact⟨h1,Frm.zD0 _ hB⟩
  obtain⟨ad,cap,hv⟩:=zE hrow
  rw[hv]
  clear hrow hb hA hbA hS h1 hB hm hh hv
  generalize (Rt.cellsOf m s.line).length=n at *
  generalize s.cell=c at *
  by_cases hc:c < 0
  ·clear hout
   go_wp2_with fail
   refine bodyPost_ret (results_none rfl _ _ _) rfl ?_
   exact⟨rfl,zA HF⟩
  ·have hc2:(n:Int)≤c:=by omega
   clear hout
   go_wp2_with fail
   refine bodyPost_ret (results_none rfl _ _ _) rfl ?_
   exact⟨rfl,zA HF⟩
theorem has_any (w:World) (M B:Nat) (ty:TypeId) (tail:List Value) (S:Rt.Src) (m:Rt.Mc) (X:McX) (s:Rt.zEu) (h:McS w M B ty tail S m X) (hm:Mok S m) :
  Calls Tryz.prog 193 #[.pointer (some ⟨M,0,none⟩),.agg #[.int .i64 s.line,.int .i64 s.cell]] w fun e w'=>e=.returned (.bool (Rt.zEY m s))∧Below w.heap.size w w':=by
 have hcl:=zIP hm s.line
 have hbA:=(Below.refl w.heap.size w).alloc (Nat.le_refl _) (.cells #[.int .i64 s.line,.int .i64 s.cell] 160)
 have hA:=h.zH hbA
 clear h
 go_enter Tryz.func193,Tryz.ntmps193
 go_wp2_with fail
 refine(zIQ _ M B ty tail S m X s.line hA hm).mono ?_
 rintro e w1 ⟨rfl,hb⟩
 have hrow:=zZ (hA.zHr s.line) hb
 have HB:=zB (hbA.trans (hb.mono (B':=w.heap.size) (by simp)))
 have hS:=zK (heap_alloc_new w (.cells #[.int .i64 s.line,.int .i64 s.cell] 160)) hb
 have cS:=zC hS 1 (by simp)
 simp at cS
 obtain⟨ad,cap,hv⟩:=zE hrow
 rw[hv]
 have HE:=zB (show Rt.zEY m s=decide (0≤s.cell∧s.cell < (Rt.cellsOf m s.line).length)from rfl)
 clear hrow hb hA hbA hS hm hv
 generalize (Rt.cellsOf m s.line).length=n at *
 generalize s.cell=c at *
 by_cases h1:0≤c
 ·by_cases h2:c < (n:Int)
  ·have HR:=zB (show Rt.zEY m s=true by rw[zA HE];exact decide_eq_true ⟨h1,h2⟩)
   go_wp2_with fail
   go_ret
   exact⟨by rw[zA HR];rfl,zA HB⟩
  ·have HR:=zB (show Rt.zEY m s=false by rw[zA HE];exact decide_eq_false (fun e=>h2 e.2))
   go_wp2_with fail
   go_ret
   exact⟨by rw[zA HR];exact zj (decide_eq_false (by omega)),zA HB⟩
 ·have HR:=zB (show Rt.zEY m s=false by rw[zA HE];exact decide_eq_false (fun e=>h1 e.1))
  go_wp2_with fail
  go_ret
  exact⟨by rw[zA HR];rfl,zA HB⟩
theorem zEh {w:World} {inp:List Int} {X:McX} {m:Rt.Mc} (h:Own w (rowsOf inp X m)) {N:Nat} {cs:Array Value} {t:TypeId} (hN:w.heap[N]?=some (.cells cs t (0,0))) (ht:t≠3∧t≠153∧t≠24):N∉zAJ (rowsOf inp X m):=by
 intro e
 obtain⟨r,hr,hg⟩:=List.mem_filterMap.mp e
 obtain⟨c,hc⟩:=zAj (h.rows r hr) hg
 rw[hN]at hc
 injection hc with hc
 injection hc with _ hc
 have:=zJh hr
 rw[←hc]at this
 rcases this with e | e | e
 ·exact ht.1 e
 ·exact ht.2.1 e
 ·exact ht.2.2 e
theorem zG6.aside {M B:Nat} {ty:TypeId} {tail:List Value} {S:Rt.Src} {m m':Rt.Mc} {X:McX} {w w':World} (h:zG6 M B ty tail S m m' X w w') (hMw:M < w.heap.size) {N:Nat} {cs:Array Value} {t:TypeId} (hN:w'.heap[N]?=some (.cells cs t (0,0))) (hlt:w.heap.size≤N) (ht:¬PTy t∧t≠3∧t≠153∧t≠24) (i:Nat) (v:Value):zG6 M B ty tail S m m' X w (w'.setCell ⟨N,i,none⟩ v):=by
 refine⟨h.1.aside hN (by omega) ht i v,⟨h.2.os,h.2.tape,h.2.output,Nat.le_trans h.2.size (by simp[World.setCell]),fun k hk hn=>?_⟩⟩
 rw[Below.heap_setCell w' ⟨N,i,none⟩ v k (by show k≠N;omega)]
 exact h.2.block k hk hn
abbrev W5 (w:World) (N:Nat) (a b c d e:Value):World:=((((w.setCell ⟨N,0,none⟩ a).setCell ⟨N,1,none⟩ b).setCell ⟨N,2,none⟩ c).setCell ⟨N,3,none⟩ d).setCell ⟨N,4,none⟩ e
theorem zG6.five {M B:Nat} {ty:TypeId} {tail:List Value} {S:Rt.Src} {m m':Rt.Mc} {X:McX} {w w':World} (h:zG6 M B ty tail S m m' X w w') (hMw:M < w.heap.size) {N:Nat} {cs:Array Value} {t:TypeId} (hN:w'.heap[N]?=some (.cells cs t (0,0))) (hlt:w.heap.size≤N) (ht:¬PTy t∧t≠3∧t≠153∧t≠24) (a b c d e:Value):zG6 M B ty tail S m m' X w (W5 w' N a b c d e):=by
 have n1:=zO hN 0 a
 have n2:=zO n1 1 b
 have n3:=zO n2 2 c
 have n4:=zO n3 3 d
 exact((((h.aside hMw hN hlt ht 0 a).aside hMw n1 hlt ht 1 b).aside hMw n2 hlt ht 2 c).aside hMw n3 hlt ht 3 d).aside hMw n4 hlt ht 4 e
theorem zED {w:World} {N:Nat} {t:TypeId} {v0 v1 v2 v3 v4:Value} (h:w.heap[N]?=some (.cells #[v0,v1,v2,v3,v4] t (0,0))) :
  w.cell? ⟨N,0,none⟩=some v0∧w.cell? ⟨N,1,none⟩=some v1∧w.cell? ⟨N,2,none⟩=some v2∧w.cell? ⟨N,3,none⟩=some v3∧w.cell? ⟨N,4,none⟩=some v4:=
 ⟨zC h 0 (by simp),zC h 1 (by simp),zC h 2 (by simp),zC h 3 (by simp),zC h 4 (by simp)⟩
theorem zF6 (w:World) (M B:Nat) (ty:TypeId) (tail:List Value) (S:Rt.Src) (m:Rt.Mc) (X:McX) (s:Rt.zEu) (v:Int) (h:McS w M B ty tail S m X) (hm:Mok S m) :
  Calls Tryz.prog 181 #[.pointer (some ⟨M,0,none⟩),.agg #[.int .i64 s.line,.int .i64 s.cell],.int .i64 v] w fun e w'=>e=.returned (.agg #[.int .i64 4,.int .i64 0,.int .i64 s.line,.int .i64 s.cell,.int .i64 (Rt.zCF m s)])∧zG6 M B ty tail S m (Rt.zA4 m s v) X w w':=by
 have hMw:=zJ h.block
 have hbA:=(Below.refl w.heap.size w).alloc (Nat.le_refl _) (.cells #[.int .i64 s.line,.int .i64 s.cell] 160)
 have hbB:=hbA.alloc (by simp) (.cells #[.int .i64 0,.int .i64 0,.int .i64 0,.int .i64 0,.int .i64 0] 162)
 have hA:=h.zH hbB
 have bS:=zV (heap_alloc_new w (.cells #[.int .i64 s.line,.int .i64 s.cell] 160)) (.cells #[.int .i64 0,.int .i64 0,.int .i64 0,.int .i64 0,.int .i64 0] 162)
 have bR:=zAG w (.cells #[.int .i64 s.line,.int .i64 s.cell] 160) (.cells #[.int .i64 0,.int .i64 0,.int .i64 0,.int .i64 0,.int .i64 0] 162)
 clear h hbA
 go_enter Tryz.func181,Tryz.ntmps181
 go_wp2_with fail
 refine(zMZ _ M B ty tail S m X s hA hm).mono ?_
 rintro e w1 ⟨rfl,hb1⟩
 have h1:=hA.zH hb1
 have hB1:=hbB.trans (hb1.mono (B':=w.heap.size) (by simp;omega))
 have bS1:=zK bS hb1
 have bR1:=zK bR hb1
 have k0:=zC bS1 0 (by simp)
 have k1:=zC bS1 1 (by simp)
 simp at k0 k1
 clear hA hbB bS bR hb1
 generalize HOLD:Rt.zCF m s=old at *
 go_wp2_with fail
 refine(put_any _ M B ty tail S m X s v h1 hm).mono ?_
 rintro e w2 ⟨rfl,h2,hf2⟩
 have hnS:=zEh h1.own bS1 (by decide)
 have hnR:=zEh h1.own bR1 (by decide)
 have bS2:=(hf2.block _ (zJ bS1) hnS).trans bS1
 have bR2:=(hf2.block _ (zJ bR1) hnR).trans bR1
 have q0:=zC bS2 0 (by simp)
 have q1:=zC bS2 1 (by simp)
 simp at q0 q1
 obtain⟨r0,r1,r2,r3,r4⟩:=zED bR2
 have z:=zI bR2
 have HF:=zB (show zG6 M B ty tail S m (Rt.zA4 m s v) X w w2 from⟨h2,(Frm.zD0 _ hB1).trans hf2 (zCz.refl _ _)⟩)
 have hMlt:M < w.heap.size:=hMw
 have HF2:=zB (fun a b c d e=>(zA HF).five hMlt bR2 (by omega) (by unfold PTy;decide) a b c d e)
 clear h1 h2 hf2 hB1 hm bS1 bR1 hnS hnR k0 k1 HF bS2 bR2
 go_wp2_with fail
 refine bodyPost_ret (v:=.agg #[.int .i64 4,.int .i64 0,.int .i64 s.line,.int .i64 s.cell,.int .i64 old]) ?_ rfl ⟨by rw[HOLD],zA HF2 _ _ _ _ _⟩
 simp[results,Tryz.results181,go_sem,r0,r1,r2,r3,r4]
namespace Rt
theorem zM3:∀(i:Nat) (l:List ByteArray) (x:ByteArray),parNo i l x=parFrom i l x
 | _,[],_=>rfl
 | i,p::r,x=>by rw[parNo,parFrom,zM3 (i+1) r x]
theorem varS_eq (S:Src) (m:Mc) (x:ByteArray):zB6 S m x=if 0≤zCq S.pls (zAR S m) x then ⟨0,zCq S.pls (zAR S m) x⟩else ⟨zAE S.pls x,0⟩:=by
 unfold zB6 zCq
 rw[zM3]
end Rt
theorem zJ3 (w:World) (M B:Nat) (ty:TypeId) (tail:List Value) (S:Rt.Src) (m:Rt.Mc) (X:McX) (x:ByteArray) (h:McS w M B ty tail S m X) (hm:Mok S m) :
  Calls Tryz.prog 164 #[.pointer (some ⟨M,0,none⟩),.string x] w fun e w'=>e=.returned (.agg #[.int .i64 (Rt.zB6 S m x).line,.int .i64 (Rt.zB6 S m x).cell])∧Below w.heap.size w w':=by
 have hpar:=Rt.zHC hm.zBp (Rt.zAR S m)
 have hlen:=hm.pls
 have hbA:=(Below.refl w.heap.size w).alloc (Nat.le_refl _) (.cells #[.int .i64 0,.int .i64 0] 160)
 have hA:=h.zH hbA
 have bR:=heap_alloc_new w (.cells #[.int .i64 0,.int .i64 0] 160)
 have HV:=zB (Rt.varS_eq S m x)
 clear h hm
 go_enter Tryz.func164,Tryz.ntmps164
 go_wp2_with fail
 refine(proc_any _ M B ty tail S m X hA).mono ?_
 rintro e w1 ⟨rfl,hb1⟩
 have h1:=hA.prog.zH hb1
 have hB1:=hbA.trans (hb1.mono (B':=w.heap.size) (by simp))
 have bR1:=zK bR hb1
 clear hA hbA hb1 bR
 generalize Rt.zAR S m=pc at *
 go_wp2_with fail
 refine(Param_m _ _ _ _ _ _ _ pc x h1 hpar).mono ?_
 rintro e w2 ⟨rfl,hb2⟩
 have h2:=h1.zH hb2
 have hB2:=hB1.trans (hb2.mono (B':=w.heap.size) hB1.size)
 have bR2:=zK bR1 hb2
 clear h1 hB1 hb2 bR1
 generalize Rt.zCq S.pls pc x=pi at *
 by_cases hpi:0≤pi
 ·have HE:=zB (show Rt.zB6 S m x=⟨0,pi⟩ by rw[zA HV,if_pos hpi])
  have q0:=zC bR2 0 (by simp)
  have q1:=zC bR2 1 (by simp)
  have z:=zI bR2
  simp at q0 q1
  have HB:=zB (fun a b:Value=>(hB2.setCell (p:=⟨w.heap.size,0,none⟩) (Nat.le_refl _) a).setCell (p:=⟨w.heap.size,1,none⟩) (Nat.le_refl _) b)
  clear h2 hB2 HV hpar bR2
  go_wp2_with fail
  refine bodyPost_ret (v:=.agg #[.int .i64 0,.int .i64 pi]) ?_ rfl ⟨by rw[zA HE],zA HB _ _⟩
  simp[results,Tryz.results164,go_sem,q0,q1]
 ·have HE:=zB (show Rt.zB6 S m x=⟨Rt.zAE S.pls x,0⟩ by rw[zA HV,if_neg hpi])
  have hpi':¬0≤pi:=hpi
  clear HV hpar
  go_wp2_with fail
  refine(zDE _ _ _ _ _ _ _ x h2 hlen).mono ?_
  rintro e w3 ⟨rfl,rfl⟩
  have q0:=zC bR2 0 (by simp)
  have q1:=zC bR2 1 (by simp)
  have z:=zI bR2
  simp at q0 q1
  have HB:=zB (fun a b:Value=>(hB2.setCell (p:=⟨w.heap.size,0,none⟩) (Nat.le_refl _) a).setCell (p:=⟨w.heap.size,1,none⟩) (Nat.le_refl _) b)
  clear h2 hB2 bR2
  generalize Rt.zAE S.pls x=dp at *
  go_wp2_with fail
  refine bodyPost_ret (v:=.agg #[.int .i64 dp,.int .i64 0]) ?_ rfl ⟨by rw[zA HE],zA HB _ _⟩
  simp[results,Tryz.results164,go_sem,q0,q1]
def cellR:Option Rt.zEu→Value
 | none=>.tuple #[.agg #[.int .i64 0,.int .i64 0],.bool false]
 | some s=>.tuple #[.agg #[.int .i64 s.line,.int .i64 s.cell],.bool true]
theorem zLU (w:World) (M B:Nat) (ty:TypeId) (tail:List Value) (S:Rt.Src) (m:Rt.Mc) (X:McX) (x:ByteArray) (n:Int) (h:McS w M B ty tail S m X) (hm:Mok S m) :
  Calls Tryz.prog 167 #[.pointer (some ⟨M,0,none⟩),.string x,.int .i64 n] w fun e w'=>e=.returned (cellR (Rt.zBW S m x n))∧Below w.heap.size w w':=by
 have hlen:=hm.pls
 have hbA:=(Below.refl w.heap.size w).alloc (Nat.le_refl _) (.cells #[.int .i64 0,.int .i64 0] 160)
 have hA:=h.zH hbA
 clear h
 go_enter Tryz.func167,Tryz.ntmps167
 go_wp2_with fail
 refine(zDE _ _ _ _ _ _ _ x hA.prog hlen).mono ?_
 rintro e w1 ⟨rfl,rfl⟩
 have HC:=zB (show Rt.zBW S m x n=if Rt.zEY m ⟨Rt.zAE S.pls x,n⟩=true then some ⟨Rt.zAE S.pls x,n⟩else none from rfl)
 generalize HDP:(Rt.zAE S.pls x:Int)=dp at *
 have hbB:=hbA.alloc (by simp) (.cells #[.int .i64 dp,.int .i64 n] 160)
 have hB:=hA.zH ((Below.refl _ _).alloc (Nat.le_refl _) (.cells #[.int .i64 dp,.int .i64 n] 160))
 have bR:=zV (heap_alloc_new w (.cells #[.int .i64 0,.int .i64 0] 160)) (.cells #[.int .i64 dp,.int .i64 n] 160)
 have bS:=zAG w (.cells #[.int .i64 0,.int .i64 0] 160) (.cells #[.int .i64 dp,.int .i64 n] 160)
 clear hA hbA
 go_wp2_with fail
 refine(has_any _ M B ty tail S m X ⟨dp,n⟩ hB hm).mono ?_
 rintro e w2 ⟨rfl,hb2⟩
 have hB2:=hbB.trans (hb2.mono (B':=w.heap.size) (by simp;omega))
 have bR2:=zK bR hb2
 have bS2:=zK bS hb2
 have q0:=zC bR2 0 (by simp)
 have q1:=zC bR2 1 (by simp)
 have z:=zI bR2
 have s0:=zC bS2 0 (by simp)
 have s1:=zC bS2 1 (by simp)
 simp at q0 q1 s0 s1
 have HB:=zB (fun a b:Value=>(hB2.setCell (p:=⟨w.heap.size,0,none⟩) (Nat.le_refl _) a).setCell (p:=⟨w.heap.size,1,none⟩) (Nat.le_refl _) b)
 clear hbB hB hb2 hB2 bR bS bR2 bS2 hm
 cases hh:Rt.zEY m ⟨dp,n⟩with
 | true=>
  have HE:=zB (show Rt.zBW S m x n=some ⟨dp,n⟩ by rw[zA HC,if_pos hh])
  clear HC hh
  go_wp2_with fail
  refine bodyPost_ret (v:=.tuple #[.agg #[.int .i64 dp,.int .i64 n],.bool true]) ?_ rfl ⟨by rw[zA HE];rfl,zA HB _ _⟩
  simp[results,Tryz.results167,go_sem,q0,q1]
 | false=>
  have HE:=zB (show Rt.zBW S m x n=none by rw[zA HC,if_neg (by rw[hh];simp)])
  clear HC hh
  go_wp2_with fail
  refine bodyPost_ret (v:=.tuple #[.agg #[.int .i64 0,.int .i64 0],.bool false]) ?_ rfl ⟨by rw[zA HE];rfl,zA HB _ _⟩
  simp[results,Tryz.results167,go_sem,q0,q1]
structure zEJ (w:World) (K:Nat) (st:List Int) (sv:Value):Prop where
 block:w.heap[K]?=some (.cells #[sv] 232 (0,0))
 own:w.ownsRow (K+1) 3 1 sv st.length (zz st)
theorem zEJ.zH {w w':World} {K:Nat} {st:List Int} {sv:Value} (h:zEJ w K st sv) (hb:Below w.heap.size w w'):zEJ w' K st sv:=⟨zK h.block hb,zZ h.own hb⟩
structure StkF (K:Nat) (sv:Value) (w w':World):Prop where
 os:w'.os=w.os
 tape:w'.tape=w.tape
 output:w'.output=w.output
 size:w.heap.size≤w'.heap.size
 block:∀k,k < w.heap.size→k≠K→some k≠sv.ownBlock→w'.heap[k]?=w.heap[k]?
theorem StkF.below {K:Nat} {sv:Value} {w w':World} {st:List Int} (h:StkF K sv w w') (hs:zEJ w K st sv):Below K w w':=by
 have hlt:=zJ hs.block
 exact⟨h.os,h.tape,h.output,h.size,fun k hk=>h.block k (by omega) (by omega) (fun e=>by have:=(hs.own.lt k e.symm).1;omega)⟩
theorem StkF.other {K:Nat} {sv:Value} {w w':World} {st:List Int} (h:StkF K sv w w') (hs:zEJ w K st sv) {N:Nat} {c:Array Value} {t:TypeId} (hN:w.heap[N]?=some (.cells c t (0,0))) (h1:t≠3) (h2:t≠232):w'.heap[N]?=some (.cells c t (0,0)):=by
 rw[h.block N (zJ hN) ?_ ?_]
 ·exact hN
 ·intro e
  rw[e,hs.block]at hN
  injection hN with hN
  injection hN with _ hN
  exact h2 hN.symm
 ·intro e
  obtain⟨c',hc⟩:=zAj hs.own e.symm
  rw[hN]at hc
  injection hc with hc
  injection hc with _ hc
  exact h1 hc
theorem sdec (o:List Int):o=[]∨∃pre x,o=pre++[x]:=by
 rcases List.eq_nil_or_concat o with h | ⟨pre,b,h⟩
 ·exact Or.inl h
 ·exact Or.inr ⟨pre,b,by simpa using h⟩
theorem zEJ.put {w w1 wx:World} {K:Nat} {st st':List Int} {sv sv':Value} (h:zEJ w K st sv) (hb:Below w.heap.size w wx) (hg:wx.grownBy w1 sv.ownBlock)
  (hown:w1.ownsRow (K+1) 3 1 sv' st'.length (zz st')):zEJ (w1.setCell ⟨K,0,none⟩ sv') K st' sv'∧StkF K sv w (w1.setCell ⟨K,0,none⟩ sv'):=by
 have hlt:=zJ h.block
 have hne:∀k,k≤K→some k≠sv.ownBlock:=fun k hk e=>by have:=(h.own.lt k e.symm).1;omega
 have hkeep:∀k,k < w.heap.size→some k≠sv.ownBlock→w1.heap[k]?=w.heap[k]?:=fun k hk hv=>(hg.block k (Nat.lt_of_lt_of_le hk hb.size) hv).trans (hb.block k hk)
 have hset:∀k,k≠K→(w1.setCell ⟨K,0,none⟩ sv').heap[k]?=w1.heap[k]?:=fun k hk=>Below.heap_setCell w1 ⟨K,0,none⟩ _ k hk
 refine⟨⟨?_,ownsRow_setCell_below hown (by show K < K+1;omega) _⟩,⟨hg.os.trans hb.os,hg.tape.trans hb.tape,hg.output.trans hb.output,?_,fun k hk hk2 hk3=>?_⟩⟩
 ·have:=zO ((hkeep K hlt (hne K (Nat.le_refl _))).trans h.block) 0 sv'
  simpa using this
 ·have:=hg.size
  have:=hb.size
  simp[World.setCell]
  omega
 ·rw[hset k hk2,hkeep k hk hk3]
theorem stk_far {w w1 wx:World} {K:Nat} {st:List Int} {sv:Value} (h:zEJ w K st sv) (hb:Below w.heap.size w wx) (hg:wx.grownBy w1 sv.ownBlock):w1.cell? ⟨K,0,none⟩=some sv∧w1.frozen? ⟨K,0,none⟩=false:=by
 have hlt:=zJ h.block
 have hk:w1.heap[K]?=some (.cells #[sv] 232 (0,0)):=by
  rw[hg.block K (Nat.lt_of_lt_of_le hlt hb.size) (fun e=>by have:=(h.own.lt K e.symm).1;omega),hb.block K hlt]
  exact h.block
 exact⟨zC hk 0 (by simp),zI hk 0⟩
theorem Tryz.zCv:(Tryz.prog.info? 3).map (fun i=>(i.zero,i.size,i.bytes))=some (some (.int .i64 0),1,8):=by kernel_rfl
theorem zFW (w:World) (K:Nat) (st:List Int) (sv:Value) (v:Int) (h:zEJ w K st sv) (hlen:st.length≤2000) :
  Calls Tryz.prog 218 #[.pointer (some ⟨K,0,none⟩),.int .i64 v] w fun e w'=>e=.returned (.tuple #[])∧(∃sv',zEJ w' K (st++[v]) sv')∧StkF K sv w w':=by
 obtain⟨i0,hi0,hz0,hz1,hz2⟩:=info_parts Tryz.zCv
 have hown:=h.own
 have c0:=zC h.block 0 (by simp)
 simp at c0
 have hKlt:=zJ h.block
 have HH:=zB h
 obtain⟨ad,cap,rfl⟩:=zE h.own
 clear h
 go_enter Tryz.func218,Tryz.ntmps218
 go_wp2_with (at_builtin;refine wpList_append_lies _ rfl _ _ 24 rfl (K+1) 3 i0 _ 1 8 Tryz.underlying24 hi0 hz0 hz1 hz2 rfl (by decide) _ _ _ rfl (hown.alloc _) ⟨w.heap.size,0,none⟩ 1 1 [.int .i64 v] rfl rfl (cell_one_new _ _ _) (by simp[Value.oneCell']) (by omega) (by unfold maxLen;omega) (by omega) (by simp;omega) (w.heap.size+1) (by simp) ?_)
 intro g cap' w4 hown4 hgrow hat hlt4
 obtain⟨hfar,hfz⟩:=stk_far (zA HH) ((Below.refl _ _).alloc (Nat.le_refl _) _) hgrow
 have HF:=zB ((zA HH).put (st':=st++[v]) ((Below.refl _ _).alloc (Nat.le_refl _) _) hgrow (by rw[List.length_append,zz,List.map_append];exact hown4))
 clear hown4 hgrow hat hown
 go_wp2_with fail
 go_end0
 exact⟨rfl,⟨_,(zA HF).1⟩,(zA HF).2⟩
theorem zHG (w:World) (K:Nat) (st:List Int) (sv:Value) (h:zEJ w K st sv) (hlen:st.length≤2000) :
  Calls Tryz.prog 208 #[.pointer (some ⟨K,0,none⟩)] w fun e w'=>e=.returned (.int .i64 (st.getLastD 0))∧(∃sv',zEJ w' K st.dropLast sv')∧StkF K sv w w':=by
 have c0:=zC h.block 0 (by simp)
 have f0:=zI h.block 0
 simp at c0
 rcases sdec st with rfl | ⟨pre,x,rfl⟩
 ·have HF:=zB h
  obtain⟨ad,cap,rfl⟩:=zE h.own
  simp only[List.length_nil]at c0
  clear h
  go_enter Tryz.func208,Tryz.ntmps208
  go_wp2_with fail
  go_ret
  exact⟨rfl,⟨_,zA HF⟩,⟨rfl,rfl,rfl,Nat.le_refl _,fun _ _ _ _=>rfl⟩⟩
 ·have hlen':pre.length+1≤3000:=by simp at hlen;omega
  have e0:(zz (pre++[x]))[pre.length]?=some (.int .i64 x):=by simp[zz]
  obtain⟨g,cap,hgv,hg,_,ca⟩:=zW h.own e0
  have hown:=h.own
  have h2:=h
  subst hgv
  simp only[List.length_append,List.length_cons,List.length_nil,Nat.zero_add]at hown c0 h2 ⊢
  have hcap:pre.length+1≤cap:=by
   rcases hown.2 with⟨h',_⟩| ⟨g',cap',cur,h',_,_,hn,_⟩
   ·cases h'
   ·simp at h';omega
  have hpop:w.ownsRow (K+1) 3 1 (.slice (some ⟨g,0,none⟩) pre.length cap) pre.length (zz pre):=by
   rw[zz,List.map_append]at hown
   exact ownsRow_pop (by simp[zz]) hown
  have HF:=zB (fun q=>h2.put (st':=pre) (below_drewN w q) ⟨rfl,rfl,rfl,Nat.le_refl _,fun _ _ _=>rfl⟩ (show (w.drewN q).ownsRow (K+1) 3 1 (.slice (some ⟨g,0,none⟩) pre.length cap) pre.length (zz pre)from hpop))
  rw[show (pre++[x]).getLastD 0=x by simp,show (pre++[x]).dropLast=pre by simp]
  clear h h2 hown hpop
  generalize HPL:pre.length=m at *
  replace HPL:=zB HPL
  have hm0:(0:Int)≤(m:Int):=by omega
  have hm1:(m:Int) < (m:Int)+1:=by omega
  have hm2:(m:Int)≤3000:=by omega
  have hm3:IntKind.i64.wrap ((m:Int)+1-1)=(m:Int):=by rw[show (m:Int)+1-1=(m:Int) by omega,IntWalk.i64_left,IntWalk.wrap64_in _ (by omega)]
  have hm4:IntKind.i64.wrap (m:Int)=(m:Int):=by rw[IntWalk.i64_left,IntWalk.wrap64_in _ (by omega)]
  have hm5:¬(m:Int) < 0:=by omega
  have hm6:(m:Int)≤(cap:Int):=by omega
  go_enter Tryz.func208,Tryz.ntmps208
  go_wp2_with fail
  go_ret
  exact⟨rfl,⟨_,(zA HF 0).1⟩,(zA HF 0).2⟩
theorem zK8 (w:World) (b:Bool):Calls Tryz.prog 223 #[.bool b] w fun e w'=>e=.returned (.int .i64 (Rt.zGh b))∧w'=w:=by
 cases b
 all_goals
  go_enter Tryz.func223,Tryz.ntmps223
  go_wp2_with fail
  go_ret
  exact⟨rfl,rfl⟩
theorem zNr (w:World) (code l r:Int):Calls Tryz.prog 219 #[.int .i64 code,.int .i64 l,.int .i64 r] w fun e w'=>e=.returned (.tuple #[.int .i64 (Rt.zw code l r).1,.int .i64 (Rt.zw code l r).2])∧w'=w:=by
 have n5:∀k:Int,¬code=k→(code==k)=false:=fun k h=>by rw[beq_eq_false_iff_ne];exact h
 by_cases h5:code=5
 ·subst h5
  have HE:=zB (show Rt.zw 5 l r=(wrap64 (l+r),0)from rfl)
  clear n5
  go_enter Tryz.func219,Tryz.ntmps219
  go_wp2_with fail
  go_ret2
  exact⟨by rw[zA HE];rfl,rfl⟩
 by_cases h6:code=6
 ·subst h6
  have HE:=zB (show Rt.zw 6 l r=(wrap64 (l-r),0)from rfl)
  clear n5 h5
  go_enter Tryz.func219,Tryz.ntmps219
  go_wp2_with fail
  go_ret2
  exact⟨by rw[zA HE];rfl,rfl⟩
 by_cases h7:code=7
 ·subst h7
  have HE:=zB (show Rt.zw 7 l r=(wrap64 (l*r),0)from rfl)
  clear n5 h5 h6
  go_enter Tryz.func219,Tryz.ntmps219
  go_wp2_with fail
  go_ret2
  exact⟨by rw[zA HE];rfl,rfl⟩
 by_cases h10:code=10
 ·subst h10
  have HE:=zB (show Rt.zw 10 l r=(Rt.zGh (decide (l < r)),0)from rfl)
  clear n5 h5 h6 h7
  go_enter Tryz.func219,Tryz.ntmps219
  go_wp2_with fail
  refine(zK8 _ (decide (l < r))).mono ?_
  rintro e w1 ⟨rfl,rfl⟩
  go_wp2_with fail
  go_ret2
  exact⟨by rw[zA HE];rfl,rfl⟩
 by_cases h11:code=11
 ·subst h11
  have HE:=zB (show Rt.zw 11 l r=(Rt.zGh (decide (l=r)),0)from rfl)
  clear n5 h5 h6 h7 h10
  go_enter Tryz.func219,Tryz.ntmps219
  go_wp2_with fail
  refine(zK8 _ _).mono ?_
  rintro e w1 ⟨rfl,rfl⟩
  go_wp2_with fail
  go_ret2
  exact⟨by rw[zA HE,beq_eq_decide];rfl,rfl⟩
 have b5:=n5 5 h5
 have b6:=n5 6 h6
 have b7:=n5 7 h7
 have b10:=n5 10 h10
 have b11:=n5 11 h11
 have HC:=zB (show Rt.zw code l r=if r=0 then (0,2)else if code=8 then (wrap64 (l.tdiv r),0)else (l.tmod r,0) by unfold Rt.zw;rw[if_neg h5,if_neg h6,if_neg h7,if_neg h10,if_neg h11])
 clear n5 h5 h6 h7 h10 h11
 by_cases hr:r=0
 ·subst hr
  have HE:=zB (show Rt.zw code l 0=(0,2) by rw[zA HC,if_pos rfl])
  clear HC
  go_enter Tryz.func219,Tryz.ntmps219
  go_wp2_with fail
  go_ret2
  exact⟨by rw[zA HE];rfl,rfl⟩
 have hr':(r==0)=false:=by rw[beq_eq_false_iff_ne];exact hr
 by_cases h8:code=8
 ·have HE:=zB (show Rt.zw code l r=(wrap64 (l.tdiv r),0) by rw[zA HC,if_neg hr,if_pos h8])
  have b8:(code==8)=true:=by simpa using h8
  clear HC h8
  go_enter Tryz.func219,Tryz.ntmps219
  go_wp2_with fail
  go_ret2
  exact⟨by rw[zA HE];rfl,rfl⟩
 ·have HE:=zB (show Rt.zw code l r=(l.tmod r,0) by rw[zA HC,if_neg hr,if_neg h8])
  have b8:(code==8)=false:=by simpa using h8
  clear HC h8
  go_enter Tryz.func219,Tryz.ntmps219
  go_wp2_with fail
  go_ret2
  exact⟨by rw[zA HE];rfl,rfl⟩
end Go.Proofs.YthleadfkfnnadaaGreat
