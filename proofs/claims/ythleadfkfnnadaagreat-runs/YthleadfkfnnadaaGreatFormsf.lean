/- The walks of the readers of lines, continued: call. -/
import Derived.Test.YthleadfkfnnadaaGreatFormse
set_option maxHeartbeats 4000000
set_option maxRecDepth 100000
namespace Go.Proofs.YthleadfkfnnadaaGreat
open Go.RowKit
theorem zAc.map {w w':World} {B:Nat} (h:∀x o,w.ownsRow B 236 3 x (List.length o) (zAB o)→w'.ownsRow B 236 3 x (List.length o) (zAB o)):∀xs os,zAc w B xs os→zAc w' B xs os
 | [],[],_=>trivial
 | x::xs,o::os,⟨h1,h2⟩=>⟨h x o h1,zAc.map h xs os h2⟩
 | [],_::_,h=>h.elim
 | _::_,[],h=>h.elim
theorem zAc.snoc {w:World} {B:Nat} {x:Value} {o:List Pop} (h:w.ownsRow B 236 3 x o.length (zAB o)):∀xs os,zAc w B xs os→zAc w B (xs++[x]) (os++[o])
 | [],[],_=>⟨h,trivial⟩
 | _::xs,_::os,⟨h1,h2⟩=>⟨h1,zAc.snoc h xs os h2⟩
 | [],_::_,h=>h.elim
 | _::_,[],h=>h.elim
theorem zG1 {w:World} {B B':Nat} (hB:B'≤B):∀xs os,zAc w B xs os→zAc w B' xs os
 | [],[],_=>trivial
 | _::xs,_::os,⟨h1,h2⟩=>⟨zh h1 hB,zG1 hB xs os h2⟩
 | [],_::_,h=>h.elim
 | _::_,[],h=>h.elim
theorem zK7 (w:World) (o:Obj) (x:Value) (t:TypeId):∀j u,[x][j]?=some u→((w.alloc o).alloc (.cells #[x] t)).cell? ((⟨w.heap.size+1,0,none⟩:Addr).add j)=some u:=by
 have h:=cell_one_new (w.alloc o) x t
 simpa using h
theorem setIf6_5 (a b c d e f x:Value):(#[a,b,c,d,e,f].setIfInBounds 5 x)=#[a,b,c,d,e,x]:=rfl
theorem Tryz.infoExpr:(Tryz.prog.info? 140).map (fun i=>(i.zero,i.size,i.bytes))=some (some (.agg #[.slice none 0 0]),1,24):=by kernel_rfl
theorem call_any (w:World) (R:Nat) (tv:Value) (ts:List Rt.Tk) (n:Nat) (hr:RdS w R tv ts n zL []) (hsm:∀t∈ts,t.text.size≤40000) :
  Calls Tryz.prog 201 #[.pointer (some ⟨R,0,none⟩)] w (zCn Rt.pCall R tv ts n w):=by
 have hlt:R < w.heap.size:=World.block_lt_of_cell? w _ (zC hr.block 0 (by simp))
 obtain⟨i0,hi,hz0,hz1,hz2⟩:=info_parts Tryz.infoExpr
 have hfew:=hr.few
 have HSM:=zB hsm
 clear hsm
 go_enter Tryz.func201,Tryz.ntmps201
 go_wp2_with fail
 obtain⟨hr0,hfr0⟩:=hr.zH ((Below.refl w.heap.size w).alloc (Nat.le_refl _) (.cells zp 143))
 have hN0:(w.alloc (.cells zp 143)).heap[w.heap.size]?=some (.cells zp 143 (0,0)):=heap_alloc_new w _
 refine(zEi _ _ _ _ _ _ _ hr0).mono ?_
 rintro e w1 (⟨nm,hn,hs,rfl,hr1,hfr1⟩| ⟨hs,rfl,hr1,hfr1⟩)
 ·have hN:=hfr1.zAa hN0 (by omega)
  have hNlt:=zJ hN
  have hfrA:=hfr0.trans hfr1
  have HS:=zB hs
  have hrB:=(hr1.zH ((Below.refl w1.heap.size w1).alloc (Nat.le_refl _) (.cells #[.int .i64 12,.string nm,.int .i64 0,zL,zL,zL] 143))).1
  have hfrB:=hfrA.alloc (.cells #[.int .i64 12,.string nm,.int .i64 0,zL,zL,zL] 143)
  have hNB:=zV hN (.cells #[.int .i64 12,.string nm,.int .i64 0,zL,zL,zL] 143)
  have hMB:=heap_alloc_new w1 (.cells #[.int .i64 12,.string nm,.int .i64 0,zL,zL,zL] 143)
  clear hr hr0 hfr0 hfr1 hs hN0 hfrA hN hr1
  go_wp2_with fail
  refine(more' _ _ _ _ _ _ _ hrB).mono ?_
  rintro e w2 ⟨rfl,hr2,hfr2⟩
  have hN2:=hfr2.zAa hNB (by omega)
  have hM2:=hfr2.zAa hMB (by omega)
  have hfrC:=hfrB.trans hfr2
  clear hfr2 hfrB hNB hMB hrB
  go_wp2_with fail
  go_loopg [7,8,9] (if n+1 < ts.length then ts.length-(n+1)+1 else 0) (fun k wn _ _ wr=>∃(b:Bool) (n2 f:Nat) (vv:Value) (vs:List Value) (acc:List (List Pop)),wn=.bool b∧k=(if b=true then ts.length-n2+1 else 0)∧n+1≤n2∧n2≤24∧acc.length+(n+1)≤n2∧
   (b=true→ts.length-n2 < f∧Rt.pArgs f acc (ts.drop n2)=Rt.zCK (ts.drop (n+1)))∧(b=false→Rt.zCK (ts.drop (n+1))=some (acc,ts.drop n2))∧
   RdS wr R tv ts n2 zL []∧RFr R zL zL w wr∧wr.heap[w.heap.size]?=some (.cells zp 143 (0,0))∧
   wr.heap[w1.heap.size]?=some (.cells #[.int .i64 12,.string nm,.int .i64 0,zL,zL,vv] 143 (0,0))∧wr.ownsRow (w1.heap.size+1) 140 1 vv acc.length vs∧zAc wr (w1.heap.size+1) vs acc)
  case atStart=>
   refine⟨decide (n+1 < ts.length),n+1,25,zL,[],[],rfl,?_,Nat.le_refl _,by have:=hr2.le;omega,by simp,?_,?_,hr2,hfrC,hN2,hM2,World.ownsRow_nil _ _ _ _,trivial⟩
   ·simp only[decide_eq_true_eq]
   ·intro h
    simp at h
    refine⟨by omega,?_⟩
    rw[Rt.zCK,if_neg (fun e=>by rw[zAe h]at e;cases e)]
   ·intro h
    simp at h
    rw[Rt.zCK,if_pos (zBw (by omega))]
  case round=>
   clear hr2 hfrC hN2 hM2
   obtain⟨b,n2,f,vv,vs,acc,rfl,hk,hn2,hn24,hacc,hTt,hTf,hr2,hfr2,hN2,hM2,hvv,hvs⟩:=hrel
   obtain⟨ad,cap,rfl⟩:=zE hvv
   cases b with
   | false=>
    have HE:=zB (Rt.zQ1 (zA HS) (hTf rfl))
    obtain⟨c0,c1,c2,c3,c4,c5,f0,f1,f2,f3,f4,f5⟩:=six hN2
    have ⟨d0,d1,d2,d3,d4,d5,_,_,_,_,_,_⟩:=six hM2
    have HO:=zB (zh (b':=w.heap.size) (zCL (N:=w.heap.size) hvv (fun g hg=>by have:=(hvv.lt g hg).1;omega) (.int .i64 12) (.string nm) (.int .i64 0) zL zL (.slice ad acc.length cap)) (by omega))
    have HV:Hid (zAc (W6 wr w.heap.size (.int .i64 12) (.string nm) (.int .i64 0) zL zL (.slice ad acc.length cap)) w.heap.size vs acc):=by
     refine zB ?_
     have hx:∀x o,wr.ownsRow (w1.heap.size+1) 236 3 x (List.length o) (zAB o)→(W6 wr w.heap.size (.int .i64 12) (.string nm) (.int .i64 0) zL zL (.slice ad acc.length cap)).ownsRow (w1.heap.size+1) 236 3 x (List.length o) (zAB o):=fun x o h=>zCL h (fun g hg=>by have:=(h.lt g hg).1;omega) _ _ _ _ _ _
     have h2:=zAc.map hx _ _ hvs
     clear hx
     exact zG1 (by omega) _ _ h2
    have HR:=zB hr2
    have HFR:=zB hfr2
    clear hk hTt hTf hr2 hfr2 hN2 hM2 hvv hvs
    go_wp2_with fail
    refine bodyPost_ret (v:=.tuple #[.agg #[.int .i64 12,.string nm,.int .i64 0,zL,zL,.slice ad acc.length cap],.bool true]) ?_ rfl
     (Or.inl ⟨⟨12,nm,0,[],[],acc⟩,n2,_,zA HE,rfl,(zA HR).zAv hlt _ _ _ _ _ _,⟨zL,zL,_,vs,rfl,World.ownsRow_nil _ _ _ _,World.ownsRow_nil _ _ _ _,zA HO,zA HV⟩,(zA HFR).zAv (Nat.le_refl _) _ _ _ _ _ _⟩)
    simp[results,Tryz.results201,go_sem,c0,c1,c2,c3,c4,c5]
   | true=>
    obtain⟨hf,hT⟩:=hTt rfl
    obtain⟨f,rfl⟩:∃f',f=f'+1:=⟨f-1,by omega⟩
    have HT:=zB hT
    have HK:=zB hk
    clear hTt hTf hT hk
    go_wp2_with fail
    refine(zCP _ _ _ _ _ hr2 (zA HSM)).mono ?_
    rintro e w3 (⟨em,n3,xv,hs3,rfl,hn3,hem,hr3,hxv,hfr3⟩| ⟨hs3,rfl,ov3,hfr3⟩)
    ·obtain⟨adx,capx,rfl⟩:=zE hxv
     have hMlt2:=zJ hM2
     have hN3:=hfr3.zAa hN2 (by omega)
     have hM3:=hfr3.zAa hM2 (by omega)
     have hvv3:=hfr3.zCE hvv (by omega)
     have hvs3:=zAc.map (w':=w3) (fun x o h=>hfr3.zCE h (by omega)) _ _ hvs
     have hfr4:=hfr2.trans hfr3
     have hxv3:=zh (b':=w1.heap.size+1) hxv (by omega)
     have hle3:=hr3.le
     have HS3:=zB hs3
     clear hr2 hfr2 hN2 hM2 hvv hvs hxv hfr3 hs3
     -- behind the new variable for the expression
     have hN4:=zV hN3 (.cells #[.slice adx em.length capx] 140)
     have hM4:=zV hM3 (.cells #[.slice adx em.length capx] 140)
     have hMlt:=zJ hM3
     have hvv4:=hvv3.alloc (.cells #[.slice adx em.length capx] 140)
     have hvs4:=zAc.map (w':=w3.alloc (.cells #[.slice adx em.length capx] 140)) (fun x o h=>h.alloc _) _ _ hvs3
     have hxv4:=hxv3.alloc (.cells #[.slice adx em.length capx] 140)
     have hr4:=(hr3.zH ((Below.refl w3.heap.size w3).alloc (Nat.le_refl _) (.cells #[.slice adx em.length capx] 140))).1
     have hfr5:=hfr4.alloc (.cells #[.slice adx em.length capx] 140)
     have ⟨_,_,_,_,_,d5,_,_,_,_,_,g5⟩:=six hM3
     clear hr3 hfr4 hN3 hM3 hvv3 hvs3 hxv3
     go_wp2_with (at_builtin;refine wpList_append_own _ rfl (.tmp 32) (.tmp 34) 141 rfl (w1.heap.size+1) 140 i0 _ 1 24 Tryz.underlying141 hi hz0 hz1 hz2 rfl (by decide) _ _ _ rfl (hvv4.alloc _) ⟨_,0,none⟩ 1 1 [.slice adx em.length capx] rfl rfl (zK7 _ _ _ _) ?c2 ?c3 ?c4 ?c5 ?_)
     case c2=>intro u hu;simp at hu;rcases hu with rfl;rfl
     case c3=>unfold maxLen;omega
     case c4=>omega
     case c5=>simp;omega
     intro v' w5 hown5 hgrow _
     have hrow:∀k,(Value.slice ad acc.length cap).ownBlock=some k→w1.heap.size < k:=fun k hk=>by have:=(hvv4.lt k hk).1;omega
     have hM5:=zEB hgrow hM4 (fun h=>by have:=hrow _ h;omega)
     have hN5:=zEB hgrow hN4 (fun h=>by have:=hrow _ h;omega)
     have hr5:=hr4.kept (zLe hgrow (by simp;omega) (fun k hk=>by have:=hrow k hk;omega))
     have hfr6:=hfr5.grown hgrow (fun k hk=>by have:=hrow k hk;omega)
     have hvs5:=zAc.map (w':=w5) (fun x o h=>zLQ h hgrow (zC2 h hvv4 (by decide))) _ _ hvs4
     have hxv5:=zLQ hxv4 hgrow (zC2 hxv4 hvv4 (by decide))
     obtain⟨ad5,cap5,rfl⟩:=zE hown5
     have ⟨_,_,_,_,_,e5,_,_,_,_,_,k5⟩:=six hM5
     have hM6:=zO hM5 5 (Value.slice ad5 (acc.length+1) cap5)
     rw[setIf6_5]at hM6
     have hN6:=zF9 hN5 (M:=w1.heap.size) (by omega) 5 (Value.slice ad5 (acc.length+1) cap5)
     have hr6:=hr5.setOther (N:=w1.heap.size) (i:=5) (by omega) (by intro g h;cases h) (Value.slice ad5 (acc.length+1) cap5)
     have hfr7:=hfr6.zCp (N:=w1.heap.size) (i:=5) (by omega) (Value.slice ad5 (acc.length+1) cap5)
     have hown6:=zl hown5 (a:=⟨w1.heap.size,5,none⟩) (fun g hg=>by have:=(hown5.lt g hg).1;show g≠w1.heap.size;omega) (Value.slice ad5 (acc.length+1) cap5)
     have hvs6:=zAc.map (w':=w5.setCell ⟨w1.heap.size,5,none⟩ (Value.slice ad5 (acc.length+1) cap5)) (fun x o h=>zl h (fun g hg=>by have:=(h.lt g hg).1;show g≠w1.heap.size;omega) _) _ _ (zAc.snoc hxv5 _ _ hvs5)
     clear hM5 hN5 hr5 hfr6 hown5 hgrow hr4 hfr5 hM4 hN4 hvv4 hrow hvs5 hxv5 hvs4 hxv4
     go_wp2_with fail
     refine(zFQ _ _ _ _ _ _ _ _ hr6).mono ?_
     rintro e w7 (⟨hs7,rfl,hr7,hfr8⟩| ⟨hs7,rfl,hr7,hfr8⟩)
     ·have HT2:=zB ((Rt.zQ8 (f:=f) (acc:=acc) (zA HS3) hs7).symm.trans (zA HT))
      have HH:=zB (And.intro (hfr8.zAa hN6 (by omega)) (And.intro (hfr8.zAa hM6 (by omega)) (And.intro hr7 (And.intro (hfr7.trans hfr8) (And.intro (hfr8.zCE hown6 (by omega)) (zAc.map (w':=w7) (fun x o h=>hfr8.zCE h (by omega)) _ _ hvs6))))))
      have hle7:=hr7.le
      clear hr7 hfr8 hN6 hM6 hr6 hfr7 hown6 hvs6 hs7
      go_wp2_with fail
      go_roundg (ts.length-(n3+1)+1)
      case measure=>have:=zA HK;simp at this;omega
      case rel=>
       obtain⟨q1,q2,q3,q4,q5,q6⟩:=zA HH
       exact⟨true,n3+1,f,_,_,acc++[em],rfl,by simp,by omega,by omega,by simp;omega,fun _=>⟨by omega,zA HT2⟩,(fun h=>by cases h),q3,q4,q1,q2,by simpa using q5,q6⟩
     ·have HT2:=zB ((zA HT).symm.trans (Rt.zQ6 (f:=f) (acc:=acc) (zA HS3) hs7))
      have HH:=zB (And.intro (hfr8.zAa hN6 (by omega)) (And.intro (hfr8.zAa hM6 (by omega)) (And.intro hr7 (And.intro (hfr7.trans hfr8) (And.intro (hfr8.zCE hown6 (by omega)) (zAc.map (w':=w7) (fun x o h=>hfr8.zCE h (by omega)) _ _ hvs6))))))
      clear hr7 hfr8 hN6 hM6 hr6 hfr7 hown6 hvs6 hs7
      go_wp2_with fail
      go_roundg 0
      case measure=>have:=zA HK;simp at this;omega
      case rel=>
       obtain⟨q1,q2,q3,q4,q5,q6⟩:=zA HH
       exact⟨false,n3,f,_,_,acc++[em],rfl,by simp,by omega,by omega,by simp;omega,(fun h=>by cases h),fun _=>zA HT2,q3,q4,q1,q2,by simpa using q5,q6⟩
    ·have hN3:=hfr3.zAa hN2 (by omega)
     have HE:=zB (Rt.zQ2 (zA HS) ((zA HT).symm.trans (Rt.zQ7 hs3)))
     have HFR:=zB (hfr2.trans hfr3)
     obtain⟨c0,c1,c2,c3,c4,c5,f0,f1,f2,f3,f4,f5⟩:=six hN3
     have hz:=zJ hN3
     clear hN3 hfr3 hs3 hr2 hfr2 hN2 hM2 hvv hvs
     go_wp2_with fail
     refine bodyPost_ret (v:=.tuple #[.agg zp,.bool false]) ?_ rfl (Or.inr ⟨zA HE,rfl,_,((zA HFR).zAv (N:=w.heap.size) (Nat.le_refl _) _ _ _ _ _ _).alloc _⟩)
     simp[results,Tryz.results201,go_sem,c0,c1,c2,c3,c4,c5,hz]
 ·obtain⟨c0,c1,c2,c3,c4,c5,f0,f1,f2,f3,f4,f5⟩:=six (hfr1.zAa hN0 (by omega))
  have HS:=zB hs
  have HFR:=zB (hfr0.trans hfr1)
  clear hr hr0 hfr0 hfr1 hs hN0
  go_wp2_with fail
  refine bodyPost_ret (v:=.tuple #[.agg zp,.bool false]) ?_ rfl (Or.inr ⟨by rw[Rt.pCall,zA HS],rfl,_,(zA HFR).zAv (Nat.le_refl _) _ _ _ _ _ _⟩)
  simp[results,Tryz.results201,go_sem,c0,c1,c2,c3,c4,c5]
end Go.Proofs.YthleadfkfnnadaaGreat
