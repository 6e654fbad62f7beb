/- The walks of the readers of lines: line. -/
import Derived.Test.YthleadfkfnnadaaGreatFormsf
set_option maxHeartbeats 4000000
set_option maxRecDepth 100000
namespace Go.Proofs.YthleadfkfnnadaaGreat
open Go.RowKit
theorem zBs {w:World} {B B' N:Nat} {v:Array Value} {fm:Rt.zAU} (h:zAd w B v fm) (hN:N < B) (hB:B'≤B) (a b c d e f:Value):zAd (W6 w N a b c d e f) B' v fm:=by
 obtain⟨pv,iv,vv,vs,rfl,h1,h2,h3,h4⟩:=h
 have hx:∀(t:TypeId) (size n:Nat) (v:Value) (xs:List Value),w.ownsRow B t size v n xs→(W6 w N a b c d e f).ownsRow B' t size v n xs:=fun t size n v xs h=>zh (zCL h (fun g hg=>by have:=(h.lt g hg).1;omega) _ _ _ _ _ _) hB
 refine⟨pv,iv,vv,vs,rfl,hx _ _ _ _ _ h1,hx _ _ _ _ _ h2,hx _ _ _ _ _ h3,?_⟩
 exact zG1 hB _ _ (zAc.map (fun x o h=>zCL h (fun g hg=>by have:=(h.lt g hg).1;omega) _ _ _ _ _ _) _ _ h4)
theorem line_var (w:World) (R:Nat) (tv:Value) (ts:List Rt.Tk) (n:Nat) (first:ByteArray) (hr:RdS w R tv ts n zL []) (h0:(first.toList==[118,97,114])=true) :
  Calls Tryz.prog 169 #[.pointer (some ⟨R,0,none⟩),.string first] w (zCn (Rt.zAC first) R tv ts n w):=by
 have hlt:R < w.heap.size:=World.block_lt_of_cell? w _ (zC hr.block 0 (by simp))
 have HP:Hid (Rt.zAC first (ts.drop n)=Rt.pNamed 1 (ts.drop n)):=by
  refine zB ?_
  simp[Rt.zAC,h0]
 go_enter Tryz.func169,Tryz.ntmps169
 go_wp2_with fail
 obtain⟨hr0,hfr0⟩:=hr.zH ((Below.refl w.heap.size w).alloc (Nat.le_refl _) (.cells zp 143))
 have hN0:(w.alloc (.cells zp 143)).heap[w.heap.size]?=some (.cells zp 143 (0,0)):=heap_alloc_new w _
 refine(zLT _ _ _ _ _ 1 hr0).mono ?_
 rintro e w1 (⟨fm,n1,fv,hs,rfl,hr1,hfv,hfr1⟩| ⟨hs,rfl,ov,hfr1⟩)
 ·obtain⟨c0,c1,c2,c3,c4,c5,f0,f1,f2,f3,f4,f5⟩:=six (hfr1.zAa hN0 (by omega))
  have hfv2:=hfv
  obtain⟨pv,iv,vv,vs,rfl,b1,b2,b3,_⟩:=hfv
  obtain⟨ad1,cap1,rfl⟩:=zE b1
  obtain⟨ad2,cap2,rfl⟩:=zE b2
  obtain⟨ad3,cap3,rfl⟩:=zE b3
  have HE:=zB ((zA HP).trans hs)
  have HV:=zB hfv2
  have HR:=zB hr1
  have HFR:=zB (hfr0.trans hfr1)
  clear hr hr0 hr1 hfr0 hfr1 hs hN0 hfv2 b1 b2 b3
  go_wp2_with fail
  refine bodyPost_ret (v:=.tuple #[.agg #[.int .i64 fm.kind,.string fm.name,.int .i64 fm.cells,.slice ad1 fm.params.length cap1,.slice ad2 fm.index.length cap2,.slice ad3 fm.values.length cap3],.bool true]) ?_ rfl
   (Or.inl ⟨fm,n1,_,zA HE,rfl,(zA HR).zAv hlt _ _ _ _ _ _,zBs (zA HV) (by simp) (by simp) _ _ _ _ _ _,(zA HFR).zAv (Nat.le_refl _) _ _ _ _ _ _⟩)
  simp[results,Tryz.results169,go_sem,c0,c1,c2,c3,c4,c5]
 ·obtain⟨c0,c1,c2,c3,c4,c5,f0,f1,f2,f3,f4,f5⟩:=six (hfr1.zAa hN0 (by omega))
  have HE:=zB ((zA HP).trans hs)
  have HFR:=zB (hfr0.trans hfr1)
  clear hr hr0 hfr0 hfr1 hs hN0
  go_wp2_with fail
  refine bodyPost_ret (v:=.tuple #[.agg zp,.bool false]) ?_ rfl (Or.inr ⟨zA HE,rfl,_,(zA HFR).zAv (Nat.le_refl _) _ _ _ _ _ _⟩)
  simp[results,Tryz.results169,go_sem,c0,c1,c2,c3,c4,c5]
theorem zOt (w:World) (R:Nat) (tv:Value) (ts:List Rt.Tk) (n:Nat) (first:ByteArray) (hr:RdS w R tv ts n zL []) (hsm:∀t∈ts,t.text.size≤40000) (h0:(first.toList==[118,97,114])=false) (h1:(first.toList==[97,114,114,97,121])=true) :
  Calls Tryz.prog 169 #[.pointer (some ⟨R,0,none⟩),.string first] w (zCn (Rt.zAC first) R tv ts n w):=by
 have hlt:R < w.heap.size:=World.block_lt_of_cell? w _ (zC hr.block 0 (by simp))
 have HSM:=zB hsm
 clear hsm
 have HP:Hid (Rt.zAC first (ts.drop n)=Rt.pArray (ts.drop n)):=by
  refine zB ?_
  simp[Rt.zAC,h0,h1]
 go_enter Tryz.func169,Tryz.ntmps169
 go_wp2_with fail
 obtain⟨hr0,hfr0⟩:=hr.zH ((Below.refl w.heap.size w).alloc (Nat.le_refl _) (.cells zp 143))
 have hN0:(w.alloc (.cells zp 143)).heap[w.heap.size]?=some (.cells zp 143 (0,0)):=heap_alloc_new w _
 refine(zQ5 _ _ _ _ _ hr0 (zA HSM)).mono ?_
 rintro e w1 (⟨fm,n1,fv,hs,rfl,hr1,hfv,hfr1⟩| ⟨hs,rfl,ov,hfr1⟩)
 ·obtain⟨c0,c1,c2,c3,c4,c5,f0,f1,f2,f3,f4,f5⟩:=six (hfr1.zAa hN0 (by omega))
  have hfv2:=hfv
  obtain⟨pv,iv,vv,vs,rfl,b1,b2,b3,_⟩:=hfv
  obtain⟨ad1,cap1,rfl⟩:=zE b1
  obtain⟨ad2,cap2,rfl⟩:=zE b2
  obtain⟨ad3,cap3,rfl⟩:=zE b3
  have HE:=zB ((zA HP).trans hs)
  have HV:=zB hfv2
  have HR:=zB hr1
  have HFR:=zB (hfr0.trans hfr1)
  clear hr hr0 hr1 hfr0 hfr1 hs hN0 hfv2 b1 b2 b3
  go_wp2_with fail
  refine bodyPost_ret (v:=.tuple #[.agg #[.int .i64 fm.kind,.string fm.name,.int .i64 fm.cells,.slice ad1 fm.params.length cap1,.slice ad2 fm.index.length cap2,.slice ad3 fm.values.length cap3],.bool true]) ?_ rfl
   (Or.inl ⟨fm,n1,_,zA HE,rfl,(zA HR).zAv hlt _ _ _ _ _ _,zBs (zA HV) (by simp) (by simp) _ _ _ _ _ _,(zA HFR).zAv (Nat.le_refl _) _ _ _ _ _ _⟩)
  simp[results,Tryz.results169,go_sem,c0,c1,c2,c3,c4,c5]
 ·obtain⟨c0,c1,c2,c3,c4,c5,f0,f1,f2,f3,f4,f5⟩:=six (hfr1.zAa hN0 (by omega))
  have HE:=zB ((zA HP).trans hs)
  have HFR:=zB (hfr0.trans hfr1)
  clear hr hr0 hfr0 hfr1 hs hN0
  go_wp2_with fail
  refine bodyPost_ret (v:=.tuple #[.agg zp,.bool false]) ?_ rfl (Or.inr ⟨zA HE,rfl,_,(zA HFR).zAv (Nat.le_refl _) _ _ _ _ _ _⟩)
  simp[results,Tryz.results169,go_sem,c0,c1,c2,c3,c4,c5]
theorem zQZ (w:World) (R:Nat) (tv:Value) (ts:List Rt.Tk) (n:Nat) (first:ByteArray) (hr:RdS w R tv ts n zL []) (h0:(first.toList==[118,97,114])=false) (h1:(first.toList==[97,114,114,97,121])=false) (h2:(first.toList==[112,114,111,99])=true) :
  Calls Tryz.prog 169 #[.pointer (some ⟨R,0,none⟩),.string first] w (zCn (Rt.zAC first) R tv ts n w):=by
 have hlt:R < w.heap.size:=World.block_lt_of_cell? w _ (zC hr.block 0 (by simp))
 have HP:Hid (Rt.zAC first (ts.drop n)=Rt.pProc (ts.drop n)):=by
  refine zB ?_
  simp[Rt.zAC,h0,h1,h2]
 go_enter Tryz.func169,Tryz.ntmps169
 go_wp2_with fail
 obtain⟨hr0,hfr0⟩:=hr.zH ((Below.refl w.heap.size w).alloc (Nat.le_refl _) (.cells zp 143))
 have hN0:(w.alloc (.cells zp 143)).heap[w.heap.size]?=some (.cells zp 143 (0,0)):=heap_alloc_new w _
 refine(zKw _ _ _ _ _ hr0).mono ?_
 rintro e w1 (⟨fm,n1,fv,hs,rfl,hr1,hfv,hfr1⟩| ⟨hs,rfl,ov,hfr1⟩)
 ·obtain⟨c0,c1,c2,c3,c4,c5,f0,f1,f2,f3,f4,f5⟩:=six (hfr1.zAa hN0 (by omega))
  have hfv2:=hfv
  obtain⟨pv,iv,vv,vs,rfl,b1,b2,b3,_⟩:=hfv
  obtain⟨ad1,cap1,rfl⟩:=zE b1
  obtain⟨ad2,cap2,rfl⟩:=zE b2
  obtain⟨ad3,cap3,rfl⟩:=zE b3
  have HE:=zB ((zA HP).trans hs)
  have HV:=zB hfv2
  have HR:=zB hr1
  have HFR:=zB (hfr0.trans hfr1)
  clear hr hr0 hr1 hfr0 hfr1 hs hN0 hfv2 b1 b2 b3
  go_wp2_with fail
  refine bodyPost_ret (v:=.tuple #[.agg #[.int .i64 fm.kind,.string fm.name,.int .i64 fm.cells,.slice ad1 fm.params.length cap1,.slice ad2 fm.index.length cap2,.slice ad3 fm.values.length cap3],.bool true]) ?_ rfl
   (Or.inl ⟨fm,n1,_,zA HE,rfl,(zA HR).zAv hlt _ _ _ _ _ _,zBs (zA HV) (by simp) (by simp) _ _ _ _ _ _,(zA HFR).zAv (Nat.le_refl _) _ _ _ _ _ _⟩)
  simp[results,Tryz.results169,go_sem,c0,c1,c2,c3,c4,c5]
 ·obtain⟨c0,c1,c2,c3,c4,c5,f0,f1,f2,f3,f4,f5⟩:=six (hfr1.zAa hN0 (by omega))
  have HE:=zB ((zA HP).trans hs)
  have HFR:=zB (hfr0.trans hfr1)
  clear hr hr0 hfr0 hfr1 hs hN0
  go_wp2_with fail
  refine bodyPost_ret (v:=.tuple #[.agg zp,.bool false]) ?_ rfl (Or.inr ⟨zA HE,rfl,_,(zA HFR).zAv (Nat.le_refl _) _ _ _ _ _ _⟩)
  simp[results,Tryz.results169,go_sem,c0,c1,c2,c3,c4,c5]
theorem line_end (w:World) (R:Nat) (tv:Value) (ts:List Rt.Tk) (n:Nat) (first:ByteArray) (hr:RdS w R tv ts n zL []) (h0:(first.toList==[118,97,114])=false) (h1:(first.toList==[97,114,114,97,121])=false) (h2:(first.toList==[112,114,111,99])=false) (h3:(first.toList==[101,110,100])=true) :
  Calls Tryz.prog 169 #[.pointer (some ⟨R,0,none⟩),.string first] w (zCn (Rt.zAC first) R tv ts n w):=by
 have hlt:R < w.heap.size:=World.block_lt_of_cell? w _ (zC hr.block 0 (by simp))
 have HP:Hid (Rt.zAC first (ts.drop n)=some (⟨4,⟨#[]⟩,0,[],[],[]⟩,ts.drop n)):=by
  refine zB ?_
  simp[Rt.zAC,h0,h1,h2,h3]
 have HR:=zB (hr.zH ((Below.refl w.heap.size w).alloc (Nat.le_refl _) (.cells #[.int .i64 4,.string ⟨#[]⟩,.int .i64 0,zL,zL,zL] 143)))
 clear hr
 go_enter Tryz.func169,Tryz.ntmps169
 go_wp2_with fail
 refine bodyPost_ret (v:=.tuple #[.agg #[.int .i64 4,.string ⟨#[]⟩,.int .i64 0,zL,zL,zL],.bool true]) ?_ rfl
  (Or.inl ⟨_,n,_,zA HP,rfl,(zA HR).1,zBr _ _ _ _ _,(zA HR).2⟩)
 simp[results,Tryz.results169,go_sem]
theorem line_if (w:World) (R:Nat) (tv:Value) (ts:List Rt.Tk) (n:Nat) (first:ByteArray) (hr:RdS w R tv ts n zL []) (hsm:∀t∈ts,t.text.size≤40000) (h0:(first.toList==[118,97,114])=false) (h1:(first.toList==[97,114,114,97,121])=false) (h2:(first.toList==[112,114,111,99])=false) (h3:(first.toList==[101,110,100])=false) (h4:(first.toList==[105,102])=true) :
  Calls Tryz.prog 169 #[.pointer (some ⟨R,0,none⟩),.string first] w (zCn (Rt.zAC first) R tv ts n w):=by
 have hlt:R < w.heap.size:=World.block_lt_of_cell? w _ (zC hr.block 0 (by simp))
 have HSM:=zB hsm
 clear hsm
 have HP:Hid (Rt.zAC first (ts.drop n)=Rt.zBf 5 (ts.drop n)):=by
  refine zB ?_
  simp[Rt.zAC,h0,h1,h2,h3,h4]
 go_enter Tryz.func169,Tryz.ntmps169
 go_wp2_with fail
 obtain⟨hr0,hfr0⟩:=hr.zH ((Below.refl w.heap.size w).alloc (Nat.le_refl _) (.cells zp 143))
 have hN0:(w.alloc (.cells zp 143)).heap[w.heap.size]?=some (.cells zp 143 (0,0)):=heap_alloc_new w _
 refine(zGg _ _ _ _ _ 5 hr0 (zA HSM)).mono ?_
 rintro e w1 (⟨fm,n1,fv,hs,rfl,hr1,hfv,hfr1⟩| ⟨hs,rfl,ov,hfr1⟩)
 ·obtain⟨c0,c1,c2,c3,c4,c5,f0,f1,f2,f3,f4,f5⟩:=six (hfr1.zAa hN0 (by omega))
  have hfv2:=hfv
  obtain⟨pv,iv,vv,vs,rfl,b1,b2,b3,_⟩:=hfv
  obtain⟨ad1,cap1,rfl⟩:=zE b1
  obtain⟨ad2,cap2,rfl⟩:=zE b2
  obtain⟨ad3,cap3,rfl⟩:=zE b3
  have HE:=zB ((zA HP).trans hs)
  have HV:=zB hfv2
  have HR:=zB hr1
  have HFR:=zB (hfr0.trans hfr1)
  clear hr hr0 hr1 hfr0 hfr1 hs hN0 hfv2 b1 b2 b3
  go_wp2_with fail
  refine bodyPost_ret (v:=.tuple #[.agg #[.int .i64 fm.kind,.string fm.name,.int .i64 fm.cells,.slice ad1 fm.params.length cap1,.slice ad2 fm.index.length cap2,.slice ad3 fm.values.length cap3],.bool true]) ?_ rfl
   (Or.inl ⟨fm,n1,_,zA HE,rfl,(zA HR).zAv hlt _ _ _ _ _ _,zBs (zA HV) (by simp) (by simp) _ _ _ _ _ _,(zA HFR).zAv (Nat.le_refl _) _ _ _ _ _ _⟩)
  simp[results,Tryz.results169,go_sem,c0,c1,c2,c3,c4,c5]
 ·obtain⟨c0,c1,c2,c3,c4,c5,f0,f1,f2,f3,f4,f5⟩:=six (hfr1.zAa hN0 (by omega))
  have HE:=zB ((zA HP).trans hs)
  have HFR:=zB (hfr0.trans hfr1)
  clear hr hr0 hfr0 hfr1 hs hN0
  go_wp2_with fail
  refine bodyPost_ret (v:=.tuple #[.agg zp,.bool false]) ?_ rfl (Or.inr ⟨zA HE,rfl,_,(zA HFR).zAv (Nat.le_refl _) _ _ _ _ _ _⟩)
  simp[results,Tryz.results169,go_sem,c0,c1,c2,c3,c4,c5]
theorem zQa (w:World) (R:Nat) (tv:Value) (ts:List Rt.Tk) (n:Nat) (first:ByteArray) (hr:RdS w R tv ts n zL []) (h0:(first.toList==[118,97,114])=false) (h1:(first.toList==[97,114,114,97,121])=false) (h2:(first.toList==[112,114,111,99])=false) (h3:(first.toList==[101,110,100])=false) (h4:(first.toList==[105,102])=false) (h5:(first.toList==[101,108,115,101])=true) :
  Calls Tryz.prog 169 #[.pointer (some ⟨R,0,none⟩),.string first] w (zCn (Rt.zAC first) R tv ts n w):=by
 have hlt:R < w.heap.size:=World.block_lt_of_cell? w _ (zC hr.block 0 (by simp))
 have HP:Hid (Rt.zAC first (ts.drop n)=some (⟨6,⟨#[]⟩,0,[],[],[]⟩,ts.drop n)):=by
  refine zB ?_
  simp[Rt.zAC,h0,h1,h2,h3,h4,h5]
 have HR:=zB (hr.zH ((Below.refl w.heap.size w).alloc (Nat.le_refl _) (.cells #[.int .i64 6,.string ⟨#[]⟩,.int .i64 0,zL,zL,zL] 143)))
 clear hr
 go_enter Tryz.func169,Tryz.ntmps169
 go_wp2_with fail
 refine bodyPost_ret (v:=.tuple #[.agg #[.int .i64 6,.string ⟨#[]⟩,.int .i64 0,zL,zL,zL],.bool true]) ?_ rfl
  (Or.inl ⟨_,n,_,zA HP,rfl,(zA HR).1,zBr _ _ _ _ _,(zA HR).2⟩)
 simp[results,Tryz.results169,go_sem]
theorem zOo (w:World) (R:Nat) (tv:Value) (ts:List Rt.Tk) (n:Nat) (first:ByteArray) (hr:RdS w R tv ts n zL []) (hsm:∀t∈ts,t.text.size≤40000) (h0:(first.toList==[118,97,114])=false) (h1:(first.toList==[97,114,114,97,121])=false) (h2:(first.toList==[112,114,111,99])=false) (h3:(first.toList==[101,110,100])=false) (h4:(first.toList==[105,102])=false) (h5:(first.toList==[101,108,115,101])=false) (h6:(first.toList==[119,104,105,108,101])=true) :
  Calls Tryz.prog 169 #[.pointer (some ⟨R,0,none⟩),.string first] w (zCn (Rt.zAC first) R tv ts n w):=by
 have hlt:R < w.heap.size:=World.block_lt_of_cell? w _ (zC hr.block 0 (by simp))
 have HSM:=zB hsm
 clear hsm
 have HP:Hid (Rt.zAC first (ts.drop n)=Rt.zBf 7 (ts.drop n)):=by
  refine zB ?_
  simp[Rt.zAC,h0,h1,h2,h3,h4,h5,h6]
 go_enter Tryz.func169,Tryz.ntmps169
 go_wp2_with fail
 obtain⟨hr0,hfr0⟩:=hr.zH ((Below.refl w.heap.size w).alloc (Nat.le_refl _) (.cells zp 143))
 have hN0:(w.alloc (.cells zp 143)).heap[w.heap.size]?=some (.cells zp 143 (0,0)):=heap_alloc_new w _
 refine(zGg _ _ _ _ _ 7 hr0 (zA HSM)).mono ?_
 rintro e w1 (⟨fm,n1,fv,hs,rfl,hr1,hfv,hfr1⟩| ⟨hs,rfl,ov,hfr1⟩)
 ·obtain⟨c0,c1,c2,c3,c4,c5,f0,f1,f2,f3,f4,f5⟩:=six (hfr1.zAa hN0 (by omega))
  have hfv2:=hfv
  obtain⟨pv,iv,vv,vs,rfl,b1,b2,b3,_⟩:=hfv
  obtain⟨ad1,cap1,rfl⟩:=zE b1
  obtain⟨ad2,cap2,rfl⟩:=zE b2
  obtain⟨ad3,cap3,rfl⟩:=zE b3
  have HE:=zB ((zA HP).trans hs)
  have HV:=zB hfv2
  have HR:=zB hr1
  have HFR:=zB (hfr0.trans hfr1)
  clear hr hr0 hr1 hfr0 hfr1 hs hN0 hfv2 b1 b2 b3
  go_wp2_with fail
  refine bodyPost_ret (v:=.tuple #[.agg #[.int .i64 fm.kind,.string fm.name,.int .i64 fm.cells,.slice ad1 fm.params.length cap1,.slice ad2 fm.index.length cap2,.slice ad3 fm.values.length cap3],.bool true]) ?_ rfl
   (Or.inl ⟨fm,n1,_,zA HE,rfl,(zA HR).zAv hlt _ _ _ _ _ _,zBs (zA HV) (by simp) (by simp) _ _ _ _ _ _,(zA HFR).zAv (Nat.le_refl _) _ _ _ _ _ _⟩)
  simp[results,Tryz.results169,go_sem,c0,c1,c2,c3,c4,c5]
 ·obtain⟨c0,c1,c2,c3,c4,c5,f0,f1,f2,f3,f4,f5⟩:=six (hfr1.zAa hN0 (by omega))
  have HE:=zB ((zA HP).trans hs)
  have HFR:=zB (hfr0.trans hfr1)
  clear hr hr0 hfr0 hfr1 hs hN0
  go_wp2_with fail
  refine bodyPost_ret (v:=.tuple #[.agg zp,.bool false]) ?_ rfl (Or.inr ⟨zA HE,rfl,_,(zA HFR).zAv (Nat.le_refl _) _ _ _ _ _ _⟩)
  simp[results,Tryz.results169,go_sem,c0,c1,c2,c3,c4,c5]
theorem line_set (w:World) (R:Nat) (tv:Value) (ts:List Rt.Tk) (n:Nat) (first:ByteArray) (hr:RdS w R tv ts n zL []) (hsm:∀t∈ts,t.text.size≤40000) (h0:(first.toList==[118,97,114])=false) (h1:(first.toList==[97,114,114,97,121])=false) (h2:(first.toList==[112,114,111,99])=false) (h3:(first.toList==[101,110,100])=false) (h4:(first.toList==[105,102])=false) (h5:(first.toList==[101,108,115,101])=false) (h6:(first.toList==[119,104,105,108,101])=false) (h7:(first.toList==[115,101,116])=true) :
  Calls Tryz.prog 169 #[.pointer (some ⟨R,0,none⟩),.string first] w (zCn (Rt.zAC first) R tv ts n w):=by
 have hlt:R < w.heap.size:=World.block_lt_of_cell? w _ (zC hr.block 0 (by simp))
 have HSM:=zB hsm
 clear hsm
 have HP:Hid (Rt.zAC first (ts.drop n)=Rt.zFK (ts.drop n)):=by
  refine zB ?_
  simp[Rt.zAC,h0,h1,h2,h3,h4,h5,h6,h7]
 go_enter Tryz.func169,Tryz.ntmps169
 go_wp2_with fail
 obtain⟨hr0,hfr0⟩:=hr.zH ((Below.refl w.heap.size w).alloc (Nat.le_refl _) (.cells zp 143))
 have hN0:(w.alloc (.cells zp 143)).heap[w.heap.size]?=some (.cells zp 143 (0,0)):=heap_alloc_new w _
 refine(set_any _ _ _ _ _ hr0 (zA HSM)).mono ?_
 rintro e w1 (⟨fm,n1,fv,hs,rfl,hr1,hfv,hfr1⟩| ⟨hs,rfl,ov,hfr1⟩)
 ·obtain⟨c0,c1,c2,c3,c4,c5,f0,f1,f2,f3,f4,f5⟩:=six (hfr1.zAa hN0 (by omega))
  have hfv2:=hfv
  obtain⟨pv,iv,vv,vs,rfl,b1,b2,b3,_⟩:=hfv
  obtain⟨ad1,cap1,rfl⟩:=zE b1
  obtain⟨ad2,cap2,rfl⟩:=zE b2
  obtain⟨ad3,cap3,rfl⟩:=zE b3
  have HE:=zB ((zA HP).trans hs)
  have HV:=zB hfv2
  have HR:=zB hr1
  have HFR:=zB (hfr0.trans hfr1)
  clear hr hr0 hr1 hfr0 hfr1 hs hN0 hfv2 b1 b2 b3
  go_wp2_with fail
  refine bodyPost_ret (v:=.tuple #[.agg #[.int .i64 fm.kind,.string fm.name,.int .i64 fm.cells,.slice ad1 fm.params.length cap1,.slice ad2 fm.index.length cap2,.slice ad3 fm.values.length cap3],.bool true]) ?_ rfl
   (Or.inl ⟨fm,n1,_,zA HE,rfl,(zA HR).zAv hlt _ _ _ _ _ _,zBs (zA HV) (by simp) (by simp) _ _ _ _ _ _,(zA HFR).zAv (Nat.le_refl _) _ _ _ _ _ _⟩)
  simp[results,Tryz.results169,go_sem,c0,c1,c2,c3,c4,c5]
 ·obtain⟨c0,c1,c2,c3,c4,c5,f0,f1,f2,f3,f4,f5⟩:=six (hfr1.zAa hN0 (by omega))
  have HE:=zB ((zA HP).trans hs)
  have HFR:=zB (hfr0.trans hfr1)
  clear hr hr0 hfr0 hfr1 hs hN0
  go_wp2_with fail
  refine bodyPost_ret (v:=.tuple #[.agg zp,.bool false]) ?_ rfl (Or.inr ⟨zA HE,rfl,_,(zA HFR).zAv (Nat.le_refl _) _ _ _ _ _ _⟩)
  simp[results,Tryz.results169,go_sem,c0,c1,c2,c3,c4,c5]
theorem zOr (w:World) (R:Nat) (tv:Value) (ts:List Rt.Tk) (n:Nat) (first:ByteArray) (hr:RdS w R tv ts n zL []) (hsm:∀t∈ts,t.text.size≤40000) (h0:(first.toList==[118,97,114])=false) (h1:(first.toList==[97,114,114,97,121])=false) (h2:(first.toList==[112,114,111,99])=false) (h3:(first.toList==[101,110,100])=false) (h4:(first.toList==[105,102])=false) (h5:(first.toList==[101,108,115,101])=false) (h6:(first.toList==[119,104,105,108,101])=false) (h7:(first.toList==[115,101,116])=false) (h8:(first.toList==[112,114,105,110,116])=true) :
  Calls Tryz.prog 169 #[.pointer (some ⟨R,0,none⟩),.string first] w (zCn (Rt.zAC first) R tv ts n w):=by
 have hlt:R < w.heap.size:=World.block_lt_of_cell? w _ (zC hr.block 0 (by simp))
 have HSM:=zB hsm
 clear hsm
 have HP:Hid (Rt.zAC first (ts.drop n)=Rt.zBf 10 (ts.drop n)):=by
  refine zB ?_
  simp[Rt.zAC,h0,h1,h2,h3,h4,h5,h6,h7,h8]
 go_enter Tryz.func169,Tryz.ntmps169
 go_wp2_with fail
 obtain⟨hr0,hfr0⟩:=hr.zH ((Below.refl w.heap.size w).alloc (Nat.le_refl _) (.cells zp 143))
 have hN0:(w.alloc (.cells zp 143)).heap[w.heap.size]?=some (.cells zp 143 (0,0)):=heap_alloc_new w _
 refine(zGg _ _ _ _ _ 10 hr0 (zA HSM)).mono ?_
 rintro e w1 (⟨fm,n1,fv,hs,rfl,hr1,hfv,hfr1⟩| ⟨hs,rfl,ov,hfr1⟩)
 ·obtain⟨c0,c1,c2,c3,c4,c5,f0,f1,f2,f3,f4,f5⟩:=six (hfr1.zAa hN0 (by omega))
  have hfv2:=hfv
  obtain⟨pv,iv,vv,vs,rfl,b1,b2,b3,_⟩:=hfv
  obtain⟨ad1,cap1,rfl⟩:=zE b1
  obtain⟨ad2,cap2,rfl⟩:=zE b2
  obtain⟨ad3,cap3,rfl⟩:=zE b3
  have HE:=zB ((zA HP).trans hs)
  have HV:=zB hfv2
  have HR:=zB hr1
  have HFR:=zB (hfr0.trans hfr1)
  clear hr hr0 hr1 hfr0 hfr1 hs hN0 hfv2 b1 b2 b3
  go_wp2_with fail
  refine bodyPost_ret (v:=.tuple #[.agg #[.int .i64 fm.kind,.string fm.name,.int .i64 fm.cells,.slice ad1 fm.params.length cap1,.slice ad2 fm.index.length cap2,.slice ad3 fm.values.length cap3],.bool true]) ?_ rfl
   (Or.inl ⟨fm,n1,_,zA HE,rfl,(zA HR).zAv hlt _ _ _ _ _ _,zBs (zA HV) (by simp) (by simp) _ _ _ _ _ _,(zA HFR).zAv (Nat.le_refl _) _ _ _ _ _ _⟩)
  simp[results,Tryz.results169,go_sem,c0,c1,c2,c3,c4,c5]
 ·obtain⟨c0,c1,c2,c3,c4,c5,f0,f1,f2,f3,f4,f5⟩:=six (hfr1.zAa hN0 (by omega))
  have HE:=zB ((zA HP).trans hs)
  have HFR:=zB (hfr0.trans hfr1)
  clear hr hr0 hfr0 hfr1 hs hN0
  go_wp2_with fail
  refine bodyPost_ret (v:=.tuple #[.agg zp,.bool false]) ?_ rfl (Or.inr ⟨zA HE,rfl,_,(zA HFR).zAv (Nat.le_refl _) _ _ _ _ _ _⟩)
  simp[results,Tryz.results169,go_sem,c0,c1,c2,c3,c4,c5]
theorem zQY (w:World) (R:Nat) (tv:Value) (ts:List Rt.Tk) (n:Nat) (first:ByteArray) (hr:RdS w R tv ts n zL []) (h0:(first.toList==[118,97,114])=false) (h1:(first.toList==[97,114,114,97,121])=false) (h2:(first.toList==[112,114,111,99])=false) (h3:(first.toList==[101,110,100])=false) (h4:(first.toList==[105,102])=false) (h5:(first.toList==[101,108,115,101])=false) (h6:(first.toList==[119,104,105,108,101])=false) (h7:(first.toList==[115,101,116])=false) (h8:(first.toList==[112,114,105,110,116])=false) (h9:(first.toList==[114,101,97,100])=true) :
  Calls Tryz.prog 169 #[.pointer (some ⟨R,0,none⟩),.string first] w (zCn (Rt.zAC first) R tv ts n w):=by
 have hlt:R < w.heap.size:=World.block_lt_of_cell? w _ (zC hr.block 0 (by simp))
 have HP:Hid (Rt.zAC first (ts.drop n)=Rt.pNamed 11 (ts.drop n)):=by
  refine zB ?_
  simp[Rt.zAC,h0,h1,h2,h3,h4,h5,h6,h7,h8,h9]
 go_enter Tryz.func169,Tryz.ntmps169
 go_wp2_with fail
 obtain⟨hr0,hfr0⟩:=hr.zH ((Below.refl w.heap.size w).alloc (Nat.le_refl _) (.cells zp 143))
 have hN0:(w.alloc (.cells zp 143)).heap[w.heap.size]?=some (.cells zp 143 (0,0)):=heap_alloc_new w _
 refine(zLT _ _ _ _ _ 11 hr0).mono ?_
 rintro e w1 (⟨fm,n1,fv,hs,rfl,hr1,hfv,hfr1⟩| ⟨hs,rfl,ov,hfr1⟩)
 ·obtain⟨c0,c1,c2,c3,c4,c5,f0,f1,f2,f3,f4,f5⟩:=six (hfr1.zAa hN0 (by omega))
  have hfv2:=hfv
  obtain⟨pv,iv,vv,vs,rfl,b1,b2,b3,_⟩:=hfv
  obtain⟨ad1,cap1,rfl⟩:=zE b1
  obtain⟨ad2,cap2,rfl⟩:=zE b2
  obtain⟨ad3,cap3,rfl⟩:=zE b3
  have HE:=zB ((zA HP).trans hs)
  have HV:=zB hfv2
  have HR:=zB hr1
  have HFR:=zB (hfr0.trans hfr1)
  clear hr hr0 hr1 hfr0 hfr1 hs hN0 hfv2 b1 b2 b3
  go_wp2_with fail
  refine bodyPost_ret (v:=.tuple #[.agg #[.int .i64 fm.kind,.string fm.name,.int .i64 fm.cells,.slice ad1 fm.params.length cap1,.slice ad2 fm.index.length cap2,.slice ad3 fm.values.length cap3],.bool true]) ?_ rfl
   (Or.inl ⟨fm,n1,_,zA HE,rfl,(zA HR).zAv hlt _ _ _ _ _ _,zBs (zA HV) (by simp) (by simp) _ _ _ _ _ _,(zA HFR).zAv (Nat.le_refl _) _ _ _ _ _ _⟩)
  simp[results,Tryz.results169,go_sem,c0,c1,c2,c3,c4,c5]
 ·obtain⟨c0,c1,c2,c3,c4,c5,f0,f1,f2,f3,f4,f5⟩:=six (hfr1.zAa hN0 (by omega))
  have HE:=zB ((zA HP).trans hs)
  have HFR:=zB (hfr0.trans hfr1)
  clear hr hr0 hfr0 hfr1 hs hN0
  go_wp2_with fail
  refine bodyPost_ret (v:=.tuple #[.agg zp,.bool false]) ?_ rfl (Or.inr ⟨zA HE,rfl,_,(zA HFR).zAv (Nat.le_refl _) _ _ _ _ _ _⟩)
  simp[results,Tryz.results169,go_sem,c0,c1,c2,c3,c4,c5]
theorem zQc (w:World) (R:Nat) (tv:Value) (ts:List Rt.Tk) (n:Nat) (first:ByteArray) (hr:RdS w R tv ts n zL []) (hsm:∀t∈ts,t.text.size≤40000) (h0:(first.toList==[118,97,114])=false) (h1:(first.toList==[97,114,114,97,121])=false) (h2:(first.toList==[112,114,111,99])=false) (h3:(first.toList==[101,110,100])=false) (h4:(first.toList==[105,102])=false) (h5:(first.toList==[101,108,115,101])=false) (h6:(first.toList==[119,104,105,108,101])=false) (h7:(first.toList==[115,101,116])=false) (h8:(first.toList==[112,114,105,110,116])=false) (h9:(first.toList==[114,101,97,100])=false) (h10:(first.toList==[99,97,108,108])=true) :
  Calls Tryz.prog 169 #[.pointer (some ⟨R,0,none⟩),.string first] w (zCn (Rt.zAC first) R tv ts n w):=by
 have hlt:R < w.heap.size:=World.block_lt_of_cell? w _ (zC hr.block 0 (by simp))
 have HSM:=zB hsm
 clear hsm
 have HP:Hid (Rt.zAC first (ts.drop n)=Rt.pCall (ts.drop n)):=by
  refine zB ?_
  simp[Rt.zAC,h0,h1,h2,h3,h4,h5,h6,h7,h8,h9,h10]
 go_enter Tryz.func169,Tryz.ntmps169
 go_wp2_with fail
 obtain⟨hr0,hfr0⟩:=hr.zH ((Below.refl w.heap.size w).alloc (Nat.le_refl _) (.cells zp 143))
 have hN0:(w.alloc (.cells zp 143)).heap[w.heap.size]?=some (.cells zp 143 (0,0)):=heap_alloc_new w _
 refine(call_any _ _ _ _ _ hr0 (zA HSM)).mono ?_
 rintro e w1 (⟨fm,n1,fv,hs,rfl,hr1,hfv,hfr1⟩| ⟨hs,rfl,ov,hfr1⟩)
 ·obtain⟨c0,c1,c2,c3,c4,c5,f0,f1,f2,f3,f4,f5⟩:=six (hfr1.zAa hN0 (by omega))
  have hfv2:=hfv
  obtain⟨pv,iv,vv,vs,rfl,b1,b2,b3,_⟩:=hfv
  obtain⟨ad1,cap1,rfl⟩:=zE b1
  obtain⟨ad2,cap2,rfl⟩:=zE b2
  obtain⟨ad3,cap3,rfl⟩:=zE b3
  have HE:=zB ((zA HP).trans hs)
  have HV:=zB hfv2
  have HR:=zB hr1
  have HFR:=zB (hfr0.trans hfr1)
  clear hr hr0 hr1 hfr0 hfr1 hs hN0 hfv2 b1 b2 b3
  go_wp2_with fail
  refine bodyPost_ret (v:=.tuple #[.agg #[.int .i64 fm.kind,.string fm.name,.int .i64 fm.cells,.slice ad1 fm.params.length cap1,.slice ad2 fm.index.length cap2,.slice ad3 fm.values.length cap3],.bool true]) ?_ rfl
   (Or.inl ⟨fm,n1,_,zA HE,rfl,(zA HR).zAv hlt _ _ _ _ _ _,zBs (zA HV) (by simp) (by simp) _ _ _ _ _ _,(zA HFR).zAv (Nat.le_refl _) _ _ _ _ _ _⟩)
  simp[results,Tryz.results169,go_sem,c0,c1,c2,c3,c4,c5]
 ·obtain⟨c0,c1,c2,c3,c4,c5,f0,f1,f2,f3,f4,f5⟩:=six (hfr1.zAa hN0 (by omega))
  have HE:=zB ((zA HP).trans hs)
  have HFR:=zB (hfr0.trans hfr1)
  clear hr hr0 hfr0 hfr1 hs hN0
  go_wp2_with fail
  refine bodyPost_ret (v:=.tuple #[.agg zp,.bool false]) ?_ rfl (Or.inr ⟨zA HE,rfl,_,(zA HFR).zAv (Nat.le_refl _) _ _ _ _ _ _⟩)
  simp[results,Tryz.results169,go_sem,c0,c1,c2,c3,c4,c5]
theorem zNT (w:World) (R:Nat) (tv:Value) (ts:List Rt.Tk) (n:Nat) (first:ByteArray) (hr:RdS w R tv ts n zL []) (h0:(first.toList==[118,97,114])=false) (h1:(first.toList==[97,114,114,97,121])=false) (h2:(first.toList==[112,114,111,99])=false) (h3:(first.toList==[101,110,100])=false) (h4:(first.toList==[105,102])=false) (h5:(first.toList==[101,108,115,101])=false) (h6:(first.toList==[119,104,105,108,101])=false) (h7:(first.toList==[115,101,116])=false) (h8:(first.toList==[112,114,105,110,116])=false) (h9:(first.toList==[114,101,97,100])=false) (h10:(first.toList==[99,97,108,108])=false) (h11:(first.toList==[114,101,116,117,114,110])=true) :
  Calls Tryz.prog 169 #[.pointer (some ⟨R,0,none⟩),.string first] w (zCn (Rt.zAC first) R tv ts n w):=by
 have hlt:R < w.heap.size:=World.block_lt_of_cell? w _ (zC hr.block 0 (by simp))
 have HP:Hid (Rt.zAC first (ts.drop n)=some (⟨13,⟨#[]⟩,0,[],[],[]⟩,ts.drop n)):=by
  refine zB ?_
  simp[Rt.zAC,h0,h1,h2,h3,h4,h5,h6,h7,h8,h9,h10,h11]
 have HR:=zB (hr.zH ((Below.refl w.heap.size w).alloc (Nat.le_refl _) (.cells #[.int .i64 13,.string ⟨#[]⟩,.int .i64 0,zL,zL,zL] 143)))
 clear hr
 go_enter Tryz.func169,Tryz.ntmps169
 go_wp2_with fail
 refine bodyPost_ret (v:=.tuple #[.agg #[.int .i64 13,.string ⟨#[]⟩,.int .i64 0,zL,zL,zL],.bool true]) ?_ rfl
  (Or.inl ⟨_,n,_,zA HP,rfl,(zA HR).1,zBr _ _ _ _ _,(zA HR).2⟩)
 simp[results,Tryz.results169,go_sem]
theorem zOs (w:World) (R:Nat) (tv:Value) (ts:List Rt.Tk) (n:Nat) (first:ByteArray) (hr:RdS w R tv ts n zL []) (h0:(first.toList==[118,97,114])=false) (h1:(first.toList==[97,114,114,97,121])=false) (h2:(first.toList==[112,114,111,99])=false) (h3:(first.toList==[101,110,100])=false) (h4:(first.toList==[105,102])=false) (h5:(first.toList==[101,108,115,101])=false) (h6:(first.toList==[119,104,105,108,101])=false) (h7:(first.toList==[115,101,116])=false) (h8:(first.toList==[112,114,105,110,116])=false) (h9:(first.toList==[114,101,97,100])=false) (h10:(first.toList==[99,97,108,108])=false) (h11:(first.toList==[114,101,116,117,114,110])=false) :
  Calls Tryz.prog 169 #[.pointer (some ⟨R,0,none⟩),.string first] w (zCn (Rt.zAC first) R tv ts n w):=by
 have hlt:R < w.heap.size:=World.block_lt_of_cell? w _ (zC hr.block 0 (by simp))
 have HP:Hid (Rt.zAC first (ts.drop n)=none):=by
  refine zB ?_
  simp[Rt.zAC,h0,h1,h2,h3,h4,h5,h6,h7,h8,h9,h10,h11]
 have HR:=zB (hr.zH ((Below.refl w.heap.size w).alloc (Nat.le_refl _) (.cells zp 143)))
 clear hr
 go_enter Tryz.func169,Tryz.ntmps169
 go_wp2_with fail
 refine bodyPost_ret (v:=.tuple #[.agg zp,.bool false]) ?_ rfl (Or.inr ⟨zA HP,rfl,_,(zA HR).2⟩)
 simp[results,Tryz.results169,go_sem]
theorem line_any (w:World) (R:Nat) (tv:Value) (ts:List Rt.Tk) (n:Nat) (first:ByteArray) (hr:RdS w R tv ts n zL []) (hsm:∀t∈ts,t.text.size≤40000) :
  Calls Tryz.prog 169 #[.pointer (some ⟨R,0,none⟩),.string first] w (zCn (Rt.zAC first) R tv ts n w):=by
 cases h0:(first.toList==[118,97,114])with
 | true=>exact line_var w R tv ts n first hr h0
 | false=>
 cases h1:(first.toList==[97,114,114,97,121])with
 | true=>exact zOt w R tv ts n first hr hsm h0 h1
 | false=>
 cases h2:(first.toList==[112,114,111,99])with
 | true=>exact zQZ w R tv ts n first hr h0 h1 h2
 | false=>
 cases h3:(first.toList==[101,110,100])with
 | true=>exact line_end w R tv ts n first hr h0 h1 h2 h3
 | false=>
 cases h4:(first.toList==[105,102])with
 | true=>exact line_if w R tv ts n first hr hsm h0 h1 h2 h3 h4
 | false=>
 cases h5:(first.toList==[101,108,115,101])with
 | true=>exact zQa w R tv ts n first hr h0 h1 h2 h3 h4 h5
 | false=>
 cases h6:(first.toList==[119,104,105,108,101])with
 | true=>exact zOo w R tv ts n first hr hsm h0 h1 h2 h3 h4 h5 h6
 | false=>
 cases h7:(first.toList==[115,101,116])with
 | true=>exact line_set w R tv ts n first hr hsm h0 h1 h2 h3 h4 h5 h6 h7
 | false=>
 cases h8:(first.toList==[112,114,105,110,116])with
 | true=>exact zOr w R tv ts n first hr hsm h0 h1 h2 h3 h4 h5 h6 h7 h8
 | false=>
 cases h9:(first.toList==[114,101,97,100])with
 | true=>exact zQY w R tv ts n first hr h0 h1 h2 h3 h4 h5 h6 h7 h8 h9
 | false=>
 cases h10:(first.toList==[99,97,108,108])with
 | true=>exact zQc w R tv ts n first hr hsm h0 h1 h2 h3 h4 h5 h6 h7 h8 h9 h10
 | false=>
 cases h11:(first.toList==[114,101,116,117,114,110])with
 | true=>exact zNT w R tv ts n first hr h0 h1 h2 h3 h4 h5 h6 h7 h8 h9 h10 h11
 | false=>
 exact zOs w R tv ts n first hr h0 h1 h2 h3 h4 h5 h6 h7 h8 h9 h10 h11
end Go.Proofs.YthleadfkfnnadaaGreat
