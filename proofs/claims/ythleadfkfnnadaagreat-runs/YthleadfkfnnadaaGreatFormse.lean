/- The walks of the readers of lines, continued: set. -/
import Derived.Test.YthleadfkfnnadaaGreatFormsc
set_option maxHeartbeats 4000000
set_option maxRecDepth 100000
namespace Go.Proofs.YthleadfkfnnadaaGreat
open Go.RowKit
theorem RdS.kept {w w1:World} {R:Nat} {tv:Value} {ts:List Rt.Tk} {n:Nat} (hr:RdS w R tv ts n zL []) (h:∀k,k≤R→w1.heap[k]?=w.heap[k]?):RdS w1 R tv ts n zL []:=by
 refine⟨hr.le,hr.few,hr.zCj,by rw[h R (Nat.le_refl _)];exact hr.block,?_,World.ownsRow_nil _ _ _ _⟩
 obtain⟨b,cap,rfl,hbR,hc⟩:=hr.zf
 have hc':∀j,w1.cell? ⟨b,j,none⟩=w.cell? ⟨b,j,none⟩:=fun j=>World.cell?_of_block (w:=w) (h b (by omega))
 exact⟨b,cap,rfl,hbR,fun i h=>⟨by rw[hc'];exact(hc i h).1,by rw[hc'];exact(hc i h).2⟩⟩
theorem RFr.grown {R:Nat} {a b:Value} {w wr w1:World} {o:Obj} {row:Option Nat} (h:RFr R a b w wr) (hg:(wr.alloc o).grownBy w1 row) (hr:∀k,row=some k→w.heap.size≤k):RFr R a b w w1:=
 ⟨hg.os.trans h.os,hg.tape.trans h.tape,hg.output.trans h.output,by have:=hg.size;have:=h.size;simp at *;omega,
  fun k hk h1 h2=>((hg.block k (by have:=h.size;simp;omega) (fun e=>by have:=hr k e.symm;omega)).trans (Below.heap_alloc wr o k (Nat.lt_of_lt_of_le hk h.size))).trans (h.block k hk h1 h2),h.own⟩
theorem zLe {wr w1:World} {o:Obj} {row:Option Nat} {R:Nat} (hg:(wr.alloc o).grownBy w1 row) (hR:R < wr.heap.size) (hr:∀k,row=some k→R < k):∀k,k≤R→w1.heap[k]?=wr.heap[k]?:=fun k hk=>by
 rw[hg.block k (by simp;omega) (fun e=>by have:=hr k e.symm;omega),Below.heap_alloc wr o k (by omega)]
theorem more' (w:World) (R:Nat) (tv:Value) (ts:List Rt.Tk) (n:Nat) (ov:Value) (ops:List Pop) (hr:RdS w R tv ts n ov ops) :
  Calls Tryz.prog 170 #[.pointer (some ⟨R,0,none⟩)] w fun e w'=>e=.returned (.bool (decide (n < ts.length)))∧RdS w' R tv ts n ov ops∧RFr R ov ov w w':=
 (zD2 w R tv ts n ov ops hr).mono (by rintro e w' ⟨rfl,q,rfl⟩;exact⟨rfl,hr.quiet q⟩)
theorem zF9 {w:World} {M N:Nat} {o:Obj} (h:w.heap[N]?=some o) (hne:N≠M) (i:Nat) (v:Value):(w.setCell ⟨M,i,none⟩ v).heap[N]?=some o:=by
 rw[Below.heap_setCell w ⟨M,i,none⟩ v N hne]
 exact h
theorem setIf6_3 (a b c d e f x:Value):(#[a,b,c,d,e,f].setIfInBounds 3 x)=#[a,b,c,x,e,f]:=rfl
theorem zM0 {ts:List Rt.Tk} {n2:Nat} {acc:List ByteArray} {nm2:ByteArray} (hn:n2 < ts.length) (h:Rt.zBK (ts.drop n2)=some (nm2,ts.drop (n2+1))) (hl:acc.length < 4) :
  Rt.zAw acc (ts.drop n2)=Rt.zAw (acc++[nm2]) (ts.drop (n2+1)):=by
 rw[zAe hn,Rt.zBK]at h
 rw[zAe hn,Rt.zAw]
 split at h
 ·next hk=>
  rw[if_pos ⟨hk,hl⟩]
  simp at h
  rw[h]
 ·cases h
theorem zM1 {ts:List Rt.Tk} {n2:Nat} {acc:List ByteArray} (hn:n2 < ts.length) (hl:4≤acc.length):Rt.zAw acc (ts.drop n2)=none:=by
 rw[zAe hn,Rt.zAw,if_neg (by omega)]
theorem zOT {ts:List Rt.Tk} {n2:Nat} {acc:List ByteArray} (hn:n2 < ts.length) (h:Rt.zBK (ts.drop n2)=none):Rt.zAw acc (ts.drop n2)=none:=by
 rw[zAe hn,Rt.zBK]at h
 rw[zAe hn,Rt.zAw]
 split at h
 ·cases h
 ·next hk=>rw[if_neg (fun x=>hk x.1)]
theorem zLI {rem r:List Rt.Tk} {nm:ByteArray} (h:Rt.zBK rem=some (nm,r)) (hp:Rt.zAw [] r=none):Rt.pProc rem=none:=by
 rw[Rt.pProc,h];simp only;rw[hp]
theorem zP5 {rem r:List Rt.Tk} {nm:ByteArray} {ps:List ByteArray} (h:Rt.zBK rem=some (nm,r)) (hp:Rt.zAw [] r=some ps):Rt.pProc rem=some (⟨3,nm,0,ps,[],[]⟩,[]):=by
 rw[Rt.pProc,h];simp only;rw[hp]
theorem zKw (w:World) (R:Nat) (tv:Value) (ts:List Rt.Tk) (n:Nat) (hr:RdS w R tv ts n zL []) :
  Calls Tryz.prog 198 #[.pointer (some ⟨R,0,none⟩)] w (zCn Rt.pProc R tv ts n w):=by
 have hlt:R < w.heap.size:=World.block_lt_of_cell? w _ (zC hr.block 0 (by simp))
 obtain⟨i0,hi,hz0,hz1,hz2⟩:=info_parts Tryz.zJE
 go_enter Tryz.func198,Tryz.ntmps198
 go_wp2_with fail
 obtain⟨hr0,hfr0⟩:=hr.zH ((Below.refl w.heap.size w).alloc (Nat.le_refl _) (.cells zp 143))
 have hN0:(w.alloc (.cells zp 143)).heap[w.heap.size]?=some (.cells zp 143 (0,0)):=heap_alloc_new w _
 refine(zEi _ _ _ _ _ _ _ hr0).mono ?_
 rintro e w1 (⟨nm,hn,hs,rfl,hr1,hfr1⟩| ⟨hs,rfl,hr1,hfr1⟩)
 ·have hN:=hfr1.zAa hN0 (by omega)
  have hNlt:=zJ hN
  have hfrA:=hfr0.trans hfr1
  have HS:=zB hs
  have hst:RdS (w1.alloc (.cells #[.int .i64 3,.string nm,.int .i64 0,zL,zL,zL] 143)) R tv ts (n+1) zL []:=(hr1.zH ((Below.refl w1.heap.size w1).alloc (Nat.le_refl _) _)).1
  have hfrB:=hfrA.alloc (.cells #[.int .i64 3,.string nm,.int .i64 0,zL,zL,zL] 143)
  have hNB:=zV hN (.cells #[.int .i64 3,.string nm,.int .i64 0,zL,zL,zL] 143)
  have hMB:=heap_alloc_new w1 (.cells #[.int .i64 3,.string nm,.int .i64 0,zL,zL,zL] 143)
  clear hr hr0 hfr0 hfr1 hs hN0 hfrA hN hr1
  go_wp2_with fail
  go_loopg [7,8] (ts.length-(n+1)) (fun k _ _ wr=>∃(n2:Nat) (pv:Value) (acc:List ByteArray),k=ts.length-n2∧n+1≤n2∧acc.length≤4∧Rt.zAw acc (ts.drop n2)=Rt.zAw [] (ts.drop (n+1))∧
   RdS wr R tv ts n2 zL []∧RFr R zL zL w wr∧wr.heap[w.heap.size]?=some (.cells zp 143 (0,0))∧
   wr.heap[w1.heap.size]?=some (.cells #[.int .i64 3,.string nm,.int .i64 0,pv,zL,zL] 143 (0,0))∧wr.ownsRow (w1.heap.size+1) 9 1 pv acc.length (acc.map Value.string))
  case atStart=>exact⟨n+1,zL,[],rfl,Nat.le_refl _,by simp,rfl,hst,hfrB,hNB,hMB,World.ownsRow_nil _ _ _ _⟩
  case round=>
   clear hst hfrB hNB hMB
   obtain⟨n2,pv,acc,hk,hn2,hacc,hT,hr2,hfr2,hN2,hM2,hown⟩:=hrel
   have HK:=zB hk
   have HT:=zB hT
   clear hk hT
   obtain⟨ad,cap,rfl⟩:=zE hown
   go_wp2_with fail
   refine(more' _ _ _ _ _ _ _ hr2).mono ?_
   rintro e w3 ⟨rfl,hr3,hfr3⟩
   have hN3:=hfr3.zAa hN2 (by omega)
   have hM3:=hfr3.zAa hM2 (by omega)
   have hown3:=hfr3.zCE hown (by omega)
   have hfrC:=hfr2.trans hfr3
   clear hr2 hfr2 hN2 hM2 hown hfr3
   by_cases hn3:n2 < ts.length
   ·have hd:decide (n2 < ts.length)=true:=by simpa using hn3
    rw[hd]
    go_wp2_with fail
    refine(zEi _ _ _ _ _ _ _ hr3).mono ?_
    rintro e w4 (⟨nm2,hn4,hs4,rfl,hr4,hfr4⟩| ⟨hs4,rfl,hr4,hfr4⟩)
    ·have hN4:=hfr4.zAa hN3 (by omega)
     have hM4:=hfr4.zAa hM3 (by omega)
     have hown4:=hfr4.zCE hown3 (by omega)
     have hfrD:=hfrC.trans hfr4
     have HS4:=zB hs4
     clear hr3 hN3 hM3 hown3 hfrC hfr4 hs4
     by_cases hfull:4≤acc.length
     ·obtain⟨c0,c1,c2,c3,c4,c5,f0,f1,f2,f3,f4,f5⟩:=six hN4
      have ⟨_,_,_,d3,_,_,_,_,_,_,_,_⟩:=six hM4
      have HFR:=zB hfrD
      have HE:=zB (zLI (zA HS) ((zA HT).symm.trans (zM1 hn3 hfull)))
      have hfull':(4:Int)≤(acc.length:Int):=by omega
      clear hN4 hM4 hr4 hfrD
      go_wp2_with fail
      refine bodyPost_ret (v:=.tuple #[.agg zp,.bool false]) ?_ rfl (Or.inr ⟨zA HE,rfl,_,(zA HFR).zAv (Nat.le_refl _) _ _ _ _ _ _⟩)
      simp[results,Tryz.results198,go_sem,c0,c1,c2,c3,c4,c5]
     ·have hfull':¬(4:Int)≤(acc.length:Int):=by omega
      have HT2:=zB ((zM0 hn3 (zA HS4) (by omega)).symm.trans (zA HT))
      have ⟨_,_,_,d3,_,_,_,_,_,g3,_,_⟩:=six hM4
      have hMlt:=zJ hM4
      have hRlt:R < w4.heap.size:=by omega
      go_wp2_with (at_builtin;refine wpList_append_own _ rfl (.tmp 36) (.tmp 38) 87 rfl (w1.heap.size+1) 9 i0 _ 1 16 Tryz.underlying87 hi hz0 hz1 hz2 rfl (by decide) _ _ _ rfl (hown4.alloc _) ⟨_,0,none⟩ 1 1 [.string nm2] rfl rfl (cell_one_new _ _ _) ?c2 ?c3 ?c4 ?c5 ?_)
      case c2=>intro u hu;simp at hu;rcases hu with rfl;rfl
      case c3=>unfold maxLen;omega
      case c4=>omega
      case c5=>simp;omega
      intro v' w5 hown5 hgrow _
      have hrow:∀k,(Value.slice ad acc.length cap).ownBlock=some k→w1.heap.size < k:=fun k hk=>by have:=(hown4.lt k hk).1;omega
      have hM5:=zEB hgrow hM4 (fun h=>by have:=hrow _ h;omega)
      have hN5:=zEB hgrow hN4 (fun h=>by have:=hrow _ h;omega)
      have hr5:=hr4.kept (zLe hgrow hRlt (fun k hk=>by have:=hrow k hk;omega))
      have hfr5:=hfrD.grown hgrow (fun k hk=>by have:=hrow k hk;omega)
      obtain⟨ad5,cap5,rfl⟩:=zE hown5
      have ⟨_,_,_,e3,_,_,_,_,_,k3,_,_⟩:=six hM5
      have hM6:=zO hM5 3 (Value.slice ad5 (acc.length+1) cap5)
      rw[setIf6_3]at hM6
      have hN6:=zF9 hN5 (M:=w1.heap.size) (by omega) 3 (Value.slice ad5 (acc.length+1) cap5)
      have hr6:=hr5.setOther (N:=w1.heap.size) (i:=3) (by omega) (by intro g h;cases h) (Value.slice ad5 (acc.length+1) cap5)
      have hfr6:=hfr5.zCp (N:=w1.heap.size) (i:=3) (by omega) (Value.slice ad5 (acc.length+1) cap5)
      have hown6:=zl hown5 (a:=⟨w1.heap.size,3,none⟩) (fun g hg=>by have:=(hown5.lt g hg).1;show g≠w1.heap.size;omega) (Value.slice ad5 (acc.length+1) cap5)
      have HH:=zB (And.intro hM6 (And.intro hN6 (And.intro hr6 (And.intro hfr6 hown6))))
      clear hM6 hN6 hr6 hfr6 hown6 hM5 hN5 hr5 hfr5 hown5 hgrow hr4 hfrD hM4 hN4 hown4 hrow
      go_wp2_with fail
      go_roundg (ts.length-(n2+1))
      case measure=>have:=zA HK;omega
      case rel=>
       obtain⟨hM6,hN6,hr6,hfr6,hown6⟩:=zA HH
       exact⟨n2+1,_,acc++[nm2],rfl,by omega,by simp;omega,zA HT2,hr6,hfr6,hN6,hM6,by simpa using hown6⟩
    ·have hN4:=hfr4.zAa hN3 (by omega)
     obtain⟨c0,c1,c2,c3,c4,c5,f0,f1,f2,f3,f4,f5⟩:=six hN4
     have HFR:=zB (hfrC.trans hfr4)
     have HE:=zB (zLI (zA HS) ((zA HT).symm.trans (zOT hn3 hs4)))
     clear hr3 hr4 hN3 hM3 hown3 hfrC hfr4 hs4 hN4
     go_wp2_with fail
     refine bodyPost_ret (v:=.tuple #[.agg zp,.bool false]) ?_ rfl (Or.inr ⟨zA HE,rfl,_,(zA HFR).zAv (Nat.le_refl _) _ _ _ _ _ _⟩)
     simp[results,Tryz.results198,go_sem,c0,c1,c2,c3,c4,c5]
   ·have hd:decide (n2 < ts.length)=false:=by simpa using hn3
    rw[hd]
    have HE:Hid (Rt.pProc (ts.drop n)=some (⟨3,nm,0,acc,[],[]⟩,ts.drop n2)):=by
     refine zB ?_
     have h:=zA HT
     rw[zBw hn3,Rt.zAw]at h
     rw[zP5 (zA HS) h.symm,zBw hn3]
    obtain⟨c0,c1,c2,c3,c4,c5,f0,f1,f2,f3,f4,f5⟩:=six hN3
    have ⟨d0,d1,d2,d3,d4,d5,_,_,_,_,_,_⟩:=six hM3
    have HR:=zB hr3
    have HFR:=zB hfrC
    have HO:=zB (zh (b':=w.heap.size) (zCL (N:=w.heap.size) hown3 (fun g hg=>by have:=(hown3.lt g hg).1;omega) (.int .i64 3) (.string nm) (.int .i64 0) (.slice ad acc.length cap) zL zL) (by omega))
    clear hr3 hN3 hM3 hown3 hfrC
    go_wp2_with fail
    refine bodyPost_ret (v:=.tuple #[.agg #[.int .i64 3,.string nm,.int .i64 0,.slice ad acc.length cap,zL,zL],.bool true]) ?_ rfl
     (Or.inl ⟨⟨3,nm,0,acc,[],[]⟩,n2,_,zA HE,rfl,(zA HR).zAv hlt _ _ _ _ _ _,⟨_,zL,zL,[],rfl,zA HO,World.ownsRow_nil _ _ _ _,World.ownsRow_nil _ _ _ _,trivial⟩,(zA HFR).zAv (Nat.le_refl _) _ _ _ _ _ _⟩)
    simp[results,Tryz.results198,go_sem,c0,c1,c2,c3,c4,c5]
 ·obtain⟨c0,c1,c2,c3,c4,c5,f0,f1,f2,f3,f4,f5⟩:=six (hfr1.zAa hN0 (by omega))
  have HS:=zB hs
  have HFR:=zB (hfr0.trans hfr1)
  clear hr hr0 hfr0 hfr1 hs hN0
  go_wp2_with fail
  refine bodyPost_ret (v:=.tuple #[.agg zp,.bool false]) ?_ rfl (Or.inr ⟨by rw[Rt.pProc,zA HS],rfl,_,(zA HFR).zAv (Nat.le_refl _) _ _ _ _ _ _⟩)
  simp[results,Tryz.results198,go_sem,c0,c1,c2,c3,c4,c5]
theorem zFQ (w:World) (R:Nat) (tv:Value) (ts:List Rt.Tk) (n:Nat) (ov:Value) (ops:List Pop) (x:ByteArray) (hr:RdS w R tv ts n ov ops) :
  Calls Tryz.prog 216 #[.pointer (some ⟨R,0,none⟩),.string x] w fun e w'=>
   (Rt.zA6 x (ts.drop n)=some (ts.drop (n+1))∧e=.returned (.bool true)∧RdS w' R tv ts (n+1) ov ops∧RFr R ov ov w w')∨
   (Rt.zA6 x (ts.drop n)=none∧e=.returned (.bool false)∧RdS w' R tv ts n ov ops∧RFr R ov ov w w'):=by
 by_cases hn:n < ts.length
 ·by_cases hk:ts[n].text=x
  ·refine(zEf w R tv ts n ov ops x hr hn hk).mono ?_
   rintro e w' ⟨rfl,h3,h4⟩
   exact Or.inl ⟨by rw[zAe hn,Rt.zA6,if_pos hk],rfl,h3,h4⟩
  ·refine(zDt w R tv ts n ov ops x hr hn hk).mono ?_
   rintro e w' ⟨rfl,h3,h4⟩
   exact Or.inr ⟨by rw[zAe hn,Rt.zA6,if_neg hk],rfl,h3,h4⟩
 ·refine(zF5 w R tv ts n ov ops x hr hn).mono ?_
  rintro e w' ⟨rfl,h3,h4⟩
  exact Or.inr ⟨by rw[zBw hn,Rt.zA6],rfl,h3,h4⟩
theorem setIf6_0 (a b c d e f x:Value):(#[a,b,c,d,e,f].setIfInBounds 0 x)=#[x,b,c,d,e,f]:=rfl
theorem setIf6_4 (a b c d e f x:Value):(#[a,b,c,d,e,f].setIfInBounds 4 x)=#[a,b,c,d,x,f]:=rfl
theorem set_any (w:World) (R:Nat) (tv:Value) (ts:List Rt.Tk) (n:Nat) (hr:RdS w R tv ts n zL []) (hsm:∀t∈ts,t.text.size≤40000) :
  Calls Tryz.prog 200 #[.pointer (some ⟨R,0,none⟩)] w (zCn Rt.zFK R tv ts n w):=by
 have hlt:R < w.heap.size:=World.block_lt_of_cell? w _ (zC hr.block 0 (by simp))
 have HSM:=zB hsm
 clear hsm
 go_enter Tryz.func200,Tryz.ntmps200
 go_wp2_with fail
 obtain⟨hr0,hfr0⟩:=hr.zH ((Below.refl w.heap.size w).alloc (Nat.le_refl _) (.cells zp 143))
 have hN0:(w.alloc (.cells zp 143)).heap[w.heap.size]?=some (.cells zp 143 (0,0)):=heap_alloc_new w _
 refine(zEi _ _ _ _ _ _ _ hr0).mono ?_
 rintro e w1 (⟨nm,hn,hs,rfl,hr1,hfr1⟩| ⟨hs,rfl,hr1,hfr1⟩)
 ·have hN:=hfr1.zAa hN0 (by omega)
  have hNlt:=zJ hN
  have hfrA:=hfr0.trans hfr1
  have HS:=zB hs
  have hrB:=(hr1.zH ((Below.refl w1.heap.size w1).alloc (Nat.le_refl _) (.cells #[.int .i64 8,.string nm,.int .i64 0,zL,zL,zL] 143))).1
  have hfrB:=hfrA.alloc (.cells #[.int .i64 8,.string nm,.int .i64 0,zL,zL,zL] 143)
  have hNB:=zV hN (.cells #[.int .i64 8,.string nm,.int .i64 0,zL,zL,zL] 143)
  have hMB:=heap_alloc_new w1 (.cells #[.int .i64 8,.string nm,.int .i64 0,zL,zL,zL] 143)
  clear hr hr0 hfr0 hfr1 hs hN0 hfrA hN hr1
  go_wp2_with fail
  refine(zFQ _ _ _ _ _ _ _ _ hrB).mono ?_
  rintro e w2 (⟨hs2,rfl,hr2,hfr2⟩| ⟨hs2,rfl,hr2,hfr2⟩)
  ·have hN2:=hfr2.zAa hNB (by omega)
   have hM2:=hfr2.zAa hMB (by omega)
   have hfrC:=hfrB.trans hfr2
   have HS2:=zB hs2
   clear hs2 hfr2 hfrB hNB hMB hrB
   go_wp2_with fail
   refine(zCP _ _ _ _ _ hr2 (zA HSM)).mono ?_
   rintro e w3 (⟨ix,n3,iv,hs3,rfl,hn3,hix,hr3,hiv,hfr3⟩| ⟨hs3,rfl,ov3,hfr3⟩)
   ·obtain⟨adi,capi,rfl⟩:=zE hiv
    have hM2lt:=zJ hM2
    have hN3:=zV (hfr3.zAa hN2 (by omega)) (.cells #[.slice adi ix.length capi] 140)
    have hM3:=zV (hfr3.zAa hM2 (by omega)) (.cells #[.slice adi ix.length capi] 140)
    have hE3:=heap_alloc_new w3 (.cells #[.slice adi ix.length capi] 140)
    have hrD:=(hr3.zH ((Below.refl w3.heap.size w3).alloc (Nat.le_refl _) (.cells #[.slice adi ix.length capi] 140))).1
    have hfrD:=(hfrC.trans hfr3).alloc (.cells #[.slice adi ix.length capi] 140)
    have hivD:=(zh (b':=w1.heap.size+1) hiv (by omega)).alloc (.cells #[.slice adi ix.length capi] 140)
    have hM3lt:=zJ (hfr3.zAa hM2 (by omega))
    have HS3:=zB hs3
    clear hs3 hfr3 hr3 hiv hN2 hM2 hfrC hr2
    go_wp2_with fail
    refine(zFQ _ _ _ _ _ _ _ _ hrD).mono ?_
    rintro e w4 (⟨hs4,rfl,hr4,hfr4⟩| ⟨hs4,rfl,hr4,hfr4⟩)
    ·have hN4:=hfr4.zAa hN3 (by omega)
     have hM4:=hfr4.zAa hM3 (by omega)
     have hE4:=hfr4.zAa hE3 (by omega)
     have hiv4:=hfr4.zCE hivD (by omega)
     have hfrE:=hfrD.trans hfr4
     have HS4:=zB hs4
     have ⟨d0,d1,d2,d3,d4,d5,g0,g1,g2,g3,g4,g5⟩:=six hM4
     have x0:=zC hE4 0 (by simp)
     simp at x0
     have hMf:=zO (zO hM4 0 (.int .i64 9)) 4 (.slice adi ix.length capi)
     rw[setIf6_0,setIf6_4]at hMf
     have hNf:=zF9 (zF9 hN4 (M:=w1.heap.size) (by omega) 0 (.int .i64 9)) (M:=w1.heap.size) (by omega) 4 (.slice adi ix.length capi)
     have hrf:=(hr4.setOther (N:=w1.heap.size) (i:=0) (by omega) (by intro g h;cases h) (.int .i64 9)).setOther (N:=w1.heap.size) (i:=4) (by omega) (by intro g h;cases h) (.slice adi ix.length capi)
     have hfrf:=(hfrE.zCp (N:=w1.heap.size) (i:=0) (by omega) (.int .i64 9)).zCp (N:=w1.heap.size) (i:=4) (by omega) (.slice adi ix.length capi)
     have hivf:=zl (zl hiv4 (a:=⟨w1.heap.size,0,none⟩) (fun g hg=>by have:=(hiv4.lt g hg).1;show g≠w1.heap.size;omega) (.int .i64 9)) (a:=⟨w1.heap.size,4,none⟩) (fun g hg=>by have:=(hiv4.lt g hg).1;show g≠w1.heap.size;omega) (.slice adi ix.length capi)
     clear hs4 hfr4 hr4 hN4 hM4 hE4 hiv4 hfrE hN3 hM3 hE3 hrD hfrD hivD
     go_wp2_with fail
     refine(zFQ _ _ _ _ _ _ _ _ hrf).mono ?_
     rintro e w5 (⟨hs5,rfl,hr5,hfr5⟩| ⟨hs5,rfl,hr5,hfr5⟩)
     ·have hN5:=hfr5.zAa hNf (by omega)
      have hM5:=hfr5.zAa hMf (by omega)
      have hiv5:=hfr5.zCE hivf (by omega)
      have hfrE:=hfrf.trans hfr5
      have HS5:=zB hs5
      clear hs5 hfr5 hrf hNf hMf hivf hfrf
      go_wp2_with fail
      refine(zCP _ _ _ _ _ hr5 (zA HSM)).mono ?_
      rintro e w6 (⟨em,n6,xv,hs6,rfl,hn6,hem,hr6,hxv,hfr6⟩| ⟨hs6,rfl,ov6,hfr6⟩)
      ·obtain⟨adx,capx,rfl⟩:=zE hxv
       have hN6:=hfr6.zAa hN5 (by omega)
       have hM6:=hfr6.zAa hM5 (by omega)
       have hiv6:=hfr6.zCE hiv5 (by omega)
       have hfrF:=hfrE.trans hfr6
       have HE:=zB (Rt.set_b (zA HS) (zA HS2) (zA HS3) (zA HS4) (Rt.to_ok (zA HS5) hs6))
       have hM6lt:=zJ hM6
       have hxg:∀g,(Value.slice adx em.length capx).ownBlock=some g→w5.heap.size≤g:=fun g hg=>(hxv.lt g hg).1
       have hM5lt:=zJ hM5
       obtain⟨c0,c1,c2,c3,c4,c5,f0,f1,f2,f3,f4,f5⟩:=six hN6
       have ⟨d0,d1,d2,d3,d4,d5,_,_,_,_,_,g5⟩:=six hM6
       have hne:¬w1.heap.size=w.heap.size:=by omega
       have hz:w.heap.size < w6.heap.size:=by omega
       have a1:=(hr6.setOther (N:=w1.heap.size) (i:=5) (by omega) (by intro g h;cases h) (Value.slice (some ⟨w6.heap.size+1,0,none⟩) 1 1)).zAv hlt (.int .i64 9) (.string nm) (.int .i64 0) zL (Value.slice adi ix.length capi) (Value.slice (some ⟨w6.heap.size+1,0,none⟩) 1 1)
       have a2:=(hfrF.zCp (N:=w1.heap.size) (i:=5) (by omega) (Value.slice (some ⟨w6.heap.size+1,0,none⟩) 1 1)).zAv (N:=w.heap.size) (Nat.le_refl _) (.int .i64 9) (.string nm) (.int .i64 0) zL (Value.slice adi ix.length capi) (Value.slice (some ⟨w6.heap.size+1,0,none⟩) 1 1)
       have a3:=zh (b':=w.heap.size) (zCL (N:=w.heap.size) (zl hxv (a:=⟨w1.heap.size,5,none⟩) (fun g hg=>by have:=hxg g hg;show g≠w1.heap.size;omega) (Value.slice (some ⟨w6.heap.size+1,0,none⟩) 1 1)) (fun g hg=>by have:=hxg g hg;omega) (.int .i64 9) (.string nm) (.int .i64 0) zL (Value.slice adi ix.length capi) (Value.slice (some ⟨w6.heap.size+1,0,none⟩) 1 1)) (by omega)
       have a4:=zh (b':=w.heap.size) (zCL (N:=w.heap.size) (zl hiv6 (a:=⟨w1.heap.size,5,none⟩) (fun g hg=>by have:=(hiv6.lt g hg).1;show g≠w1.heap.size;omega) (Value.slice (some ⟨w6.heap.size+1,0,none⟩) 1 1)) (fun g hg=>by have:=(hiv6.lt g hg).1;omega) (.int .i64 9) (.string nm) (.int .i64 0) zL (Value.slice adi ix.length capi) (Value.slice (some ⟨w6.heap.size+1,0,none⟩) 1 1)) (by omega)
       have HH:=zB (And.intro a1 (And.intro a2 (And.intro a3 a4)))
       clear a1 a2 a3 a4 hr6 hfrF hxv hiv6 hN6 hM6 hfrE hfr6 hN5 hM5 hiv5 hr5 hs6 hxg
       go_wp2_with fail
       refine bodyPost_ret (v:=.tuple #[.agg #[.int .i64 9,.string nm,.int .i64 0,zL,Value.slice adi ix.length capi,.slice (some ⟨w6.heap.size+1,0,none⟩) 1 1],.bool true]) ?_ rfl ?_
       ·simp[results,Tryz.results200,go_sem,c0,c1,c2,c3,c4,c5,hz]
       ·obtain⟨a1,a2,a3,a4⟩:=zA HH
        have hszA:=zJA (w6.setCell ⟨w1.heap.size,5,none⟩ (Value.slice (some ⟨w6.heap.size+1,0,none⟩) 1 1)) w.heap.size (.int .i64 9) (.string nm) (.int .i64 0) zL (Value.slice adi ix.length capi) (Value.slice (some ⟨w6.heap.size+1,0,none⟩) 1 1)
        have hszB:(w6.setCell ⟨w1.heap.size,5,none⟩ (Value.slice (some ⟨w6.heap.size+1,0,none⟩) 1 1)).heap.size=w6.heap.size:=by simp[World.setCell]
        generalize hwA:W6 (w6.setCell ⟨w1.heap.size,5,none⟩ (Value.slice (some ⟨w6.heap.size+1,0,none⟩) 1 1)) w.heap.size (.int .i64 9) (.string nm) (.int .i64 0) zL (Value.slice adi ix.length capi) (Value.slice (some ⟨w6.heap.size+1,0,none⟩) 1 1)=wA at a1 a2 a3 a4 hszA
        obtain⟨b1,b2⟩:=a1.zH (((Below.refl wA.heap.size wA).alloc (Nat.le_refl _) (.cells #[.slice adx em.length capx] 140)).alloc (by simp) (.cells #[.slice adx em.length capx] 140))
        have hnew:=zFc (wA.alloc (.cells #[.slice adx em.length capx] 140)) w.heap.size 140 (.slice adx em.length capx) (by simp;omega)
        have hszC:(wA.alloc (.cells #[.slice adx em.length capx] 140)).heap.size=w6.heap.size+1:=by simp[hszA,hszB]
        rw[hszC]at hnew
        skip
        rw[←hwA]at b1 b2 hnew a2 a3 a4
        exact Or.inl ⟨⟨9,nm,0,[],ix,[em]⟩,n6,_,zA HE,rfl,b1,⟨zL,Value.slice adi ix.length capi,_,[_],rfl,World.ownsRow_nil _ _ _ _,(a4.alloc _).alloc _,hnew,⟨(a3.alloc _).alloc _,trivial⟩⟩,a2.trans b2⟩
      ·have hN6:=hfr6.zAa hN5 (by omega)
       have HE:=zB (Rt.set_b (zA HS) (zA HS2) (zA HS3) (zA HS4) (Rt.to_no (zA HS5) hs6))
       have HFR:=zB (hfrE.trans hfr6)
       obtain⟨c0,c1,c2,c3,c4,c5,f0,f1,f2,f3,f4,f5⟩:=six hN6
       have hz:=zJ hN6
       clear hN6 hN5 hM5 hiv5 hr5 hfrE hfr6 hs6
       go_wp2_with fail
       refine bodyPost_ret (v:=.tuple #[.agg zp,.bool false]) ?_ rfl (Or.inr ⟨zA HE,rfl,_,((zA HFR).zAv (N:=w.heap.size) (Nat.le_refl _) _ _ _ _ _ _).alloc _⟩)
       simp[results,Tryz.results200,go_sem,c0,c1,c2,c3,c4,c5,hz]
     ·have hN5:=hfr5.zAa hNf (by omega)
      have HE:=zB (Rt.set_b (zA HS) (zA HS2) (zA HS3) (zA HS4) (Rt.zPP hs5))
      have HFR:=zB (hfrf.trans hfr5)
      obtain⟨c0,c1,c2,c3,c4,c5,f0,f1,f2,f3,f4,f5⟩:=six hN5
      clear hN5 hr5 hfr5 hs5 hrf hNf hMf hivf hfrf
      go_wp2_with fail
      refine bodyPost_ret (v:=.tuple #[.agg zp,.bool false]) ?_ rfl (Or.inr ⟨zA HE,rfl,_,(zA HFR).zAv (Nat.le_refl _) _ _ _ _ _ _⟩)
      simp[results,Tryz.results200,go_sem,c0,c1,c2,c3,c4,c5]
    ·have hN4:=hfr4.zAa hN3 (by omega)
     have HE:=zB (Rt.set_c (zA HS) (zA HS2) (zA HS3) hs4)
     have HFR:=zB (hfrD.trans hfr4)
     obtain⟨c0,c1,c2,c3,c4,c5,f0,f1,f2,f3,f4,f5⟩:=six hN4
     clear hN4 hr4 hfr4 hs4 hN3 hM3 hE3 hrD hfrD hivD
     go_wp2_with fail
     refine bodyPost_ret (v:=.tuple #[.agg zp,.bool false]) ?_ rfl (Or.inr ⟨zA HE,rfl,_,(zA HFR).zAv (Nat.le_refl _) _ _ _ _ _ _⟩)
     simp[results,Tryz.results200,go_sem,c0,c1,c2,c3,c4,c5]
   ·have hN3:=hfr3.zAa hN2 (by omega)
    have HE:=zB (Rt.set_d (zA HS) (zA HS2) hs3)
    have HFR:=zB (hfrC.trans hfr3)
    obtain⟨c0,c1,c2,c3,c4,c5,f0,f1,f2,f3,f4,f5⟩:=six hN3
    have hz:=zJ hN3
    clear hN3 hfr3 hs3 hN2 hM2 hfrC hr2
    go_wp2_with fail
    refine bodyPost_ret (v:=.tuple #[.agg zp,.bool false]) ?_ rfl (Or.inr ⟨zA HE,rfl,_,((zA HFR).zAv (N:=w.heap.size) (Nat.le_refl _) _ _ _ _ _ _).alloc _⟩)
    simp[results,Tryz.results200,go_sem,c0,c1,c2,c3,c4,c5,hz]
  ·have hN2:=hfr2.zAa hNB (by omega)
   have hM2:=hfr2.zAa hMB (by omega)
   have hfrC:=hfrB.trans hfr2
   have HS2:=zB hs2
   have hivn:w2.ownsRow (w1.heap.size+1) 236 3 zL 0 (zAB []):=World.ownsRow_nil _ _ _ _
   clear hs2 hfr2 hfrB hNB hMB hrB
   go_wp2_with fail
   refine(zFQ _ _ _ _ _ _ _ _ hr2).mono ?_
   rintro e w5 (⟨hs5,rfl,hr5,hfr5⟩| ⟨hs5,rfl,hr5,hfr5⟩)
   ·have hN5:=hfr5.zAa hN2 (by omega)
    have hM5:=hfr5.zAa hM2 (by omega)
    have hiv5:=hfr5.zCE hivn (by omega)
    have hfrE:=hfrC.trans hfr5
    have HS5:=zB hs5
    clear hs5 hfr5 hr2 hN2 hM2 hivn hfrC
    go_wp2_with fail
    refine(zCP _ _ _ _ _ hr5 (zA HSM)).mono ?_
    rintro e w6 (⟨em,n6,xv,hs6,rfl,hn6,hem,hr6,hxv,hfr6⟩| ⟨hs6,rfl,ov6,hfr6⟩)
    ·obtain⟨adx,capx,rfl⟩:=zE hxv
     have hN6:=hfr6.zAa hN5 (by omega)
     have hM6:=hfr6.zAa hM5 (by omega)
     have hiv6:=hfr6.zCE hiv5 (by omega)
     have hfrF:=hfrE.trans hfr6
     have HE:=zB (Rt.set_a (zA HS) (zA HS2) (Rt.to_ok (zA HS5) hs6))
     have hM6lt:=zJ hM6
     have hxg:∀g,(Value.slice adx em.length capx).ownBlock=some g→w5.heap.size≤g:=fun g hg=>(hxv.lt g hg).1
     have hM5lt:=zJ hM5
     obtain⟨c0,c1,c2,c3,c4,c5,f0,f1,f2,f3,f4,f5⟩:=six hN6
     have ⟨d0,d1,d2,d3,d4,d5,_,_,_,_,_,g5⟩:=six hM6
     have hne:¬w1.heap.size=w.heap.size:=by omega
     have hz:w.heap.size < w6.heap.size:=by omega
     have a1:=(hr6.setOther (N:=w1.heap.size) (i:=5) (by omega) (by intro g h;cases h) (Value.slice (some ⟨w6.heap.size+1,0,none⟩) 1 1)).zAv hlt (.int .i64 8) (.string nm) (.int .i64 0) zL (zL) (Value.slice (some ⟨w6.heap.size+1,0,none⟩) 1 1)
     have a2:=(hfrF.zCp (N:=w1.heap.size) (i:=5) (by omega) (Value.slice (some ⟨w6.heap.size+1,0,none⟩) 1 1)).zAv (N:=w.heap.size) (Nat.le_refl _) (.int .i64 8) (.string nm) (.int .i64 0) zL (zL) (Value.slice (some ⟨w6.heap.size+1,0,none⟩) 1 1)
     have a3:=zh (b':=w.heap.size) (zCL (N:=w.heap.size) (zl hxv (a:=⟨w1.heap.size,5,none⟩) (fun g hg=>by have:=hxg g hg;show g≠w1.heap.size;omega) (Value.slice (some ⟨w6.heap.size+1,0,none⟩) 1 1)) (fun g hg=>by have:=hxg g hg;omega) (.int .i64 8) (.string nm) (.int .i64 0) zL (zL) (Value.slice (some ⟨w6.heap.size+1,0,none⟩) 1 1)) (by omega)
     have a4:=zh (b':=w.heap.size) (zCL (N:=w.heap.size) (zl hiv6 (a:=⟨w1.heap.size,5,none⟩) (fun g hg=>by have:=(hiv6.lt g hg).1;show g≠w1.heap.size;omega) (Value.slice (some ⟨w6.heap.size+1,0,none⟩) 1 1)) (fun g hg=>by have:=(hiv6.lt g hg).1;omega) (.int .i64 8) (.string nm) (.int .i64 0) zL (zL) (Value.slice (some ⟨w6.heap.size+1,0,none⟩) 1 1)) (by omega)
     have HH:=zB (And.intro a1 (And.intro a2 (And.intro a3 a4)))
     clear a1 a2 a3 a4 hr6 hfrF hxv hiv6 hN6 hM6 hfrE hfr6 hN5 hM5 hiv5 hr5 hs6 hxg
     go_wp2_with fail
     refine bodyPost_ret (v:=.tuple #[.agg #[.int .i64 8,.string nm,.int .i64 0,zL,zL,.slice (some ⟨w6.heap.size+1,0,none⟩) 1 1],.bool true]) ?_ rfl ?_
     ·simp[results,Tryz.results200,go_sem,c0,c1,c2,c3,c4,c5,hz]
     ·obtain⟨a1,a2,a3,a4⟩:=zA HH
      have hszA:=zJA (w6.setCell ⟨w1.heap.size,5,none⟩ (Value.slice (some ⟨w6.heap.size+1,0,none⟩) 1 1)) w.heap.size (.int .i64 8) (.string nm) (.int .i64 0) zL (zL) (Value.slice (some ⟨w6.heap.size+1,0,none⟩) 1 1)
      have hszB:(w6.setCell ⟨w1.heap.size,5,none⟩ (Value.slice (some ⟨w6.heap.size+1,0,none⟩) 1 1)).heap.size=w6.heap.size:=by simp[World.setCell]
      generalize hwA:W6 (w6.setCell ⟨w1.heap.size,5,none⟩ (Value.slice (some ⟨w6.heap.size+1,0,none⟩) 1 1)) w.heap.size (.int .i64 8) (.string nm) (.int .i64 0) zL (zL) (Value.slice (some ⟨w6.heap.size+1,0,none⟩) 1 1)=wA at a1 a2 a3 a4 hszA
      obtain⟨b1,b2⟩:=a1.zH (((Below.refl wA.heap.size wA).alloc (Nat.le_refl _) (.cells #[.slice adx em.length capx] 140)).alloc (by simp) (.cells #[.slice adx em.length capx] 140))
      have hnew:=zFc (wA.alloc (.cells #[.slice adx em.length capx] 140)) w.heap.size 140 (.slice adx em.length capx) (by simp;omega)
      have hszC:(wA.alloc (.cells #[.slice adx em.length capx] 140)).heap.size=w6.heap.size+1:=by simp[hszA,hszB]
      rw[hszC]at hnew
      skip
      rw[←hwA]at b1 b2 hnew a2 a3 a4
      exact Or.inl ⟨⟨8,nm,0,[],[],[em]⟩,n6,_,zA HE,rfl,b1,⟨zL,zL,_,[_],rfl,World.ownsRow_nil _ _ _ _,(a4.alloc _).alloc _,hnew,⟨(a3.alloc _).alloc _,trivial⟩⟩,a2.trans b2⟩
    ·have hN6:=hfr6.zAa hN5 (by omega)
     have HE:=zB (Rt.set_a (zA HS) (zA HS2) (Rt.to_no (zA HS5) hs6))
     have HFR:=zB (hfrE.trans hfr6)
     obtain⟨c0,c1,c2,c3,c4,c5,f0,f1,f2,f3,f4,f5⟩:=six hN6
     have hz:=zJ hN6
     clear hN6 hN5 hM5 hiv5 hr5 hfrE hfr6 hs6
     go_wp2_with fail
     refine bodyPost_ret (v:=.tuple #[.agg zp,.bool false]) ?_ rfl (Or.inr ⟨zA HE,rfl,_,((zA HFR).zAv (N:=w.heap.size) (Nat.le_refl _) _ _ _ _ _ _).alloc _⟩)
     simp[results,Tryz.results200,go_sem,c0,c1,c2,c3,c4,c5,hz]
   ·have hN5:=hfr5.zAa hN2 (by omega)
    have HE:=zB (Rt.set_a (zA HS) (zA HS2) (Rt.zPP hs5))
    have HFR:=zB (hfrC.trans hfr5)
    obtain⟨c0,c1,c2,c3,c4,c5,f0,f1,f2,f3,f4,f5⟩:=six hN5
    clear hN5 hr5 hfr5 hs5 hr2 hN2 hM2 hivn hfrC
    go_wp2_with fail
    refine bodyPost_ret (v:=.tuple #[.agg zp,.bool false]) ?_ rfl (Or.inr ⟨zA HE,rfl,_,(zA HFR).zAv (Nat.le_refl _) _ _ _ _ _ _⟩)
    simp[results,Tryz.results200,go_sem,c0,c1,c2,c3,c4,c5]
 ·obtain⟨c0,c1,c2,c3,c4,c5,f0,f1,f2,f3,f4,f5⟩:=six (hfr1.zAa hN0 (by omega))
  have HS:=zB hs
  have HFR:=zB (hfr0.trans hfr1)
  clear hr hr0 hfr0 hfr1 hs hN0
  go_wp2_with fail
  refine bodyPost_ret (v:=.tuple #[.agg zp,.bool false]) ?_ rfl (Or.inr ⟨by rw[Rt.zFK,zA HS],rfl,_,(zA HFR).zAv (Nat.le_refl _) _ _ _ _ _ _⟩)
  simp[results,Tryz.results200,go_sem,c0,c1,c2,c3,c4,c5]
end Go.Proofs.YthleadfkfnnadaaGreat
