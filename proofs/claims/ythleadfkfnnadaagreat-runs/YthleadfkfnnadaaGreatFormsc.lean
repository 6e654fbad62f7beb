/- The walks of the readers of lines, continued: array, procedure. -/
import Derived.Test.YthleadfkfnnadaaGreatExprc
set_option maxHeartbeats 4000000
set_option maxRecDepth 100000
namespace Go.Proofs.YthleadfkfnnadaaGreat
open Go.RowKit
theorem zF5 (w:World) (R:Nat) (tv:Value) (ts:List Rt.Tk) (n:Nat) (ov:Value) (ops:List Pop) (x:ByteArray) (hr:RdS w R tv ts n ov ops) (hn:¬n < ts.length) :
  Calls Tryz.prog 216 #[.pointer (some ⟨R,0,none⟩),.string x] w fun e w'=>e=.returned (.bool false)∧RdS w' R tv ts n ov ops∧RFr R ov ov w w':=
 (zJZ w R tv ts n ov ops x hr hn).mono (by rintro e w' ⟨rfl,q,rfl⟩;exact⟨rfl,hr.quiet q⟩)
theorem zDt (w:World) (R:Nat) (tv:Value) (ts:List Rt.Tk) (n:Nat) (ov:Value) (ops:List Pop) (x:ByteArray) (hr:RdS w R tv ts n ov ops) (hn:n < ts.length) (hx:¬ts[n].text=x) :
  Calls Tryz.prog 216 #[.pointer (some ⟨R,0,none⟩),.string x] w fun e w'=>e=.returned (.bool false)∧RdS w' R tv ts n ov ops∧RFr R ov ov w w':=
 (zL2 w R tv ts n ov ops x hr hn hx).mono (by rintro e w' ⟨rfl,q,rfl⟩;exact⟨rfl,hr.quiet q⟩)
theorem zIh (w:World) (R:Nat) (tv:Value) (ts:List Rt.Tk) (n:Nat) (ov:Value) (ops:List Pop) (hr:RdS w R tv ts n ov ops) (hn:¬n < ts.length) :
  Calls Tryz.prog 214 #[.pointer (some ⟨R,0,none⟩)] w fun e w'=>e=.returned (.tuple #[.int .i64 0,.bool false])∧RdS w' R tv ts n ov ops∧RFr R ov ov w w':=
 (zOb w R tv ts n ov ops hr hn).mono (by rintro e w' ⟨rfl,q,rfl⟩;exact⟨rfl,hr.quiet q⟩)
theorem zJu (w:World) (R:Nat) (tv:Value) (ts:List Rt.Tk) (n:Nat) (ov:Value) (ops:List Pop) (hr:RdS w R tv ts n ov ops) (hn:n < ts.length) (hk:¬ts[n].kind=2) :
  Calls Tryz.prog 214 #[.pointer (some ⟨R,0,none⟩)] w fun e w'=>e=.returned (.tuple #[.int .i64 0,.bool false])∧RdS w' R tv ts n ov ops∧RFr R ov ov w w':=
 (zQP w R tv ts n ov ops hr hn hk).mono (by rintro e w' ⟨rfl,q,rfl⟩;exact⟨rfl,hr.quiet q⟩)
theorem zKt (w:World) (R:Nat) (tv:Value) (ts:List Rt.Tk) (n:Nat) (ov:Value) (ops:List Pop) (hr:RdS w R tv ts n ov ops) (hn:¬n < ts.length) :
  Calls Tryz.prog 230 #[.pointer (some ⟨R,0,none⟩)] w fun e w'=>e=.returned (.bool false)∧RdS w' R tv ts n ov ops∧RFr R ov ov w w':=
 (zL0 w R tv ts n ov ops hr hn).mono (by rintro e w' ⟨rfl,q,rfl⟩;exact⟨rfl,hr.quiet q⟩)
theorem zQS (w:World) (R:Nat) (tv:Value) (ts:List Rt.Tk) (n:Nat) (ov:Value) (ops:List Pop) (hr:RdS w R tv ts n ov ops) (hn:¬n < ts.length) :
  Calls Tryz.prog 213 #[.pointer (some ⟨R,0,none⟩)] w fun e w'=>e=.returned (.tuple #[.string ⟨#[]⟩,.bool false])∧RdS w' R tv ts n ov ops∧RFr R ov ov w w':=
 (zNI w R tv ts n ov ops hr hn).mono (by rintro e w' ⟨rfl,q,rfl⟩;exact⟨rfl,hr.quiet q⟩)
theorem zKL (w:World) (R:Nat) (tv:Value) (ts:List Rt.Tk) (n:Nat) (ov:Value) (ops:List Pop) (hr:RdS w R tv ts n ov ops) (hn:¬n < ts.length) :
  Calls Tryz.prog 229 #[.pointer (some ⟨R,0,none⟩)] w fun e w'=>e=.returned (.bool false)∧RdS w' R tv ts n ov ops∧RFr R ov ov w w':=by
 go_enter Tryz.func229,Tryz.ntmps229
 go_wp2_with fail
 refine(zF5 _ _ _ _ _ _ _ _ hr hn).mono ?_
 rintro e w1 ⟨rfl,hr1,hfr1⟩
 go_wp2_with fail
 refine(zF5 _ _ _ _ _ _ _ _ hr1 hn).mono ?_
 rintro e w2 ⟨rfl,hr2,hfr2⟩
 go_wp2_with fail
 refine(zIh _ _ _ _ _ _ _ hr2 hn).mono ?_
 rintro e w3 ⟨rfl,hr3,hfr3⟩
 go_wp2_with fail
 refine(zKt _ _ _ _ _ _ _ hr3 hn).mono ?_
 rintro e w4 ⟨rfl,hr4,hfr4⟩
 have HR:=zB hr4
 have HFR:=zB (hfr1.trans (hfr2.trans (hfr3.trans hfr4)))
 clear hr1 hr2 hr3 hr4 hfr1 hfr2 hfr3 hfr4
 go_wp2_with fail
 go_ret
 exact⟨rfl,zA HR,zA HFR⟩
theorem factor_any (f:Nat) (hf:Reads f 229 (Rt.ze f)) (hc:Reads f 222 (Rt.pComp (Rt.ze f))) :
  Reads (f+1) 229 (Rt.ze (f+1)):=by
 intro w R tv ts n ov ops hr hsm hle
 by_cases hn:n < ts.length
 case neg=>
  refine(zKL _ _ _ _ _ _ _ hr hn).mono ?_
  rintro e w1 ⟨rfl,_,hfr⟩
  exact Or.inr ⟨by rw[zBw hn,Rt.ze],rfl,_,hfr⟩
 have HSM:=zB hsm
 clear hsm
 have hfew:=hr.few
 have hops:=hr.zCj
 by_cases hm:ts[n].text=⟨#[45]⟩
 ·have HE:Hid (∀x,Rt.ze f (ts.drop (n+1))=x→Rt.ze (f+1) (ts.drop n)=(match x with | none=>none | some (e',r')=>some (e'++[⟨4,0,⟨#[]⟩⟩],r'))):=by
   refine zB ?_
   intro x hx
   rw[zAe hn,Rt.ze,if_pos hm,hx]
   cases x <;> rfl
  go_enter Tryz.func229,Tryz.ntmps229
  go_wp2_with fail
  refine(zEf _ _ _ _ _ _ _ _ hr hn hm).mono ?_
  rintro e w1 ⟨rfl,hr1,hfr1⟩
  clear hm
  go_wp2_with fail
  refine(hf _ _ _ _ _ _ _ hr1 (zA HSM) (by omega)).mono ?_
  rintro e w4 (⟨em5,n5,ov5,hs5,rfl,hlen5,hlt5,hr5,hfr5⟩| ⟨hs5,rfl,ov5,hfr5⟩)
  ·have HN:=zB ((zA HE) _ hs5)
   clear hs5
   go_wp2_with fail
   refine(zDP _ _ _ _ _ _ _ ⟨4,0,⟨#[]⟩⟩ hr5 (by have:=hr5.zCj;simp at this ⊢;omega)).mono ?_
   rintro e w5 ⟨rfl,ov6,hr6,hfr6⟩
   have HR:=zB hr6
   have HFR:=zB (hfr1.trans (hfr5.trans hfr6))
   clear hr1 hr5 hr6 hfr1 hfr5 hfr6
   go_wp2_with fail
   go_ret
   exact Or.inl ⟨em5++[⟨4,0,⟨#[]⟩⟩],n5,ov6,zA HN,rfl,by simp;omega,by omega,by have:=zA HR;simpa using this,zA HFR⟩
  ·have HN:=zB ((zA HE) _ hs5)
   clear hs5
   have HFR:=zB (hfr1.trans hfr5)
   clear hr1 hfr1 hfr5
   go_wp2_with fail
   go_ret
   exact Or.inr ⟨zA HN,rfl,_,zA HFR⟩
 by_cases hp:ts[n].text=⟨#[40]⟩
 ·have HE:Hid (Rt.ze (f+1) (ts.drop n)=Rt.closed ⟨#[41]⟩ [] (Rt.pComp (Rt.ze f) (ts.drop (n+1)))):=by
   refine zB ?_
   rw[zAe hn,Rt.ze,if_neg hm,if_pos hp]
  go_enter Tryz.func229,Tryz.ntmps229
  go_wp2_with fail
  refine(zDt _ _ _ _ _ _ _ _ hr hn hm).mono ?_
  rintro e w0 ⟨rfl,hr0,hfr0⟩
  clear hm
  go_wp2_with fail
  refine(zEf _ _ _ _ _ _ _ _ hr0 hn hp).mono ?_
  rintro e w1 ⟨rfl,hr1,hfr1⟩
  clear hp
  go_wp2_with fail
  refine(hc _ _ _ _ _ _ _ hr1 (zA HSM) (by omega)).mono ?_
  rintro e w4 (⟨em5,n5,ov5,hs5,rfl,hlen5,hlt5,hr5,hfr5⟩| ⟨hs5,rfl,ov5,hfr5⟩)
  ·have hle5:=hr5.le
   rw[hs5]at HE
   clear hs5
   by_cases hn5:n5 < ts.length
   ·by_cases hx5:ts[n5].text=⟨#[41]⟩
    ·have HG:Hid (Rt.ze (f+1) (ts.drop n)=some (em5,ts.drop (n5+1))):=by
      refine zB ?_
      rw[zA HE,zAe hn5,Rt.closed,if_pos hx5,List.append_nil]
     clear HE
     go_wp2_with fail
     refine(zEf _ _ _ _ _ _ _ _ hr5 hn5 hx5).mono ?_
     rintro e w6 ⟨rfl,hr7,hfr7⟩
     have HR:=zB hr7
     have HFR:=zB (hfr0.trans (hfr1.trans (hfr5.trans hfr7)))
     clear hr0 hr1 hr5 hr7 hfr0 hfr1 hfr5 hfr7 hx5
     go_wp2_with fail
     go_ret
     exact Or.inl ⟨em5,n5+1,ov5,zA HG,rfl,by omega,by omega,zA HR,zA HFR⟩
    ·have HG:Hid (Rt.ze (f+1) (ts.drop n)=none):=by
      refine zB ?_
      rw[zA HE,zAe hn5,Rt.closed,if_neg hx5]
     clear HE
     go_wp2_with fail
     refine(zDt _ _ _ _ _ _ _ _ hr5 hn5 hx5).mono ?_
     rintro e w6 ⟨rfl,hr7,hfr7⟩
     have HFR:=zB (hfr0.trans (hfr1.trans (hfr5.trans hfr7)))
     clear hr0 hr1 hr5 hr7 hfr0 hfr1 hfr5 hfr7 hx5
     go_wp2_with fail
     go_ret
     exact Or.inr ⟨zA HG,rfl,_,zA HFR⟩
   ·have HG:Hid (Rt.ze (f+1) (ts.drop n)=none):=by
     refine zB ?_
     rw[zA HE,zBw hn5,Rt.closed]
    clear HE
    go_wp2_with fail
    refine(zF5 _ _ _ _ _ _ _ _ hr5 hn5).mono ?_
    rintro e w6 ⟨rfl,hr7,hfr7⟩
    have HFR:=zB (hfr0.trans (hfr1.trans (hfr5.trans hfr7)))
    clear hr0 hr1 hr5 hr7 hfr0 hfr1 hfr5 hfr7
    go_wp2_with fail
    go_ret
    exact Or.inr ⟨zA HG,rfl,_,zA HFR⟩
  ·have HG:Hid (Rt.ze (f+1) (ts.drop n)=none):=by
    refine zB ?_
    rw[zA HE,hs5,Rt.closed]
   clear HE hs5
   have HFR:=zB (hfr0.trans (hfr1.trans hfr5))
   clear hr0 hr1 hfr0 hfr1 hfr5
   go_wp2_with fail
   go_ret
   exact Or.inr ⟨zA HG,rfl,_,zA HFR⟩
 by_cases hk:ts[n].kind=2
 ·have HE:Hid (Rt.ze (f+1) (ts.drop n)=some ([⟨1,Rt.val ts[n].text,⟨#[]⟩⟩],ts.drop (n+1))):=by
   refine zB ?_
   rw[zAe hn,Rt.ze,if_neg hm,if_neg hp,if_pos hk]
  have hsz:ts[n].text.size≤maxLen:=by
   have:=(zA HSM) ts[n] (List.getElem_mem hn)
   unfold maxLen
   omega
  go_enter Tryz.func229,Tryz.ntmps229
  go_wp2_with fail
  refine(zDt _ _ _ _ _ _ _ _ hr hn hm).mono ?_
  rintro e w0 ⟨rfl,hr0,hfr0⟩
  clear hm
  go_wp2_with fail
  refine(zDt _ _ _ _ _ _ _ _ hr0 hn hp).mono ?_
  rintro e w1 ⟨rfl,hr1,hfr1⟩
  clear hp
  go_wp2_with fail
  refine(zJt _ _ _ _ _ _ _ hr1 hn hk hsz).mono ?_
  rintro e w2 ⟨rfl,hr2,hfr2⟩
  clear hk hsz
  go_wp2_with fail
  refine(zDP _ _ _ _ _ _ _ ⟨1,Rt.val ts[n].text,⟨#[]⟩⟩ hr2 (by omega)).mono ?_
  rintro e w5 ⟨rfl,ov6,hr6,hfr6⟩
  have HR:=zB hr6
  have HFR:=zB (hfr0.trans (hfr1.trans (hfr2.trans hfr6)))
  clear hr0 hr1 hr2 hr6 hfr0 hfr1 hfr2 hfr6
  go_wp2_with fail
  go_ret
  exact Or.inl ⟨_,n+1,ov6,zA HE,rfl,by simp;omega,by omega,zA HR,zA HFR⟩
 ·have HE:Hid (Rt.ze (f+1) (ts.drop n)=zEK f ts[n] (ts.drop (n+1))):=by
   refine zB ?_
   rw[zAe hn,Rt.ze,if_neg hm,if_neg hp,if_neg hk]
   rfl
  go_enter Tryz.func229,Tryz.ntmps229
  go_wp2_with fail
  refine(zDt _ _ _ _ _ _ _ _ hr hn hm).mono ?_
  rintro e w0 ⟨rfl,hr0,hfr0⟩
  clear hm
  go_wp2_with fail
  refine(zDt _ _ _ _ _ _ _ _ hr0 hn hp).mono ?_
  rintro e w1 ⟨rfl,hr1,hfr1⟩
  clear hp
  go_wp2_with fail
  refine(zJu _ _ _ _ _ _ _ hr1 hn hk).mono ?_
  rintro e w2 ⟨rfl,hr2,hfr2⟩
  clear hk
  go_wp2_with fail
  refine(zL1 f hc _ _ _ _ _ _ _ hr2 (zA HSM) hn (by omega)).mono ?_
  rintro e w4 (⟨em5,n5,ov5,hs5,rfl,hlen5,hlt5,hr5,hfr5⟩| ⟨hs5,rfl,ov5,hfr5⟩)
  ·have HG:=zB ((zA HE).trans hs5)
   have HR:=zB hr5
   have HFR:=zB (hfr0.trans (hfr1.trans (hfr2.trans hfr5)))
   clear hr0 hr1 hr2 hr5 hfr0 hfr1 hfr2 hfr5 hs5
   go_wp2_with fail
   go_ret
   exact Or.inl ⟨_,n5,ov5,zA HG,rfl,by omega,by omega,zA HR,zA HFR⟩
  ·have HG:=zB ((zA HE).trans hs5)
   have HFR:=zB (hfr0.trans (hfr1.trans (hfr2.trans hfr5)))
   clear hr0 hr1 hr2 hfr0 hfr1 hfr2 hfr5 hs5
   go_wp2_with fail
   go_ret
   exact Or.inr ⟨zA HG,rfl,_,zA HFR⟩
theorem zPB (f:Nat):Reads f 229 (Rt.ze f):=by
 induction f with
 | zero=>
  intro w R tv ts n ov ops hr hsm hle
  refine(zKL _ _ _ _ _ _ _ hr (by omega)).mono ?_
  rintro e w1 ⟨rfl,_,hfr⟩
  exact Or.inr ⟨by rw[Rt.ze],rfl,_,hfr⟩
 | succ f ih=>exact factor_any f ih (comparison_any f (zPR f (zMn f ih)))
theorem zKW (f:Nat):Reads f 222 (Rt.pComp (Rt.ze f)):=comparison_any f (zPR f (zMn f (zPB f)))
abbrev zL:Value:=.slice none 0 0
theorem RFr.zCp {R:Nat} {a b:Value} {w w1:World} {N i:Nat} (h:RFr R a b w w1) (hN:w.heap.size≤N) (v:Value):RFr R a b w (w1.setCell ⟨N,i,none⟩ v):=
 ⟨h.os,h.tape,h.output,by have:=h.size;simp[World.setCell];omega,fun k hk h1 h2=>(Below.heap_setCell w1 ⟨N,i,none⟩ v k (by show k≠N;omega)).trans (h.block k hk h1 h2),h.own⟩
theorem zl {w:World} {base:Nat} {e:TypeId} {size:Nat} {v:Value} {n:Nat} {xs:List Value} (h:w.ownsRow base e size v n xs) {a:Addr} (ha:∀g,v.ownBlock=some g→g≠a.block) (u:Value):(w.setCell a u).ownsRow base e size v n xs:=by
 obtain⟨h1,h2⟩:=h
 refine⟨h1,?_⟩
 rcases h2 with h2 | ⟨g,cap,cur,hv,hg,hh,r⟩
 ·exact Or.inl h2
 ·exact Or.inr ⟨g,cap,cur,hv,hg,by rw[Below.heap_setCell _ _ _ _ (ha g (by rw[hv];rfl))];exact hh,r⟩
theorem RdS.setOther {w:World} {R:Nat} {tv:Value} {ts:List Rt.Tk} {n:Nat} {ov:Value} {ops:List Pop} {N i:Nat} (hr:RdS w R tv ts n ov ops) (hN:R < N) (ho:∀g,ov.ownBlock=some g→g≠N) (v:Value) :
  RdS (w.setCell ⟨N,i,none⟩ v) R tv ts n ov ops:=by
 have hoth:∀k,k≠N→(w.setCell ⟨N,i,none⟩ v).heap[k]?=w.heap[k]?:=fun k hk=>Below.heap_setCell w ⟨N,i,none⟩ v k hk
 refine⟨hr.le,hr.few,hr.zCj,by rw[hoth R (by omega)];exact hr.block,?_,zl hr.own ho v⟩
 obtain⟨b,cap,rfl,hbR,hc⟩:=hr.zf
 have hc':∀j,(w.setCell ⟨N,i,none⟩ v).cell? ⟨b,j,none⟩=w.cell? ⟨b,j,none⟩:=fun j=>World.cell?_of_block (w:=w) (hoth b (by omega))
 exact⟨b,cap,rfl,hbR,fun i h=>⟨by rw[hc'];exact(hc i h).1,by rw[hc'];exact(hc i h).2⟩⟩
theorem RdS.clear {w:World} {R:Nat} {tv:Value} {ts:List Rt.Tk} {n:Nat} {ov:Value} {ops:List Pop} (hr:RdS w R tv ts n ov ops) :
  RdS (w.setCell ⟨R,2,none⟩ zL) R tv ts n zL []∧RFr R ov zL w (w.setCell ⟨R,2,none⟩ zL)∧(w.setCell ⟨R,2,none⟩ zL).ownsRow (R+1) 236 3 ov ops.length (zAB ops):=by
 have hoth:∀k,k≠R→(w.setCell ⟨R,2,none⟩ zL).heap[k]?=w.heap[k]?:=fun k hk=>Below.heap_setCell w ⟨R,2,none⟩ _ k hk
 refine⟨⟨hr.le,hr.few,by simp,?_,?_,World.ownsRow_nil _ _ _ _⟩,⟨rfl,rfl,rfl,by simp[World.setCell],fun k _ h1 _=>hoth k h1,fun g h=>by cases h⟩,?_⟩
 ·show (w.heap.modify R _)[R]?=_
  rw[Array.getElem?_modify]
  simp[hr.block]
 ·obtain⟨b,cap,rfl,hbR,hc⟩:=hr.zf
  have hc':∀j,(w.setCell ⟨R,2,none⟩ zL).cell? ⟨b,j,none⟩=w.cell? ⟨b,j,none⟩:=fun j=>World.cell?_of_block (w:=w) (hoth b (by omega))
  exact⟨b,cap,rfl,hbR,fun i h=>⟨by rw[hc'];exact(hc i h).1,by rw[hc'];exact(hc i h).2⟩⟩
 ·exact ownsRow_setCell_below hr.own (by show R < R+1;omega) _
theorem zCP (w:World) (R:Nat) (tv:Value) (ts:List Rt.Tk) (n:Nat) (hr:RdS w R tv ts n zL []) (hsm:∀t∈ts,t.text.size≤40000) :
  Calls Tryz.prog 215 #[.pointer (some ⟨R,0,none⟩)] w fun e w'=>
   (∃em n' xv,Rt.zCd (ts.drop n)=some (em,ts.drop n')∧e=.returned (.tuple #[.agg #[xv],.bool true])∧n < n'∧em.length≤n'∧RdS w' R tv ts n' zL []∧
    w'.ownsRow w.heap.size 236 3 xv em.length (zAB em)∧RFr R zL zL w w')∨
   (Rt.zCd (ts.drop n)=none∧e=.returned (.tuple #[.agg #[zL],.bool false])∧∃ov,RFr R zL ov w w'):=by
 have hfew:=hr.few
 have HSM:=zB hsm
 clear hsm
 have hlt:R < w.heap.size:=World.block_lt_of_cell? w _ (zC hr.block 0 (by simp))
 go_enter Tryz.func215,Tryz.ntmps215
 go_wp2_with fail
 obtain⟨hr0,hfr0⟩:=hr.zH ((Below.refl w.heap.size w).alloc (Nat.le_refl _) (.cells #[zL] 140))
 refine(zKW 24 _ _ _ _ _ _ _ hr0 (zA HSM) (by omega)).mono ?_
 rintro e w1 (⟨em,n1,ov1,hs,rfl,hlen,hlt1,hr1,hfr1⟩| ⟨hs,rfl,ov1,hfr1⟩)
 ·rw[List.nil_append]at hr1
  have hN:w1.heap[w.heap.size]?=some (.cells #[zL] 140 (0,0)):=by
   rw[hfr1.block w.heap.size (by simp) (by omega) (by simp[Value.ownBlock])]
   exact heap_alloc_new w _
  have hg:∀g,ov1.ownBlock=some g→w.heap.size < g:=fun g hg=>by
   rcases hfr1.own g hg with h | h
   ·cases h
   ·simp at h;omega
  obtain⟨ad,cap,rfl⟩:=zE hr1.own
  have HS:=zB hs
  clear hs
  have c2:=zC hr1.block 2 (by simp)
  have f2:=zI hr1.block 2
  have cN:=zC hN 0 (by simp)
  have fN:=zI hN 0
  simp at c2 cN
  obtain⟨hr2,hfr2,hown2⟩:=hr1.clear
  have HR:=zB (hr2.setOther (N:=w.heap.size) (i:=0) hlt (by intro g h;cases h) (Value.slice ad em.length cap))
  have HFR:=zB ((hfr0.trans (hfr1.trans hfr2)).zCp (N:=w.heap.size) (i:=0) (Nat.le_refl _) (Value.slice ad em.length cap))
  have HO:=zB (zHP (b':=w.heap.size) (zl hown2 (a:=⟨w.heap.size,0,none⟩) (fun g h=>by have:=hg g h;show g≠w.heap.size;omega) (Value.slice ad em.length cap)) (fun g h=>by have:=hg g h;omega))
  clear hr hr0 hr1 hr2 hfr0 hfr1 hfr2 hown2 hN
  have hne:¬R=w.heap.size:=by omega
  go_wp2_with fail
  refine bodyPost_ret (v:=.tuple #[.agg #[Value.slice ad em.length cap],.bool true]) ?_ rfl (Or.inl ⟨em,n1,_,zA HS,rfl,hlt1,by omega,zA HR,zA HO,zA HFR⟩)
  simp[results,Tryz.results215,go_sem,cN]
 ·have hN:w1.heap[w.heap.size]?=some (.cells #[zL] 140 (0,0)):=by
   rw[hfr1.block w.heap.size (by simp) (by omega) (by simp[Value.ownBlock])]
   exact heap_alloc_new w _
  have cN:=zC hN 0 (by simp)
  have fN:=zI hN 0
  simp at cN
  have HS:=zB hs
  have HFR:=zB ((hfr0.trans hfr1).zCp (N:=w.heap.size) (i:=0) (Nat.le_refl _) zL)
  clear hr hr0 hfr0 hfr1 hN hs
  go_wp2_with fail
  refine bodyPost_ret (v:=.tuple #[.agg #[zL],.bool false]) ?_ rfl (Or.inr ⟨zA HS,rfl,_,zA HFR⟩)
  simp[results,Tryz.results215,go_sem,cN]
theorem zEi (w:World) (R:Nat) (tv:Value) (ts:List Rt.Tk) (n:Nat) (ov:Value) (ops:List Pop) (hr:RdS w R tv ts n ov ops) :
  Calls Tryz.prog 213 #[.pointer (some ⟨R,0,none⟩)] w fun e w'=>
   (∃nm,n < ts.length∧Rt.zBK (ts.drop n)=some (nm,ts.drop (n+1))∧e=.returned (.tuple #[.string nm,.bool true])∧RdS w' R tv ts (n+1) ov ops∧RFr R ov ov w w')∨
   (Rt.zBK (ts.drop n)=none∧e=.returned (.tuple #[.string ⟨#[]⟩,.bool false])∧RdS w' R tv ts n ov ops∧RFr R ov ov w w'):=by
 by_cases hn:n < ts.length
 ·refine(zCV w R tv ts n ov ops hr hn).mono ?_
  rintro e w' (⟨h1,h2,rfl,h3,h4⟩| ⟨h1,rfl,h3,h4⟩)
  ·exact Or.inl ⟨_,hn,by rw[zAe hn,Rt.zBK,if_pos ⟨h1,h2⟩],rfl,h3,h4⟩
  ·exact Or.inr ⟨by rw[zAe hn,Rt.zBK,if_neg h1],rfl,h3,h4⟩
 ·refine(zQS w R tv ts n ov ops hr hn).mono ?_
  rintro e w' ⟨rfl,h3,h4⟩
  exact Or.inr ⟨by rw[zBw hn,Rt.zBK],rfl,h3,h4⟩
def zAc (w:World) (B:Nat):List Value→List (List Pop)→Prop
 | [],[]=>True
 | x::xs,o::os=>w.ownsRow B 236 3 x o.length (zAB o)∧zAc w B xs os
 | _,_=>False
def zAd (w:World) (B:Nat) (v:Array Value) (fm:Rt.zAU):Prop:=
 ∃pv iv vv vs,v=#[.int .i64 fm.kind,.string fm.name,.int .i64 fm.cells,pv,iv,vv]∧w.ownsRow B 9 1 pv fm.params.length (fm.params.map Value.string)∧
  w.ownsRow B 236 3 iv fm.index.length (zAB fm.index)∧w.ownsRow B 140 1 vv fm.values.length vs∧zAc w B vs fm.values
abbrev zp:Array Value:=#[.int .i64 0,.string ⟨#[]⟩,.int .i64 0,zL,zL,zL]
def zCn (spec:List Rt.Tk→Rt.zI3) (R:Nat) (tv:Value) (ts:List Rt.Tk) (n:Nat) (w:World) (e:Ending) (w':World):Prop:=
 (∃fm n' fv,spec (ts.drop n)=some (fm,ts.drop n')∧e=.returned (.tuple #[.agg fv,.bool true])∧RdS w' R tv ts n' zL []∧zAd w' w.heap.size fv fm∧RFr R zL zL w w')∨
 (spec (ts.drop n)=none∧e=.returned (.tuple #[.agg zp,.bool false])∧∃ov,RFr R zL ov w w')
abbrev W6 (w:World) (N:Nat) (a b c d e f:Value):World:=
 (((((w.setCell ⟨N,0,none⟩ a).setCell ⟨N,1,none⟩ b).setCell ⟨N,2,none⟩ c).setCell ⟨N,3,none⟩ d).setCell ⟨N,4,none⟩ e).setCell ⟨N,5,none⟩ f
theorem RFr.zAv {R:Nat} {x y:Value} {w w1:World} {N:Nat} (h:RFr R x y w w1) (hN:w.heap.size≤N) (a b c d e f:Value):RFr R x y w (W6 w1 N a b c d e f):=
 (((((h.zCp hN a).zCp hN b).zCp hN c).zCp hN d).zCp hN e).zCp hN f
theorem RdS.zAv {w:World} {R:Nat} {tv:Value} {ts:List Rt.Tk} {n:Nat} {N:Nat} (hr:RdS w R tv ts n zL []) (hN:R < N) (a b c d e f:Value):RdS (W6 w N a b c d e f) R tv ts n zL []:=
 have ho:∀g,(zL:Value).ownBlock=some g→g≠N:=by intro g h;cases h
 (((((hr.setOther hN ho a).setOther hN ho b).setOther hN ho c).setOther hN ho d).setOther hN ho e).setOther hN ho f
theorem zCL {w:World} {base:Nat} {t:TypeId} {size:Nat} {v:Value} {n:Nat} {xs:List Value} {N:Nat} (h:w.ownsRow base t size v n xs) (ha:∀g,v.ownBlock=some g→g≠N) (a b c d e f:Value):(W6 w N a b c d e f).ownsRow base t size v n xs:=
 zl (zl (zl (zl (zl (zl h ha a) ha b) ha c) ha d) ha e) ha f
def Six (w:World) (N:Nat) (a b c d e f:Value):Prop:=
 w.cell? ⟨N,0,none⟩=some a∧w.cell? ⟨N,1,none⟩=some b∧w.cell? ⟨N,2,none⟩=some c∧w.cell? ⟨N,3,none⟩=some d∧w.cell? ⟨N,4,none⟩=some e∧w.cell? ⟨N,5,none⟩=some f∧
 w.frozen? ⟨N,0,none⟩=false∧w.frozen? ⟨N,1,none⟩=false∧w.frozen? ⟨N,2,none⟩=false∧w.frozen? ⟨N,3,none⟩=false∧w.frozen? ⟨N,4,none⟩=false∧w.frozen? ⟨N,5,none⟩=false
theorem six {w:World} {N:Nat} {a b c d e f:Value} {t:TypeId} (h:w.heap[N]?=some (.cells #[a,b,c,d,e,f] t (0,0))):Six w N a b c d e f:=
 ⟨zC h 0 (by simp),zC h 1 (by simp),zC h 2 (by simp),zC h 3 (by simp),zC h 4 (by simp),zC h 5 (by simp),
  zI h 0,zI h 1,zI h 2,zI h 3,zI h 4,zI h 5⟩
theorem zBr (w:World) (B:Nat) (kind:Int) (nm:ByteArray) (cells:Int):zAd w B #[.int .i64 kind,.string nm,.int .i64 cells,zL,zL,zL] ⟨kind,nm,cells,[],[],[]⟩:=
 ⟨zL,zL,zL,[],rfl,World.ownsRow_nil _ _ _ _,World.ownsRow_nil _ _ _ _,World.ownsRow_nil _ _ _ _,trivial⟩
theorem zLT (w:World) (R:Nat) (tv:Value) (ts:List Rt.Tk) (n:Nat) (kind:Int) (hr:RdS w R tv ts n zL []) :
  Calls Tryz.prog 196 #[.pointer (some ⟨R,0,none⟩),.int .i64 kind] w (zCn (Rt.pNamed kind) R tv ts n w):=by
 have hlt:R < w.heap.size:=World.block_lt_of_cell? w _ (zC hr.block 0 (by simp))
 go_enter Tryz.func196,Tryz.ntmps196
 go_wp2_with fail
 obtain⟨hr0,hfr0⟩:=hr.zH ((Below.refl w.heap.size w).alloc (Nat.le_refl _) (.cells zp 143))
 refine(zEi _ _ _ _ _ _ _ hr0).mono ?_
 intro e w1 hpost
 have hfr1:RFr R zL zL (w.alloc (.cells zp 143)) w1:=by rcases hpost with⟨_,_,_,_,_,h⟩| ⟨_,_,_,h⟩ <;> exact h
 have hN:w1.heap[w.heap.size]?=some (.cells zp 143 (0,0)):=by
  rw[hfr1.block w.heap.size (by simp) (by omega) (by simp[Value.ownBlock])]
  exact heap_alloc_new w _
 obtain⟨c0,c1,c2,c3,c4,c5,f0,f1,f2,f3,f4,f5⟩:=six hN
 have HFR:=zB (hfr0.trans hfr1)
 clear hr0 hfr1 hN hfr0
 rcases hpost with⟨nm,hn,hs,rfl,hr1,_⟩| ⟨hs,rfl,hr1,_⟩
 ·have HR:=zB hr1
  have HS:=zB hs
  clear hr1 hs hr
  go_wp2_with fail
  refine bodyPost_ret (v:=.tuple #[.agg #[.int .i64 kind,.string nm,.int .i64 0,zL,zL,zL],.bool true]) ?_ rfl
   (Or.inl ⟨_,n+1,_,by rw[Rt.pNamed,zA HS],rfl,(zA HR).zAv hlt _ _ _ _ _ _,zBr _ _ _ _ _,(zA HFR).zAv (Nat.le_refl _) _ _ _ _ _ _⟩)
  simp[results,Tryz.results196,go_sem,c0,c1,c2,c3,c4,c5]
 ·have HS:=zB hs
  clear hr1 hs hr
  go_wp2_with fail
  refine bodyPost_ret (v:=.tuple #[.agg zp,.bool false]) ?_ rfl
   (Or.inr ⟨by rw[Rt.pNamed,zA HS],rfl,_,(zA HFR).zAv (Nat.le_refl _) _ _ _ _ _ _⟩)
  simp[results,Tryz.results196,go_sem,c0,c1,c2,c3,c4,c5]
theorem RFr.alloc {R:Nat} {a b:Value} {w w1:World} (h:RFr R a b w w1) (o:Obj):RFr R a b w (w1.alloc o):=
 ⟨h.os,h.tape,h.output,by have:=h.size;simp;omega,fun k hk h1 h2=>(Below.heap_alloc w1 o k (Nat.lt_of_lt_of_le hk h.size)).trans (h.block k hk h1 h2),h.own⟩
theorem zFc (w:World) (B:Nat) (e:TypeId) (x:Value) (hB:B≤w.heap.size):(w.alloc (.cells #[x] e)).ownsRow B e 1 (.slice (some ⟨w.heap.size,0,none⟩) 1 1) 1 [x]:=
 ⟨rfl,Or.inr ⟨w.heap.size,1,#[x],rfl,hB,heap_alloc_new w _,Nat.le_refl _,by unfold maxLen;omega,rfl,rfl⟩⟩
theorem zJA (w:World) (N:Nat) (a b c d e f:Value):(W6 w N a b c d e f).heap.size=w.heap.size:=by simp[World.setCell]
theorem zGg (w:World) (R:Nat) (tv:Value) (ts:List Rt.Tk) (n:Nat) (kind:Int) (hr:RdS w R tv ts n zL []) (hsm:∀t∈ts,t.text.size≤40000) :
  Calls Tryz.prog 199 #[.pointer (some ⟨R,0,none⟩),.int .i64 kind] w (zCn (Rt.zBf kind) R tv ts n w):=by
 have hlt:R < w.heap.size:=World.block_lt_of_cell? w _ (zC hr.block 0 (by simp))
 have HSM:=zB hsm
 clear hsm
 go_enter Tryz.func199,Tryz.ntmps199
 go_wp2_with fail
 obtain⟨hr0,hfr0⟩:=hr.zH ((Below.refl w.heap.size w).alloc (Nat.le_refl _) (.cells zp 143))
 refine(zCP _ _ _ _ _ hr0 (zA HSM)).mono ?_
 intro e w1 hpost
 obtain⟨ox,hfr1⟩:∃ox,RFr R zL ox (w.alloc (.cells zp 143)) w1:=by rcases hpost with⟨_,_,_,_,_,_,_,_,_,h⟩| ⟨_,_,_,h⟩ <;> exact⟨_,h⟩
 have hN:w1.heap[w.heap.size]?=some (.cells zp 143 (0,0)):=by
  rw[hfr1.block w.heap.size (by simp) (by omega) (by simp[Value.ownBlock])]
  exact heap_alloc_new w _
 have hz:w.heap.size < w1.heap.size:=by have:=hfr1.size;simp at this;omega
 obtain⟨c0,c1,c2,c3,c4,c5,f0,f1,f2,f3,f4,f5⟩:=six hN
 clear hr0 hN
 rcases hpost with⟨em,n1,xv,hs,rfl,hn1,hem,hr1,hown,hfr1'⟩| ⟨hs,rfl,ov1,hfr1'⟩
 ·obtain⟨ad,cap,rfl⟩:=zE hown
  have HS:=zB hs
  have hx:∀g,(Value.slice ad em.length cap).ownBlock=some g→g≠w.heap.size:=fun g hg=>by have:=(hown.lt g hg).1;simp at this;omega
  have HO:=zB (zh (b':=w.heap.size) (zCL hown hx (.int .i64 kind) (.string ⟨#[]⟩) (.int .i64 0) zL zL (.slice (some ⟨w1.heap.size+1,0,none⟩) 1 1)) (by simp))
  have HR:=zB (hr1.zAv hlt (.int .i64 kind) (.string ⟨#[]⟩) (.int .i64 0) zL zL (.slice (some ⟨w1.heap.size+1,0,none⟩) 1 1))
  have HFR:=zB ((hfr0.trans hfr1').zAv (N:=w.heap.size) (Nat.le_refl _) (.int .i64 kind) (.string ⟨#[]⟩) (.int .i64 0) zL zL (.slice (some ⟨w1.heap.size+1,0,none⟩) 1 1))
  clear hs hr hx hown hr1 hfr0 hfr1 hfr1'
  go_wp2_with fail
  have hsz6:=zJA w1 w.heap.size (.int .i64 kind) (.string ⟨#[]⟩) (.int .i64 0) zL zL (.slice (some ⟨w1.heap.size+1,0,none⟩) 1 1)
  generalize hw2:W6 w1 w.heap.size (.int .i64 kind) (.string ⟨#[]⟩) (.int .i64 0) zL zL (.slice (some ⟨w1.heap.size+1,0,none⟩) 1 1)=w2 at HO HR HFR hsz6
  obtain⟨hr3,hfr3⟩:=(zA HR).zH (((Below.refl w2.heap.size w2).alloc (Nat.le_refl _) (.cells #[.slice ad em.length cap] 140)).alloc (by simp) (.cells #[.slice ad em.length cap] 140))
  have hnew:=zFc (w2.alloc (.cells #[.slice ad em.length cap] 140)) w.heap.size 140 (.slice ad em.length cap) (by simp;omega)
  have hsz7:(w2.alloc (.cells #[.slice ad em.length cap] 140)).heap.size=w1.heap.size+1:=by simp[hsz6]
  rw[hsz7]at hnew
  refine bodyPost_ret (v:=.tuple #[.agg #[.int .i64 kind,.string ⟨#[]⟩,.int .i64 0,zL,zL,.slice (some ⟨w1.heap.size+1,0,none⟩) 1 1],.bool true]) ?_ rfl ?_
  ·simp[results,Tryz.results199,go_sem,c0,c1,c2,c3,c4,c5,hz]
  ·rw[←hw2]at hr3 hfr3 hnew HO HFR
   exact Or.inl ⟨⟨kind,⟨#[]⟩,0,[],[],[em]⟩,n1,_,by rw[Rt.zBf,zA HS],rfl,hr3,⟨zL,zL,_,[_],rfl,World.ownsRow_nil _ _ _ _,World.ownsRow_nil _ _ _ _,hnew,⟨((zA HO).alloc _).alloc _,trivial⟩⟩,(zA HFR).trans hfr3⟩
 ·have HS:=zB hs
  have HFR:=zB (hfr0.trans hfr1')
  clear hs hr hfr1' hfr0
  go_wp2_with fail
  refine bodyPost_ret (v:=.tuple #[.agg zp,.bool false]) ?_ rfl ?_
  ·simp[results,Tryz.results199,go_sem,c0,c1,c2,c3,c4,c5,hz]
  ·exact Or.inr ⟨by rw[Rt.zBf,zA HS],rfl,_,((zA HFR).zAv (N:=w.heap.size) (Nat.le_refl _) _ _ _ _ _ _).alloc _⟩
theorem RFr.zAa {R:Nat} {ov:Value} {w1 w2:World} {N:Nat} {o:Obj} (h:RFr R zL ov w1 w2) (hN:w1.heap[N]?=some o) (hne:N≠R):w2.heap[N]?=some o:=by
 have hlt:N < w1.heap.size:=by
  by_cases h:N < w1.heap.size
  ·exact h
  ·rw[Array.getElem?_eq_none (by omega)]at hN;cases hN
 rw[h.block N hlt hne (by simp[Value.ownBlock])]
 exact hN
theorem RFr.zCE {R:Nat} {ov:Value} {w1 w2:World} {B:Nat} {e:TypeId} {size:Nat} {v:Value} {n:Nat} {xs:List Value} (h:RFr R zL ov w1 w2) (hown:w1.ownsRow B e size v n xs) (hB:R < B):w2.ownsRow B e size v n xs:=by
 obtain⟨h1,h2⟩:=hown
 refine⟨h1,?_⟩
 rcases h2 with h2 | ⟨g,cap,cur,hv,hg,hh,r⟩
 ·exact Or.inl h2
 ·exact Or.inr ⟨g,cap,cur,hv,hg,h.zAa hh (by omega),r⟩
theorem zOc (w:World) (R:Nat) (tv:Value) (ts:List Rt.Tk) (n:Nat) (ov:Value) (ops:List Pop) (hr:RdS w R tv ts n ov ops) (hsm:∀t∈ts,t.text.size≤40000) :
  Calls Tryz.prog 214 #[.pointer (some ⟨R,0,none⟩)] w fun e w'=>
   (∃v,Rt.zDD (ts.drop n)=some (v,ts.drop (n+1))∧e=.returned (.tuple #[.int .i64 v,.bool true])∧RdS w' R tv ts (n+1) ov ops∧RFr R ov ov w w')∨
   (Rt.zDD (ts.drop n)=none∧e=.returned (.tuple #[.int .i64 0,.bool false])∧RdS w' R tv ts n ov ops∧RFr R ov ov w w'):=by
 by_cases hn:n < ts.length
 ·by_cases hk:ts[n].kind=2
  ·refine(zJt w R tv ts n ov ops hr hn hk (by have:=hsm _ (List.getElem_mem hn);unfold maxLen;omega)).mono ?_
   rintro e w' ⟨rfl,h3,h4⟩
   exact Or.inl ⟨_,by rw[zAe hn,Rt.zDD,if_pos hk],rfl,h3,h4⟩
  ·refine(zJu w R tv ts n ov ops hr hn hk).mono ?_
   rintro e w' ⟨rfl,h3,h4⟩
   exact Or.inr ⟨by rw[zAe hn,Rt.zDD,if_neg hk],rfl,h3,h4⟩
 ·refine(zIh w R tv ts n ov ops hr hn).mono ?_
  rintro e w' ⟨rfl,h3,h4⟩
  exact Or.inr ⟨by rw[zBw hn,Rt.zDD],rfl,h3,h4⟩
theorem zQ5 (w:World) (R:Nat) (tv:Value) (ts:List Rt.Tk) (n:Nat) (hr:RdS w R tv ts n zL []) (hsm:∀t∈ts,t.text.size≤40000) :
  Calls Tryz.prog 197 #[.pointer (some ⟨R,0,none⟩)] w (zCn Rt.pArray R tv ts n w):=by
 have hlt:R < w.heap.size:=World.block_lt_of_cell? w _ (zC hr.block 0 (by simp))
 have HSM:=zB hsm
 clear hsm
 go_enter Tryz.func197,Tryz.ntmps197
 go_wp2_with fail
 obtain⟨hr0,hfr0⟩:=hr.zH ((Below.refl w.heap.size w).alloc (Nat.le_refl _) (.cells zp 143))
 have hN0:(w.alloc (.cells zp 143)).heap[w.heap.size]?=some (.cells zp 143 (0,0)):=heap_alloc_new w _
 refine(zEi _ _ _ _ _ _ _ hr0).mono ?_
 rintro e w1 (⟨nm,hn,hs,rfl,hr1,hfr1⟩| ⟨hs,rfl,hr1,hfr1⟩)
 ·have hN:=hfr1.zAa hN0 (by omega)
  have HS:=zB hs
  have HFR:=zB (hfr0.trans hfr1)
  clear hr hr0 hfr0 hfr1 hs hN0
  go_wp2_with fail
  refine(zOc _ _ _ _ _ _ _ hr1 (zA HSM)).mono ?_
  rintro e w2 (⟨v,hs2,rfl,hr2,hfr2⟩| ⟨hs2,rfl,hr2,hfr2⟩)
  ·obtain⟨c0,c1,c2,c3,c4,c5,f0,f1,f2,f3,f4,f5⟩:=six (hfr2.zAa hN (by omega))
   have HS2:=zB hs2
   have HR:=zB hr2
   have HFR2:=zB ((zA HFR).trans hfr2)
   clear hr1 hr2 hfr2 hs2 HFR hN
   by_cases hv1:v < 1
   ·go_wp2_with fail
    refine bodyPost_ret (v:=.tuple #[.agg zp,.bool false]) ?_ rfl (Or.inr ⟨by rw[Rt.pArray,zA HS];simp only;rw[zA HS2];simp only;rw[if_pos (Or.inl hv1)],rfl,_,(zA HFR2).zAv (Nat.le_refl _) _ _ _ _ _ _⟩)
    simp[results,Tryz.results197,go_sem,c0,c1,c2,c3,c4,c5]
   ·by_cases hv2:32 < v
    ·go_wp2_with fail
     refine bodyPost_ret (v:=.tuple #[.agg zp,.bool false]) ?_ rfl (Or.inr ⟨by rw[Rt.pArray,zA HS];simp only;rw[zA HS2];simp only;rw[if_pos (Or.inr hv2)],rfl,_,(zA HFR2).zAv (Nat.le_refl _) _ _ _ _ _ _⟩)
     simp[results,Tryz.results197,go_sem,c0,c1,c2,c3,c4,c5]
    ·have HE:Hid (Rt.pArray (ts.drop n)=some (⟨2,nm,v,[],[],[]⟩,ts.drop (n+1+1))):=by
      refine zB ?_
      rw[Rt.pArray,zA HS]
      simp only
      rw[zA HS2]
      simp only
      rw[if_neg (by omega)]
     go_wp2_with fail
     refine bodyPost_ret (v:=.tuple #[.agg #[.int .i64 2,.string nm,.int .i64 v,zL,zL,zL],.bool true]) ?_ rfl
      (Or.inl ⟨_,_,_,zA HE,rfl,(zA HR).zAv hlt _ _ _ _ _ _,zBr _ _ _ _ _,(zA HFR2).zAv (Nat.le_refl _) _ _ _ _ _ _⟩)
     simp[results,Tryz.results197,go_sem,c0,c1,c2,c3,c4,c5]
  ·obtain⟨c0,c1,c2,c3,c4,c5,f0,f1,f2,f3,f4,f5⟩:=six (hfr2.zAa hN (by omega))
   have HS2:=zB hs2
   have HFR2:=zB ((zA HFR).trans hfr2)
   clear hr1 hr2 hfr2 hs2 HFR hN
   go_wp2_with fail
   refine bodyPost_ret (v:=.tuple #[.agg zp,.bool false]) ?_ rfl (Or.inr ⟨by rw[Rt.pArray,zA HS];simp only;rw[zA HS2],rfl,_,(zA HFR2).zAv (Nat.le_refl _) _ _ _ _ _ _⟩)
   simp[results,Tryz.results197,go_sem,c0,c1,c2,c3,c4,c5]
 ·obtain⟨c0,c1,c2,c3,c4,c5,f0,f1,f2,f3,f4,f5⟩:=six (hfr1.zAa hN0 (by omega))
  have HS:=zB hs
  have HFR:=zB (hfr0.trans hfr1)
  clear hr hr0 hfr0 hfr1 hs hN0
  go_wp2_with fail
  refine bodyPost_ret (v:=.tuple #[.agg zp,.bool false]) ?_ rfl (Or.inr ⟨by rw[Rt.pArray,zA HS],rfl,_,(zA HFR).zAv (Nat.le_refl _) _ _ _ _ _ _⟩)
  simp[results,Tryz.results197,go_sem,c0,c1,c2,c3,c4,c5]
end Go.Proofs.YthleadfkfnnadaaGreat
