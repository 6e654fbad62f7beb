/- The walks of the reader of expressions: comparisons, variables, factors, all of them. -/
import Derived.Deep.RegionLaw
import Derived.Test.YthleadfkfnnadaaGreatReadc
import Derived.Deep.LoopGhost
set_option maxHeartbeats 4000000
set_option maxRecDepth 100000
namespace Go.Proofs.YthleadfkfnnadaaGreat
open Go.RowKit
attribute [local go_sem ↓] Go.wp_at_zero Go.wp_at_succ
theorem zMl (s:ByteArray) (w:World) (hs:s.size≤maxLen) :
  Calls Tryz.prog 221 #[.string s] w fun e w'=>e=.returned (.int .i64 (Rt.val s))∧w'=w:=by
 unfold maxLen at hs
 go_enter Tryz.func221,Tryz.ntmps221
 go_wp2
 go_loop [3,4] (fun v i=>∃k:Nat,k≤s.size∧i=.int .i64 k∧v=.int .i64 (Rt.valTo s k)) (fun _ i=>s.size-(intOf i).toNat)
 case atStart=>exact⟨0,Nat.zero_le _,rfl,rfl⟩
 case round=>
  obtain⟨k,hk,rfl,rfl⟩:=hrel
  by_cases hlt:k < s.size
  ·have HB:Hid (Rt.zAO s k=(s[k].toNat:Int)):=Rt.zAo hlt
   go_wp2
   go_round
   case rel=>exact⟨k+1,by omega,by go_num,by rw[Rt.valTo,HB.out]⟩
   case measure=>simp[intOf];omega
  ·have hkk:k=s.size:=by omega
   subst hkk
   go_wp2
   go_ret
   exact⟨rfl,rfl⟩
theorem RdS.push {w w1:World} {R:Nat} {tv:Value} {ts:List Rt.Tk} {n:Nat} {ov ov':Value} {ops:List Pop} {o:Pop} {wa:World} (hr:RdS w R tv ts n ov ops) (hb:Below w.heap.size w wa)
  (hown:w1.ownsRow (R+1) 236 3 ov' (ops.length+1) (zAB ops++[.int .i64 o.code,.int .i64 o.number,.string o.name])) (hgrow:wa.grownBy w1 ov.ownBlock)
  (hat:∀g,ov'.ownBlock=some g→ov.ownBlock=some g∨w.heap.size≤g) (hop:ops.length < n) :
  RdS (w1.setCell ⟨R,2,none⟩ ov') R tv ts n ov' (ops++[o])∧RFr R ov ov' w (w1.setCell ⟨R,2,none⟩ ov'):=by
 have hlt:R < w.heap.size:=World.block_lt_of_cell? w _ (zC hr.block 0 (by simp))
 have hne:∀k,k≤R→some k≠ov.ownBlock:=fun k hk h=>by have:=(hr.own.lt k h.symm).1;omega
 have hkeep:∀k,k < w.heap.size→some k≠ov.ownBlock→w1.heap[k]?=w.heap[k]?:=fun k hk hkv=>(hgrow.block k (Nat.lt_of_lt_of_le hk hb.size) hkv).trans (hb.block k hk)
 have hset:∀k,k≠R→(w1.setCell ⟨R,2,none⟩ ov').heap[k]?=w1.heap[k]?:=fun k hk=>Below.heap_setCell w1 ⟨R,2,none⟩ _ k hk
 have hblk:w1.heap[R]?=some (.cells #[tv,.int .i64 n,ov] 208 (0,0)):=(hkeep R hlt (hne R (Nat.le_refl _))).trans hr.block
 refine⟨⟨hr.le,hr.few,by simp;omega,?_,?_,?_⟩,⟨hgrow.os.trans hb.os,hgrow.tape.trans hb.tape,hgrow.output.trans hb.output,?_,fun k hk hkR hkv=>(hset k hkR).trans (hkeep k hk hkv),hat⟩⟩
 ·show (w1.heap.modify R _)[R]?=_
  rw[Array.getElem?_modify]
  simp[hblk]
 ·obtain⟨b,cap,rfl,hbR,hc⟩:=hr.zf
  have hc':∀j,(w1.setCell ⟨R,2,none⟩ ov').cell? ⟨b,j,none⟩=w.cell? ⟨b,j,none⟩:=fun j=>World.cell?_of_block (w:=w) ((hset b (by omega)).trans (hkeep b (by omega) (hne b (by omega))))
  exact⟨b,cap,rfl,hbR,fun i h=>⟨by rw[hc'];exact(hc i h).1,by rw[hc'];exact(hc i h).2⟩⟩
 ·rw[zJn,List.length_append]
  exact ownsRow_setCell_below hown (by show R < R+1;omega) _
 ·simp[World.setCell]
  exact Nat.le_trans hb.size hgrow.size
theorem Tryz.infoOp:(Tryz.prog.info? 236).map (fun i=>(i.zero,i.size,i.bytes))=some (some (.agg #[.int .i64 0,.int .i64 0,.string ByteArray.empty]),3,32):=by kernel_rfl
theorem emit_far {w w1:World} {R:Nat} {ov a b c:Value} (hlt:R < w.heap.size) (c2:w.cell? ⟨R,2,none⟩=some ov) (f2:w.frozen? ⟨R,2,none⟩=false) (hne:ov.ownBlock≠some R)
  (hl:∀k,ov.ownBlock=some k→R+1≤k∧k < w.heap.size) {o:Obj}
  (hgrow:((w.alloc (.cells #[a,b,c] 236)).alloc o).drew.grownBy w1 ov.ownBlock) :
  (w1.cell? ⟨R,2,none⟩=some ov∧w1.cell? ⟨w.heap.size,0,none⟩=some a∧w1.cell? ⟨w.heap.size,1,none⟩=some b∧w1.cell? ⟨w.heap.size,2,none⟩=some c)∧w1.frozen? ⟨R,2,none⟩=false:=by
 have h1:∀k,k < w.heap.size+1→some k≠ov.ownBlock→w1.heap[k]?=(w.alloc (.cells #[a,b,c] 236)).heap[k]?:=fun k hk hv=>by
  rw[hgrow.block k (by simp;omega) hv]
  exact Below.heap_alloc _ _ _ (by simp;omega)
 have hR:w1.heap[R]?=w.heap[R]?:=(h1 R (by omega) (Ne.symm hne)).trans (Below.heap_alloc _ _ _ hlt)
 have hN:w1.heap[w.heap.size]?=(w.alloc (.cells #[a,b,c] 236)).heap[w.heap.size]?:=h1 _ (by omega) (fun e=>by have:=(hl _ e.symm).2;omega)
 refine⟨⟨(World.cell?_of_block (w:=w) hR).trans c2,?_,?_,?_⟩,(World.frozen?_of_block (w:=w) hR).trans f2⟩
 all_goals (rw[World.cell?_of_block (w:=w.alloc (.cells #[a,b,c] 236)) hN];simp)
theorem zDP (w:World) (R:Nat) (tv:Value) (ts:List Rt.Tk) (n:Nat) (ov:Value) (ops:List Pop) (o:Pop) (hr:RdS w R tv ts n ov ops) (hop:ops.length < n) :
  Calls Tryz.prog 226 #[.pointer (some ⟨R,0,none⟩),.agg #[.int .i64 o.code,.int .i64 o.number,.string o.name]] w fun e w'=>
   e=.returned (.tuple #[])∧∃ov',RdS w' R tv ts n ov' (ops++[o])∧RFr R ov ov' w w':=by
 obtain⟨i0,hi0,hz0,hz1,hz2⟩:=info_parts Tryz.infoOp
 have c2:=zC hr.block 2 (by simp)
 have f2:=zI hr.block 2
 simp at c2
 have hlt:R < w.heap.size:=World.block_lt_of_cell? w _ c2
 have hown:=hr.own
 have hfew:=hr.few
 have hle:=hr.le
 have hne:ov.ownBlock≠some R:=fun h=>by have:=(hown.lt R h).1;omega
 go_enter Tryz.func226,Tryz.ntmps226
 go_wp2_with fail
 go_region_law
  ((refine step_append_lies _ (by rfl) _ _ _ (by rfl) (R+1) 236 i0 _ 3 32 Tryz.underlying138 hi0 hz0 hz1 hz2 rfl (by omega) ov ops.length (zAB ops) (by rfl) (((hown.alloc _).alloc _).drew) ⟨w.heap.size+1,0,none⟩ 1 1 [.int .i64 o.code,.int .i64 o.number,.string o.name] (by rfl) (by rfl) (World.news_of_block (cs:=#[.int .i64 o.code,.int .i64 o.number,.string o.name]) (t:=236) (fr:=(0,0)) (zKk w _ _)) (by simp[Value.oneCell']) (by omega) (by unfold maxLen;omega) (by omega) (by simp;omega) (w.heap.size+2) (by simp) ?_;intro gg cap w1 hown1 hgrow hat hlt1;obtain⟨⟨hfar,_⟩,hfz⟩:=emit_far hlt c2 f2 hne hown.lt hgrow))
 all_goals
  go_end0
  exact⟨rfl,_,hr.push ((((Below.refl _ _).alloc (Nat.le_refl _) _).alloc (by simp) _).drew) hown1 hgrow (fun g hg=>by simp[Value.ownBlock]at hg;subst hg;rcases hat with h | h;exact Or.inl h;exact Or.inr (by omega)) hop⟩
theorem zOb (w:World) (R:Nat) (tv:Value) (ts:List Rt.Tk) (n:Nat) (ov:Value) (ops:List Pop) (hr:RdS w R tv ts n ov ops) (hn:¬n < ts.length) :
  Calls Tryz.prog 214 #[.pointer (some ⟨R,0,none⟩)] w fun e w'=>e=.returned (.tuple #[.int .i64 0,.bool false])∧∃q,w'=w.drewN q:=by
 obtain⟨b,cap,rfl,hb,hc⟩:=hr.zf
 have c0:=zC hr.block 0 (by simp)
 have c1:=zC hr.block 1 (by simp)
 simp at c0 c1
 clear hc
 have hd:decide ((ts.length:Int)≤(n:Int))=true:=by simp;omega
 go_enter Tryz.func214,Tryz.ntmps214
 go_wp2_with fail
 go_quiet (fail)
 go_wp2_with fail
 go_ret2
 exact⟨by simp,_,rfl⟩
theorem zQP (w:World) (R:Nat) (tv:Value) (ts:List Rt.Tk) (n:Nat) (ov:Value) (ops:List Pop) (hr:RdS w R tv ts n ov ops) (hn:n < ts.length) (hk:¬ts[n].kind=2) :
  Calls Tryz.prog 214 #[.pointer (some ⟨R,0,none⟩)] w fun e w'=>e=.returned (.tuple #[.int .i64 0,.bool false])∧∃q,w'=w.drewN q:=by
 obtain⟨b,cap,rfl,hb,hc⟩:=hr.zf
 have c0:=zC hr.block 0 (by simp)
 have c1:=zC hr.block 1 (by simp)
 simp at c0 c1
 have ck:=(hc n hn).1
 clear hc
 generalize ts[n].kind=kx at *
 have hk':(kx != 2)=true:=by simpa using hk
 clear hk
 have hd:decide ((ts.length:Int)≤(n:Int))=false:=by simp;omega
 have hn':(n:Int) < (ts.length:Int):=by omega
 go_enter Tryz.func214,Tryz.ntmps214
 go_wp2_with fail
 go_quiet (fail)
 go_wp2_with fail
 go_ret2
 exact⟨by simp,_,rfl⟩
theorem zJt (w:World) (R:Nat) (tv:Value) (ts:List Rt.Tk) (n:Nat) (ov:Value) (ops:List Pop) (hr:RdS w R tv ts n ov ops) (hn:n < ts.length) (hk:ts[n].kind=2) (hs:ts[n].text.size≤maxLen) :
  Calls Tryz.prog 214 #[.pointer (some ⟨R,0,none⟩)] w fun e w'=>e=.returned (.tuple #[.int .i64 (Rt.val ts[n].text),.bool true])∧RdS w' R tv ts (n+1) ov ops∧RFr R ov ov w w':=by
 have HB:Hid (∀q:Nat,RdS ((w.drewN q).setCell ⟨R,1,none⟩ (.int .i64 ((n:Int)+1))) R tv ts (n+1) ov ops∧RFr R ov ov w ((w.drewN q).setCell ⟨R,1,none⟩ (.int .i64 ((n:Int)+1)))):=hr.bump hn
 obtain⟨b,cap,rfl,hb,hc⟩:=hr.zf
 have c0:=zC hr.block 0 (by simp)
 have c1:=zC hr.block 1 (by simp)
 have f1:=zI hr.block 1
 simp at c0 c1
 obtain⟨ck,ct⟩:=hc n hn
 clear hc
 rw[hk]at ck
 clear hk
 have hfew:=hr.few
 generalize ts[n].text=tx at *
 have hd:decide ((ts.length:Int)≤(n:Int))=false:=by simp;omega
 have hn':(n:Int) < (ts.length:Int):=by omega
 go_enter Tryz.func214,Tryz.ntmps214
 go_wp2_with fail
 go_quiet (fail)
 go_wp2_with fail
 obtain⟨w1,hw1,c0',c1',ct'⟩:=zKI nq c0 c1 ct
 rw[←hw1]
 have f1':w1.frozen? ⟨R,1,none⟩=false:=by rw[hw1];exact f1
 have HW:Hid (w1=w.drewN nq):=hw1
 clear hw1
 go_quiet ((go_at_call 221;exact Calls.quiet_of_same (zMl _ _ hs)))
 go_wp2
 go_ret2
 refine⟨by simp,?_⟩
 rw[zHh HW.out]
 exact HB.out _
end Go.Proofs.YthleadfkfnnadaaGreat
namespace Go.Proofs.YthleadfkfnnadaaGreat
open Go.RowKit
def Reads (f:Nat) (fn:FuncId) (spec:List Rt.Tk→Rt.Got):Prop:=
 ∀(w:World) (R:Nat) (tv:Value) (ts:List Rt.Tk) (n:Nat) (ov:Value) (ops:List Pop),RdS w R tv ts n ov ops→(∀t∈ts,t.text.size≤40000)→ts.length-n≤f→
  Calls Tryz.prog fn #[.pointer (some ⟨R,0,none⟩)] w fun e w'=>
   (∃em n' ov',spec (ts.drop n)=some (em,ts.drop n')∧e=.returned (.bool true)∧em.length+n≤n'∧n < n'∧RdS w' R tv ts n' ov' (ops++em)∧RFr R ov ov' w w')∨
   (spec (ts.drop n)=none∧e=.returned (.bool false)∧∃ov',RFr R ov ov' w w')
theorem zAe {ts:List Rt.Tk} {n:Nat} (h:n < ts.length):ts.drop n=ts[n]::ts.drop (n+1):=List.drop_eq_getElem_cons h
theorem zBw {ts:List Rt.Tk} {n:Nat} (h:¬n < ts.length):ts.drop n=[]:=List.drop_eq_nil_of_le (by omega)
theorem RdS.quiet {w:World} {R:Nat} {tv:Value} {ts:List Rt.Tk} {n:Nat} {ov:Value} {ops:List Pop} (hr:RdS w R tv ts n ov ops) (q:Nat):RdS (w.drewN q) R tv ts n ov ops∧RFr R ov ov w (w.drewN q):=
 hr.zH (below_drewN w q)
theorem zNN {pf:List Rt.Tk→Rt.Got} {lo hi:Int} {g n1:Nat} {ts:List Rt.Tk} {em:List Pop} {tot:Rt.Got} (h:Rt.zCu em (Rt.pLoop pf lo hi (g+1) (ts.drop n1))=tot) (hn:¬n1 < ts.length):tot=some (em,ts.drop n1):=by
 rw[←h,zBw hn];simp[Rt.pLoop,Rt.zCu]
theorem zLV {pf:List Rt.Tk→Rt.Got} {lo hi:Int} {g n1:Nat} {ts:List Rt.Tk} {em:List Pop} {tot:Rt.Got} (h:Rt.zCu em (Rt.pLoop pf lo hi (g+1) (ts.drop n1))=tot) (hn:n1 < ts.length)
  (hx:Rt.zU ts[n1].text < lo∨hi < Rt.zU ts[n1].text):tot=some (em,ts.drop n1):=by
 rw[←h,zAe hn,Rt.pLoop,if_neg (by omega)];simp[Rt.zCu]
theorem zLW {pf:List Rt.Tk→Rt.Got} {lo hi:Int} {g n1:Nat} {ts:List Rt.Tk} {em:List Pop} {tot:Rt.Got} (h:Rt.zCu em (Rt.pLoop pf lo hi (g+1) (ts.drop n1))=tot) (hn:n1 < ts.length)
  (h1:lo≤Rt.zU ts[n1].text) (h2:Rt.zU ts[n1].text≤hi) (hp:pf (ts.drop (n1+1))=none):tot=none:=by
 rw[←h,zAe hn,Rt.pLoop,if_pos ⟨h1,h2⟩,hp];simp[Rt.zCu]
theorem zLX {pf:List Rt.Tk→Rt.Got} {lo hi:Int} {g n1 n2:Nat} {ts:List Rt.Tk} {em em2:List Pop} {tot:Rt.Got} (h:Rt.zCu em (Rt.pLoop pf lo hi (g+1) (ts.drop n1))=tot) (hn:n1 < ts.length)
  (h1:lo≤Rt.zU ts[n1].text) (h2:Rt.zU ts[n1].text≤hi) (hp:pf (ts.drop (n1+1))=some (em2,ts.drop n2)) :
  Rt.zCu (em++em2++[⟨Rt.zU ts[n1].text,0,⟨#[]⟩⟩]) (Rt.pLoop pf lo hi g (ts.drop n2))=tot:=by
 rw[←h,zAe hn,Rt.pLoop,if_pos ⟨h1,h2⟩,hp]
 cases hq:Rt.pLoop pf lo hi g (ts.drop n2)with
 | none=>simp[Rt.zCu,hq]
 | some x=>simp[Rt.zCu,hq]
theorem zMn (f:Nat) (hf:Reads f 229 (Rt.ze f)):Reads f 227 (Rt.zGT (Rt.ze f)):=by
 intro w R tv ts n ov ops hr hsm hle
 have HSM:=zB hsm
 clear hsm
 have hfew:=hr.few
 go_enter Tryz.func227,Tryz.ntmps227
 go_wp2_with fail
 refine(hf _ _ _ _ _ _ _ hr (zA HSM) hle).mono ?_
 rintro e w1 (⟨em,n1,ov1,hs,rfl,hlen,hlt,hr1,hfr1⟩| ⟨hs,rfl,ov1,hfr1⟩)
 ·have hT:Rt.zCu em (Rt.pLoop (Rt.ze f) 7 9 25 (ts.drop n1))=Rt.zGT (Rt.ze f) (ts.drop n):=by
   unfold Rt.zGT Rt.zDT
   rw[hs]
  have hle1:=hr1.le
  go_wp2_with fail
  go_loopg [3] (ts.length-n1) (fun k _ wr=>∃(n2:Nat) (ov2:Value) (em2:List Pop) (g:Nat),k=ts.length-n2∧k < g∧n < n2∧em2.length+n≤n2∧
   Rt.zCu em2 (Rt.pLoop (Rt.ze f) 7 9 g (ts.drop n2))=Rt.zGT (Rt.ze f) (ts.drop n)∧RdS wr R tv ts n2 ov2 (ops++em2)∧RFr R ov ov2 w wr)
  case atStart=>exact⟨n1,ov1,em,25,rfl,by omega,hlt,hlen,hT,hr1,hfr1⟩
  case round=>
   clear hT hr1 hfr1 hs hlen hlt hle1
   obtain⟨n2,ov2,em2,g,hk,hg,hlt,hlen,hT,hr2,hfr2⟩:=hrel
   have HT:=zB hT
   have HK:=zB hk
   clear hT hk
   obtain⟨g,rfl⟩:∃g',g=g'+1:=⟨g-1,by omega⟩
   have hle2:=hr2.le
   have hops:=hr.zCj
   by_cases hn:n2 < ts.length
   ·have hd:decide (n2 < ts.length)=true:=by simpa using hn
    by_cases hx:Rt.zU ts[n2].text < 7∨9 < Rt.zU ts[n2].text
    ·have HE:=zB (zLV (zA HT) hn hx)
     go_wp2_with fail
     refine(zD2 _ _ _ _ _ _ _ hr2).mono ?_
     rintro e w2 ⟨rfl,q,rfl⟩
     rw[hd]
     obtain⟨hr3,hfr3⟩:=hr2.quiet q
     go_wp2_with fail
     refine(zFf _ _ _ _ _ _ _ _ _ hr3 hn hx).mono ?_
     rintro e w3 ⟨rfl,q2,rfl⟩
     obtain⟨hr4,hfr4⟩:=hr3.quiet q2
     have HR:=zB hr4
     have HFR:=zB (hfr2.trans (hfr3.trans hfr4))
     clear hr4 hfr4 hr3 hfr3 hr2 hfr2
     go_wp2_with fail
     go_ret
     exact Or.inl ⟨em2,n2,ov2,zA HE,rfl,hlen,hlt,(zA HR).same rfl,(zA HFR).same rfl rfl rfl rfl⟩
    ·have h1:7≤Rt.zU ts[n2].text:=by omega
     have h2:Rt.zU ts[n2].text≤9:=by omega
     go_wp2_with fail
     refine(zD2 _ _ _ _ _ _ _ hr2).mono ?_
     rintro e w2 ⟨rfl,q,rfl⟩
     rw[hd]
     obtain⟨hr3,hfr3⟩:=hr2.quiet q
     go_wp2_with fail
     refine(zEz _ _ _ _ _ _ _ _ _ hr3 hn h1 h2).mono ?_
     rintro e w3 ⟨rfl,hr4,hfr4⟩
     have hz:(Rt.zU ts[n2].text==0)=false:=by rw[beq_eq_false_iff_ne];omega
     generalize hcode:Rt.zU ts[n2].text=code at *
     have HC:=zB hcode
     clear hcode hx
     go_wp2_with fail
     refine(hf _ _ _ _ _ _ _ hr4 (zA HSM) (by omega)).mono ?_
     rintro e w4 (⟨em5,n5,ov5,hs5,rfl,hlen5,hlt5,hr5,hfr5⟩| ⟨hs5,rfl,ov5,hfr5⟩)
     ·have HN:=zB (zLX (zA HT) hn (by rw[zA HC];exact h1) (by rw[zA HC];exact h2) hs5)
      clear hs5
      go_wp2_with fail
      refine(zDP _ _ _ _ _ _ _ ⟨code,0,⟨#[]⟩⟩ hr5 (by have:=hr5.zCj;simp at this ⊢;omega)).mono ?_
      rintro e w5 ⟨rfl,ov6,hr6,hfr6⟩
      have HR:=zB hr6
      have HFR:=zB (hfr2.trans (hfr3.trans (hfr4.trans (hfr5.trans hfr6))))
      have hle5:=hr5.le
      clear hr2 hr3 hr4 hr5 hr6 hfr2 hfr3 hfr4 hfr5 hfr6
      go_wp2_with fail
      go_roundg (ts.length-n5)
      case measure=>have:=zA HK;omega
      case rel=>exact⟨n5,ov6,em2++em5++[⟨code,0,⟨#[]⟩⟩],g,rfl,by have:=zA HK;omega,by omega,by simp;omega,by have:=zA HN;rw[zA HC]at this;exact this,by have:=zA HR;simpa using this,zA HFR⟩
     ·have HN:=zB (zLW (zA HT) hn (by rw[zA HC];exact h1) (by rw[zA HC];exact h2) hs5)
      clear hs5
      have HFR:=zB (hfr2.trans (hfr3.trans (hfr4.trans hfr5)))
      clear hr2 hr3 hr4 hfr2 hfr3 hfr4 hfr5
      go_wp2_with fail
      go_ret
      exact Or.inr ⟨zA HN,rfl,_,zA HFR⟩
   ·have HE:=zB (zNN (zA HT) hn)
    have hd:decide (n2 < ts.length)=false:=by simpa using hn
    go_wp2_with fail
    refine(zD2 _ _ _ _ _ _ _ hr2).mono ?_
    rintro e w2 ⟨rfl,q,rfl⟩
    rw[hd]
    obtain⟨hr3,hfr3⟩:=hr2.quiet q
    have HR:=zB hr3
    have HFR:=zB (hfr2.trans hfr3)
    clear hr3 hfr3 hr2 hfr2
    go_wp2_with fail
    go_ret
    exact Or.inl ⟨em2,n2,ov2,zA HE,rfl,hlen,hlt,(zA HR).same rfl,(zA HFR).same rfl rfl rfl rfl⟩
 ·have HS:=zB hs
  clear hs
  go_wp2_with fail
  go_ret
  exact Or.inr ⟨by simp[Rt.zGT,Rt.zDT,zA HS],rfl,_,hfr1⟩
theorem zPR (f:Nat) (hf:Reads f 227 (Rt.zGT (Rt.ze f))):Reads f 224 (Rt.zGP (Rt.ze f)):=by
 intro w R tv ts n ov ops hr hsm hle
 have HSM:=zB hsm
 clear hsm
 have hfew:=hr.few
 go_enter Tryz.func224,Tryz.ntmps224
 go_wp2_with fail
 refine(hf _ _ _ _ _ _ _ hr (zA HSM) hle).mono ?_
 rintro e w1 (⟨em,n1,ov1,hs,rfl,hlen,hlt,hr1,hfr1⟩| ⟨hs,rfl,ov1,hfr1⟩)
 ·have hT:Rt.zCu em (Rt.pLoop (Rt.zGT (Rt.ze f)) 5 6 25 (ts.drop n1))=Rt.zGP (Rt.ze f) (ts.drop n):=by
   unfold Rt.zGP Rt.zDT
   rw[hs]
  have hle1:=hr1.le
  go_wp2_with fail
  go_loopg [3] (ts.length-n1) (fun k _ wr=>∃(n2:Nat) (ov2:Value) (em2:List Pop) (g:Nat),k=ts.length-n2∧k < g∧n < n2∧em2.length+n≤n2∧
   Rt.zCu em2 (Rt.pLoop (Rt.zGT (Rt.ze f)) 5 6 g (ts.drop n2))=Rt.zGP (Rt.ze f) (ts.drop n)∧RdS wr R tv ts n2 ov2 (ops++em2)∧RFr R ov ov2 w wr)
  case atStart=>exact⟨n1,ov1,em,25,rfl,by omega,hlt,hlen,hT,hr1,hfr1⟩
  case round=>
   clear hT hr1 hfr1 hs hlen hlt hle1
   obtain⟨n2,ov2,em2,g,hk,hg,hlt,hlen,hT,hr2,hfr2⟩:=hrel
   have HT:=zB hT
   have HK:=zB hk
   clear hT hk
   obtain⟨g,rfl⟩:∃g',g=g'+1:=⟨g-1,by omega⟩
   have hle2:=hr2.le
   have hops:=hr.zCj
   by_cases hn:n2 < ts.length
   ·have hd:decide (n2 < ts.length)=true:=by simpa using hn
    by_cases hx:Rt.zU ts[n2].text < 5∨6 < Rt.zU ts[n2].text
    ·have HE:=zB (zLV (zA HT) hn hx)
     go_wp2_with fail
     refine(zD2 _ _ _ _ _ _ _ hr2).mono ?_
     rintro e w2 ⟨rfl,q,rfl⟩
     rw[hd]
     obtain⟨hr3,hfr3⟩:=hr2.quiet q
     go_wp2_with fail
     refine(zFf _ _ _ _ _ _ _ _ _ hr3 hn hx).mono ?_
     rintro e w3 ⟨rfl,q2,rfl⟩
     obtain⟨hr4,hfr4⟩:=hr3.quiet q2
     have HR:=zB hr4
     have HFR:=zB (hfr2.trans (hfr3.trans hfr4))
     clear hr4 hfr4 hr3 hfr3 hr2 hfr2
     go_wp2_with fail
     go_ret
     exact Or.inl ⟨em2,n2,ov2,zA HE,rfl,hlen,hlt,(zA HR).same rfl,(zA HFR).same rfl rfl rfl rfl⟩
    ·have h1:5≤Rt.zU ts[n2].text:=by omega
     have h2:Rt.zU ts[n2].text≤6:=by omega
     go_wp2_with fail
     refine(zD2 _ _ _ _ _ _ _ hr2).mono ?_
     rintro e w2 ⟨rfl,q,rfl⟩
     rw[hd]
     obtain⟨hr3,hfr3⟩:=hr2.quiet q
     go_wp2_with fail
     refine(zEz _ _ _ _ _ _ _ _ _ hr3 hn h1 h2).mono ?_
     rintro e w3 ⟨rfl,hr4,hfr4⟩
     have hz:(Rt.zU ts[n2].text==0)=false:=by rw[beq_eq_false_iff_ne];omega
     generalize hcode:Rt.zU ts[n2].text=code at *
     have HC:=zB hcode
     clear hcode hx
     go_wp2_with fail
     refine(hf _ _ _ _ _ _ _ hr4 (zA HSM) (by omega)).mono ?_
     rintro e w4 (⟨em5,n5,ov5,hs5,rfl,hlen5,hlt5,hr5,hfr5⟩| ⟨hs5,rfl,ov5,hfr5⟩)
     ·have HN:=zB (zLX (zA HT) hn (by rw[zA HC];exact h1) (by rw[zA HC];exact h2) hs5)
      clear hs5
      go_wp2_with fail
      refine(zDP _ _ _ _ _ _ _ ⟨code,0,⟨#[]⟩⟩ hr5 (by have:=hr5.zCj;simp at this ⊢;omega)).mono ?_
      rintro e w5 ⟨rfl,ov6,hr6,hfr6⟩
      have HR:=zB hr6
      have HFR:=zB (hfr2.trans (hfr3.trans (hfr4.trans (hfr5.trans hfr6))))
      have hle5:=hr5.le
      clear hr2 hr3 hr4 hr5 hr6 hfr2 hfr3 hfr4 hfr5 hfr6
      go_wp2_with fail
      go_roundg (ts.length-n5)
      case measure=>have:=zA HK;omega
      case rel=>exact⟨n5,ov6,em2++em5++[⟨code,0,⟨#[]⟩⟩],g,rfl,by have:=zA HK;omega,by omega,by simp;omega,by have:=zA HN;rw[zA HC]at this;exact this,by have:=zA HR;simpa using this,zA HFR⟩
     ·have HN:=zB (zLW (zA HT) hn (by rw[zA HC];exact h1) (by rw[zA HC];exact h2) hs5)
      clear hs5
      have HFR:=zB (hfr2.trans (hfr3.trans (hfr4.trans hfr5)))
      clear hr2 hr3 hr4 hfr2 hfr3 hfr4 hfr5
      go_wp2_with fail
      go_ret
      exact Or.inr ⟨zA HN,rfl,_,zA HFR⟩
   ·have HE:=zB (zNN (zA HT) hn)
    have hd:decide (n2 < ts.length)=false:=by simpa using hn
    go_wp2_with fail
    refine(zD2 _ _ _ _ _ _ _ hr2).mono ?_
    rintro e w2 ⟨rfl,q,rfl⟩
    rw[hd]
    obtain⟨hr3,hfr3⟩:=hr2.quiet q
    have HR:=zB hr3
    have HFR:=zB (hfr2.trans hfr3)
    clear hr3 hfr3 hr2 hfr2
    go_wp2_with fail
    go_ret
    exact Or.inl ⟨em2,n2,ov2,zA HE,rfl,hlen,hlt,(zA HR).same rfl,(zA HFR).same rfl rfl rfl rfl⟩
 ·have HS:=zB hs
  clear hs
  go_wp2_with fail
  go_ret
  exact Or.inr ⟨by simp[Rt.zGP,Rt.zDT,zA HS],rfl,_,hfr1⟩
theorem comparison_any (f:Nat) (hf:Reads f 224 (Rt.zGP (Rt.ze f))):Reads f 222 (Rt.pComp (Rt.ze f)):=by
 intro w R tv ts n ov ops hr hsm hle
 have HSM:=zB hsm
 clear hsm
 have hfew:=hr.few
 have hops:=hr.zCj
 go_enter Tryz.func222,Tryz.ntmps222
 go_wp2_with fail
 refine(hf _ _ _ _ _ _ _ hr (zA HSM) hle).mono ?_
 rintro e w1 (⟨em,n1,ov1,hs,rfl,hlen,hlt,hr1,hfr1⟩| ⟨hs,rfl,ov1,hfr1⟩)
 ·by_cases hn:n1 < ts.length
  ·by_cases hx:Rt.zU ts[n1].text < 10∨11 < Rt.zU ts[n1].text
   ·have HE:Hid (Rt.pComp (Rt.ze f) (ts.drop n)=some (em,ts.drop n1)):=by
     refine zB ?_
     unfold Rt.pComp
     rw[hs,zAe hn]
     simp only
     rw[if_neg (by omega)]
    clear hs
    go_wp2_with fail
    refine(zFf _ _ _ _ _ _ _ _ _ hr1 hn hx).mono ?_
    rintro e w3 ⟨rfl,q2,rfl⟩
    obtain⟨hr4,hfr4⟩:=hr1.quiet q2
    have HR:=zB hr4
    have HFR:=zB (hfr1.trans hfr4)
    clear hr4 hfr4 hr1 hfr1
    go_wp2_with fail
    go_ret
    exact Or.inl ⟨em,n1,ov1,zA HE,rfl,hlen,hlt,zA HR,zA HFR⟩
   ·have h1:10≤Rt.zU ts[n1].text:=by omega
    have h2:Rt.zU ts[n1].text≤11:=by omega
    have HE:Hid (∀x,Rt.zGP (Rt.ze f) (ts.drop (n1+1))=x→Rt.pComp (Rt.ze f) (ts.drop n)=(match x with | none=>none | some (e',r')=>some (em++e'++[⟨Rt.zU ts[n1].text,0,⟨#[]⟩⟩],r'))):=by
     refine zB ?_
     intro x hx'
     unfold Rt.pComp
     rw[hs,zAe hn]
     simp only
     rw[if_pos ⟨h1,h2⟩,hx']
     cases x <;> rfl
    clear hs hx
    go_wp2_with fail
    refine(zEz _ _ _ _ _ _ _ _ _ hr1 hn h1 h2).mono ?_
    rintro e w3 ⟨rfl,hr4,hfr4⟩
    have hz:(Rt.zU ts[n1].text==0)=false:=by rw[beq_eq_false_iff_ne];omega
    generalize hcode:Rt.zU ts[n1].text=code at *
    clear hcode
    go_wp2_with fail
    refine(hf _ _ _ _ _ _ _ hr4 (zA HSM) (by omega)).mono ?_
    rintro e w4 (⟨em5,n5,ov5,hs5,rfl,hlen5,hlt5,hr5,hfr5⟩| ⟨hs5,rfl,ov5,hfr5⟩)
    ·have HN:=zB ((zA HE) _ hs5)
     clear hs5
     go_wp2_with fail
     refine(zDP _ _ _ _ _ _ _ ⟨code,0,⟨#[]⟩⟩ hr5 (by have:=hr5.zCj;simp at this ⊢;omega)).mono ?_
     rintro e w5 ⟨rfl,ov6,hr6,hfr6⟩
     have HR:=zB hr6
     have HFR:=zB (hfr1.trans (hfr4.trans (hfr5.trans hfr6)))
     clear hr1 hr4 hr5 hr6 hfr1 hfr4 hfr5 hfr6
     go_wp2_with fail
     go_ret
     exact Or.inl ⟨em++em5++[⟨code,0,⟨#[]⟩⟩],n5,ov6,zA HN,rfl,by simp;omega,by omega,by have:=zA HR;simpa using this,zA HFR⟩
    ·have HN:=zB ((zA HE) _ hs5)
     clear hs5
     have HFR:=zB (hfr1.trans (hfr4.trans hfr5))
     clear hr1 hr4 hfr1 hfr4 hfr5
     go_wp2_with fail
     go_ret
     exact Or.inr ⟨zA HN,rfl,_,zA HFR⟩
  ·have HE:Hid (Rt.pComp (Rt.ze f) (ts.drop n)=some (em,ts.drop n1)):=by
    refine zB ?_
    unfold Rt.pComp
    rw[hs,zBw hn]
   clear hs
   go_wp2_with fail
   refine(zMH _ _ _ _ _ _ _ _ _ hr1 hn).mono ?_
   rintro e w3 ⟨rfl,q2,rfl⟩
   obtain⟨hr4,hfr4⟩:=hr1.quiet q2
   have HR:=zB hr4
   have HFR:=zB (hfr1.trans hfr4)
   clear hr4 hfr4 hr1 hfr1
   go_wp2_with fail
   go_ret
   exact Or.inl ⟨em,n1,ov1,zA HE,rfl,hlen,hlt,zA HR,zA HFR⟩
 ·have HE:Hid (Rt.pComp (Rt.ze f) (ts.drop n)=none):=by
   refine zB ?_
   unfold Rt.pComp
   rw[hs]
  clear hs
  go_wp2_with fail
  go_ret
  exact Or.inr ⟨zA HE,rfl,_,hfr1⟩
theorem zL0 (w:World) (R:Nat) (tv:Value) (ts:List Rt.Tk) (n:Nat) (ov:Value) (ops:List Pop) (hr:RdS w R tv ts n ov ops) (hn:¬n < ts.length) :
  Calls Tryz.prog 230 #[.pointer (some ⟨R,0,none⟩)] w fun e w'=>e=.returned (.bool false)∧∃q,w'=w.drewN q:=by
 go_enter Tryz.func230,Tryz.ntmps230
 go_wp2_with fail
 refine(zNI _ _ _ _ _ _ _ hr hn).mono ?_
 rintro e w3 ⟨rfl,q2,rfl⟩
 go_wp2_with fail
 go_ret
 exact⟨by simp,_,rfl⟩
def zEK (f:Nat) (t:Rt.Tk) (r:List Rt.Tk):Rt.Got:=if t.kind=1∧Rt.zHE t.text=false then Rt.pVar (Rt.pComp (Rt.ze f)) t.text r else none
theorem zL1 (f:Nat) (hf:Reads f 222 (Rt.pComp (Rt.ze f))) (w:World) (R:Nat) (tv:Value) (ts:List Rt.Tk) (n:Nat) (ov:Value) (ops:List Pop)
  (hr:RdS w R tv ts n ov ops) (hsm:∀t∈ts,t.text.size≤40000) (hn:n < ts.length) (hle:ts.length-(n+1)≤f) :
  Calls Tryz.prog 230 #[.pointer (some ⟨R,0,none⟩)] w fun e w'=>
   (∃em n' ov',zEK f ts[n] (ts.drop (n+1))=some (em,ts.drop n')∧e=.returned (.bool true)∧em.length+n≤n'∧n < n'∧RdS w' R tv ts n' ov' (ops++em)∧RFr R ov ov' w w')∨
   (zEK f ts[n] (ts.drop (n+1))=none∧e=.returned (.bool false)∧∃ov',RFr R ov ov' w w'):=by
 have HSM:=zB hsm
 clear hsm
 have hfew:=hr.few
 have hops:=hr.zCj
 go_enter Tryz.func230,Tryz.ntmps230
 go_wp2_with fail
 refine(zCV _ _ _ _ _ _ _ hr hn).mono ?_
 rintro e w1 (⟨hk,hv,rfl,hr1,hfr1⟩| ⟨hk,rfl,hr1,hfr1⟩)
 ·have HV:Hid (zEK f ts[n] (ts.drop (n+1))=Rt.pVar (Rt.pComp (Rt.ze f)) ts[n].text (ts.drop (n+1))):=by
   refine zB ?_
   unfold zEK
   rw[if_pos ⟨hk,hv⟩]
  clear hk hv
  generalize ts[n].text=nm at *
  by_cases hn1:n+1 < ts.length
  ·by_cases hx:ts[n+1].text=⟨#[91]⟩
   ·have HE:Hid (zEK f ts[n] (ts.drop (n+1))=Rt.closed ⟨#[93]⟩ [⟨3,0,nm⟩] (Rt.pComp (Rt.ze f) (ts.drop (n+1+1)))):=by
     refine zB ?_
     rw[zA HV,zAe hn1,Rt.pVar,if_pos hx]
    clear HV
    go_wp2_with fail
    refine(zEf _ _ _ _ _ _ _ _ hr1 hn1 hx).mono ?_
    rintro e w2 ⟨rfl,hr2,hfr2⟩
    clear hx
    go_wp2_with fail
    refine(hf _ _ _ _ _ _ _ hr2 (zA HSM) (by omega)).mono ?_
    rintro e w4 (⟨em5,n5,ov5,hs5,rfl,hlen5,hlt5,hr5,hfr5⟩| ⟨hs5,rfl,ov5,hfr5⟩)
    ·have hle5:=hr5.le
     rw[hs5]at HE
     clear hs5
     go_wp2_with fail
     refine(zDP _ _ _ _ _ _ _ ⟨3,0,nm⟩ hr5 (by have:=hr5.zCj;simp at this ⊢;omega)).mono ?_
     rintro e w5 ⟨rfl,ov6,hr6,hfr6⟩
     by_cases hn5:n5 < ts.length
     ·by_cases hx5:ts[n5].text=⟨#[93]⟩
      ·have HG:Hid (zEK f ts[n] (ts.drop (n+1))=some (em5++[⟨3,0,nm⟩],ts.drop (n5+1))):=by
        refine zB ?_
        rw[zA HE,zAe hn5,Rt.closed,if_pos hx5]
       clear HE
       go_wp2_with fail
       refine(zEf _ _ _ _ _ _ _ _ hr6 hn5 hx5).mono ?_
       rintro e w6 ⟨rfl,hr7,hfr7⟩
       have HR:=zB hr7
       have HFR:=zB (hfr1.trans (hfr2.trans (hfr5.trans (hfr6.trans hfr7))))
       clear hr1 hr2 hr5 hr6 hr7 hfr1 hfr2 hfr5 hfr6 hfr7 hx5
       go_wp2_with fail
       go_ret
       exact Or.inl ⟨em5++[⟨3,0,nm⟩],n5+1,ov6,zA HG,rfl,by simp;omega,by omega,by have:=zA HR;simpa using this,zA HFR⟩
      ·have HG:Hid (zEK f ts[n] (ts.drop (n+1))=none):=by
        refine zB ?_
        rw[zA HE,zAe hn5,Rt.closed,if_neg hx5]
       clear HE
       go_wp2_with fail
       refine(zL2 _ _ _ _ _ _ _ _ hr6 hn5 hx5).mono ?_
       rintro e w6 ⟨rfl,q,rfl⟩
       have HFR:=zB (hfr1.trans (hfr2.trans (hfr5.trans (hfr6.trans (hr6.quiet q).2))))
       clear hr1 hr2 hr5 hr6 hfr1 hfr2 hfr5 hfr6 hx5
       go_wp2_with fail
       go_ret
       exact Or.inr ⟨zA HG,rfl,_,zA HFR⟩
     ·have HG:Hid (zEK f ts[n] (ts.drop (n+1))=none):=by
       refine zB ?_
       rw[zA HE,zBw hn5,Rt.closed]
      clear HE
      go_wp2_with fail
      refine(zJZ _ _ _ _ _ _ _ _ hr6 hn5).mono ?_
      rintro e w6 ⟨rfl,q,rfl⟩
      have HFR:=zB (hfr1.trans (hfr2.trans (hfr5.trans (hfr6.trans (hr6.quiet q).2))))
      clear hr1 hr2 hr5 hr6 hfr1 hfr2 hfr5 hfr6
      go_wp2_with fail
      go_ret
      exact Or.inr ⟨zA HG,rfl,_,zA HFR⟩
    ·have HG:Hid (zEK f ts[n] (ts.drop (n+1))=none):=by
      refine zB ?_
      rw[zA HE,hs5,Rt.closed]
     clear HE hs5
     have HFR:=zB (hfr1.trans (hfr2.trans hfr5))
     clear hr1 hr2 hfr1 hfr2 hfr5
     go_wp2_with fail
     go_ret
     exact Or.inr ⟨zA HG,rfl,_,zA HFR⟩
   ·have HG:Hid (zEK f ts[n] (ts.drop (n+1))=some ([⟨2,0,nm⟩],ts.drop (n+1))):=by
     refine zB ?_
     rw[zA HV,zAe hn1,Rt.pVar,if_neg hx]
    clear HV
    go_wp2_with fail
    refine(zL2 _ _ _ _ _ _ _ _ hr1 hn1 hx).mono ?_
    rintro e w6 ⟨rfl,q,rfl⟩
    obtain⟨hr2,hfr2⟩:=hr1.quiet q
    clear hx
    go_wp2_with fail
    refine(zDP _ _ _ _ _ _ _ ⟨2,0,nm⟩ hr2 (by omega)).mono ?_
    rintro e w5 ⟨rfl,ov6,hr6,hfr6⟩
    have HR:=zB hr6
    have HFR:=zB (hfr1.trans (hfr2.trans hfr6))
    clear hr1 hr2 hr6 hfr1 hfr2 hfr6
    go_wp2_with fail
    go_ret
    exact Or.inl ⟨[⟨2,0,nm⟩],n+1,ov6,zA HG,rfl,by simp;omega,by omega,zA HR,zA HFR⟩
  ·have HG:Hid (zEK f ts[n] (ts.drop (n+1))=some ([⟨2,0,nm⟩],ts.drop (n+1))):=by
    refine zB ?_
    rw[zA HV,zBw hn1,Rt.pVar]
   clear HV
   go_wp2_with fail
   refine(zJZ _ _ _ _ _ _ _ _ hr1 hn1).mono ?_
   rintro e w6 ⟨rfl,q,rfl⟩
   obtain⟨hr2,hfr2⟩:=hr1.quiet q
   go_wp2_with fail
   refine(zDP _ _ _ _ _ _ _ ⟨2,0,nm⟩ hr2 (by omega)).mono ?_
   rintro e w5 ⟨rfl,ov6,hr6,hfr6⟩
   have HR:=zB hr6
   have HFR:=zB (hfr1.trans (hfr2.trans hfr6))
   clear hr1 hr2 hr6 hfr1 hfr2 hfr6
   go_wp2_with fail
   go_ret
   exact Or.inl ⟨[⟨2,0,nm⟩],n+1,ov6,zA HG,rfl,by simp;omega,by omega,zA HR,zA HFR⟩
 ·have HG:Hid (zEK f ts[n] (ts.drop (n+1))=none):=by
   refine zB ?_
   unfold zEK
   rw[if_neg hk]
  clear hk
  have HFR:=zB hfr1
  clear hr1 hfr1
  go_wp2_with fail
  go_ret
  exact Or.inr ⟨zA HG,rfl,_,zA HFR⟩
end Go.Proofs.YthleadfkfnnadaaGreat
