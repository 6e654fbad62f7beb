/- Plain facts, continued. -/
import Derived.Test.YthleadfkfnnadaaGreatRefH
import Derived.Test.YthleadfkfnnadaaGreatRef1
set_option maxHeartbeats 4000000
set_option maxRecDepth 100000
namespace Go.Proofs.YthleadfkfnnadaaGreat
open Go.RowKit
namespace Rf
def zBt (l:List Nat):Nat:=l.getLastD 0
def nestFrom (ls:List (List ByteArray)):List (List ByteArray)→Nat→List Nat→List Nat→Nat
 | [],n,op,_=>if op.length=0 then 0 else n
 | t::r,n,op,sp=>
  if ((first t).toList==[])=true then nestFrom ls r (n+1) op sp
  else if zDb t=!decide (op.length=0)then n+1
  else if zBN t=true then nestFrom ls r (n+1) (op++[n+1]) sp
  else if ((first t).toList==[101,108,115,101])=true then
   (if ((first (zAA ls (zBt op-1))).toList==[105,102])=false∨(0 < sp.length∧zBt sp=zBt op)then n+1 else nestFrom ls r (n+1) op (sp++[zBt op]))
  else if ((first t).toList==[101,110,100])=true then nestFrom ls r (n+1) op.dropLast (if 0 < sp.length∧zBt sp=zBt op then sp.dropLast else sp)
  else nestFrom ls r (n+1) op sp
def nested (ls:List (List ByteArray)):Nat:=nestFrom ls ls 0 [] []
end Rf
theorem Tryz.zMS:(Tryz.prog.info? 3).map (fun i=>(i.zero,i.size,i.bytes))=some (some (.int .i64 0),1,8):=by kernel_rfl
def iv (n:Nat):Value:=.int .i64 n
theorem zI4 (m:Nat) (h:m≤1000):IntKind.i64.wrap ((m:Int)+1-1)=(m:Int):=by
 rw[show (m:Int)+1-1=(m:Int) by omega];exact IntWalk.i64_in _ ⟨by omega,by omega⟩
theorem zI5 (m:Nat) (h:m≤1000):IntKind.i64.wrap (m:Int)=(m:Int):=IntWalk.i64_in _ ⟨by omega,by omega⟩
theorem zLP {w w1:World} {o:Obj} {B:Nat} {e:TypeId} {size n:Nat} {v:Value} {xs:List Value} {row:Option Nat} (h:w.ownsRow B e size v n xs) (hg:(w.alloc o).grownBy w1 row) (hne:∀g,v.ownBlock=some g→¬row=some g):w1.ownsRow B e size v n xs:=by
 obtain⟨h1,h2⟩:=h
 refine⟨h1,?_⟩
 rcases h2 with h2 | ⟨g,cap,cur,hv,hgB,hh,r⟩
 ·exact Or.inl h2
 ·refine Or.inr ⟨g,cap,cur,hv,hgB,?_,r⟩
  have hlt:=zJ hh
  rw[hg.block g (by simp;omega) (fun e=>hne g (by rw[hv];rfl) e.symm)]
  rw[←hh]
  exact((Below.refl w.heap.size w).alloc (Nat.le_refl _) o).block g hlt
structure zCZ (w wr:World) (k:Nat) (op sp:List Nat) (ov sv:Value):Prop where
 opl:op.length≤k
 spl:sp.length≤k
 ops:∀o∈op,1≤o∧o≤k
 zIF:wr.ownsRow w.heap.size 3 1 ov op.length (op.map iv)
 zIy:wr.ownsRow w.heap.size 3 1 sv sp.length (sp.map iv)
 ne:∀g,ov.ownBlock=some g→¬sv.ownBlock=some g
 below:Below w.heap.size w wr
theorem zCZ.step {w wr:World} {k:Nat} {op sp:List Nat} {ov sv:Value} (h:zCZ w wr k op sp ov sv):zCZ w wr (k+1) op sp ov sv:=
 ⟨by have:=h.opl;omega,by have:=h.spl;omega,fun o ho=>by have:=h.ops o ho;omega,h.zIF,h.zIy,h.ne,h.below⟩
theorem zCZ.zH {w wr w2:World} {k:Nat} {op sp:List Nat} {ov sv:Value} (h:zCZ w wr k op sp ov sv) (hb:Below wr.heap.size wr w2):zCZ w w2 k op sp ov sv:=
 ⟨h.opl,h.spl,h.ops,zZ h.zIF hb,zZ h.zIy hb,h.ne,h.below.trans (hb.mono h.below.size)⟩
theorem zCZ.pushO {w wr w1:World} {k:Nat} {op sp:List Nat} {ov sv:Value} {o:Obj} {g' cap':Nat} (h:zCZ w wr k op sp ov sv)
  (ho:w1.ownsRow w.heap.size 3 1 (.slice (some ⟨g',0,none⟩) (op.length+1) cap') (op.length+1) (op.map iv++[iv (k+1)])) (hg:(wr.alloc o).grownBy w1 ov.ownBlock) (hat:ov.ownBlock=some g'∨g'=wr.heap.size+1) :
  zCZ w w1 (k+1) (op++[k+1]) sp (.slice (some ⟨g',0,none⟩) (op.length+1) cap') sv:=by
 refine⟨by have:=h.opl;simp;omega,by have:=h.spl;omega,fun x hx=>?_,by rw[List.map_append,List.length_append];exact ho,zLP h.zIy hg (fun g hgg e=>h.ne g e hgg),fun g hgg e=>?_,zAW h.below h.below.size h.zIF hg⟩
 ·simp at hx
  rcases hx with hx | rfl
  ·have:=h.ops x hx;omega
  ·omega
 ·simp[Value.ownBlock]at hgg
  subst hgg
  rcases hat with hat | hat
  ·exact h.ne _ hat e
  ·have:=(h.zIy.lt _ e).2
   omega
theorem zCZ.pushS {w wr w1:World} {k:Nat} {op sp:List Nat} {ov sv:Value} {o:Obj} {g' cap' q:Nat} (h:zCZ w wr k op sp ov sv) (hl:sp.length+1≤k+1)
  (ho:w1.ownsRow w.heap.size 3 1 (.slice (some ⟨g',0,none⟩) (sp.length+1) cap') (sp.length+1) (sp.map iv++[iv q])) (hg:(wr.alloc o).grownBy w1 sv.ownBlock) (hat:sv.ownBlock=some g'∨g'=wr.heap.size+1) :
  zCZ w w1 (k+1) op (sp++[q]) ov (.slice (some ⟨g',0,none⟩) (sp.length+1) cap'):=by
 refine⟨by have:=h.opl;omega,by simp;omega,fun x hx=>by have:=h.ops x hx;omega,zLP h.zIF hg h.ne,by rw[List.map_append,List.length_append];exact ho,fun g hgg e=>?_,zAW h.below h.below.size h.zIy hg⟩
 simp[Value.ownBlock]at e
 subst e
 rcases hat with hat | hat
 ·exact h.ne _ hgg hat
 ·have:=(h.zIF.lt _ hgg).2
  omega
theorem zCZ.popO {w wr:World} {k g cap:Nat} {pre sp:List Nat} {o:Nat} {sv:Value} (h:zCZ w wr k (pre++[o]) sp (.slice (some ⟨g,0,none⟩) (pre.length+1) cap) sv) :
  zCZ w wr k pre sp (.slice (some ⟨g,0,none⟩) pre.length cap) sv:=by
 refine⟨by have:=h.opl;simp at this;omega,h.spl,fun x hx=>h.ops x (by simp[hx]),?_,h.zIy,fun g' hg'=>h.ne g' hg',h.below⟩
 have:=h.zIF
 rw[List.map_append,List.length_append]at this
 exact ownsRow_pop (by simp) this
theorem zCZ.popS {w wr:World} {k g cap:Nat} {op pre:List Nat} {o:Nat} {ov:Value} (h:zCZ w wr k op (pre++[o]) ov (.slice (some ⟨g,0,none⟩) (pre.length+1) cap)) :
  zCZ w wr k op pre ov (.slice (some ⟨g,0,none⟩) pre.length cap):=by
 refine⟨h.opl,by have:=h.spl;simp at this;omega,h.ops,h.zIF,?_,fun g' hg'=>h.ne g' hg',h.below⟩
 have:=h.zIy
 rw[List.map_append,List.length_append]at this
 exact ownsRow_pop (by simp) this
theorem zDI (l:List Nat):l=[]∨∃pre o,l=pre++[o]:=by
 rcases List.eq_nil_or_concat l with h | ⟨a,b,h⟩
 ·exact Or.inl h
 ·exact Or.inr ⟨a,b,by simpa using h⟩
theorem zE7 (pre:List Nat) (o:Nat):Rf.zBt (pre++[o])=o:=by simp[Rf.zBt]
theorem zGE {w:World} {B:Nat} {v:Value} {pre:List Nat} {o:Nat} (h:w.ownsRow B 3 1 v (pre++[o]).length ((pre++[o]).map iv)):∃g cap,v=.slice (some ⟨g,0,none⟩) (pre.length+1) cap∧pre.length+1≤cap∧w.cell? ⟨g,pre.length,none⟩=some (iv o):=by
 obtain⟨g,cap,he,_,_,hc⟩:=zW h (j:=pre.length) (u:=iv o) (by simp)
 refine⟨g,cap,by simpa using he,?_,hc⟩
 rcases h.2 with⟨h',_⟩| ⟨g',cap',cur,h',_,_,hn,_⟩
 ·rw[he]at h';cases h'
 ·rw[he]at h';simp at h';simp at hn;omega
def HF (x:ByteArray) (i:Nat):Prop:=(x.toList==[])=decide (i=0)∧(x.toList==[118,97,114])=decide (i=1)∧(x.toList==[97,114,114,97,121])=decide (i=2)∧(x.toList==[112,114,111,99])=decide (i=3)∧
 (x.toList==[105,102])=decide (i=4)∧(x.toList==[119,104,105,108,101])=decide (i=5)∧(x.toList==[101,108,115,101])=decide (i=6)∧(x.toList==[101,110,100])=decide (i=7)
theorem zCi (x:ByteArray):∃i,i≤8∧HF x i:=by
 by_cases h0:x.toList=[]
 ·exact⟨0,by omega,by unfold HF;rw[h0];decide⟩
 by_cases h1:x.toList=[118,97,114]
 ·exact⟨1,by omega,by unfold HF;rw[h1];decide⟩
 by_cases h2:x.toList=[97,114,114,97,121]
 ·exact⟨2,by omega,by unfold HF;rw[h2];decide⟩
 by_cases h3:x.toList=[112,114,111,99]
 ·exact⟨3,by omega,by unfold HF;rw[h3];decide⟩
 by_cases h4:x.toList=[105,102]
 ·exact⟨4,by omega,by unfold HF;rw[h4];decide⟩
 by_cases h5:x.toList=[119,104,105,108,101]
 ·exact⟨5,by omega,by unfold HF;rw[h5];decide⟩
 by_cases h6:x.toList=[101,108,115,101]
 ·exact⟨6,by omega,by unfold HF;rw[h6];decide⟩
 by_cases h7:x.toList=[101,110,100]
 ·exact⟨7,by omega,by unfold HF;rw[h7];decide⟩
 ·refine⟨8,by omega,?_⟩
  unfold HF
  simp[h0,h1,h2,h3,h4,h5,h6,h7]
namespace Rf
theorem zGr {ls:List (List ByteArray)} {k i:Nat} {op sp:List Nat} (h:k < ls.length) (hf:HF (first ls[k]) i):nestFrom ls (ls.drop k) k op sp =
  if i=0 then nestFrom ls (ls.drop (k+1)) (k+1) op sp
  else if decide (i=1∨i=2∨i=3)=!decide (op.length=0)then k+1
  else if i=3∨i=4∨i=5 then nestFrom ls (ls.drop (k+1)) (k+1) (op++[k+1]) sp
  else if i=6 then (if ((first (zAA ls (zBt op-1))).toList==[105,102])=false∨(0 < sp.length∧zBt sp=zBt op)then k+1 else nestFrom ls (ls.drop (k+1)) (k+1) op (sp++[zBt op]))
  else if i=7 then nestFrom ls (ls.drop (k+1)) (k+1) op.dropLast (if 0 < sp.length∧zBt sp=zBt op then sp.dropLast else sp)
  else nestFrom ls (ls.drop (k+1)) (k+1) op sp:=by
 obtain⟨f0,f1,f2,f3,f4,f5,f6,f7⟩:=hf
 rw[List.drop_eq_getElem_cons h,nestFrom]
 have ht:zDb ls[k]=decide (i=1∨i=2∨i=3):=by
  unfold zDb;rw[f1,f2,f3,Bool.eq_iff_iff];simp[or_assoc]
 have ho:(zBN ls[k]=true)↔(i=3∨i=4∨i=5):=by
  unfold zBN;rw[f3,f4,f5];simp[or_assoc]
 rw[f0,f6,f7,ht]
 simp only[ho,decide_eq_true_eq]
end Rf
theorem zOe (w:World) (S g cap:Nat) (ls:List (List ByteArray)) (h:zAg w S g cap ls) (hL:ls.length≤100) :
  Calls Tryz.prog 82 #[.pointer (some ⟨S,0,none⟩)] w fun e w'=>e=.returned (.int .i64 (Rf.nested ls))∧Below w.heap.size w w':=by
 obtain⟨i0,hi0,hz0,hz1,hz2⟩:=info_parts Tryz.zMS
 have HH:=zB h
 clear h
 go_enter Tryz.func82,Tryz.ntmps82
 go_wp2
 go_loopw [3,4,5] (fun ov sv i wr=>∃(k:Nat) (op sp:List Nat),k≤ls.length∧i=.int .i64 ((k:Int)+1)∧Rf.nestFrom ls (ls.drop k) k op sp=Rf.nested ls∧zCZ w wr k op sp ov sv)
  (fun _ _ i _=>ls.length+1-(intOf i).toNat)
 case atStart=>exact⟨0,[],[],Nat.zero_le _,rfl,rfl,⟨by simp,by simp,by simp,World.ownsRow_nil _ _ _ _,World.ownsRow_nil _ _ _ _,by simp[Value.ownBlock],Below.refl _ _⟩⟩
 case round=>
  obtain⟨k,op,sp,hk,rfl,hT,hn⟩:=hrel
  have hs:=(zA HH).zH hn.below
  have cT:=hs.top
  obtain⟨oad,ocap,rfl⟩:=zE hn.zIF
  obtain⟨sad,scap,rfl⟩:=zE hn.zIy
  have HN:=zB hn
  have HS:=zB hs
  by_cases hlt:k < ls.length
  ·have hlt':(k:Int)+1≤(ls.length:Int):=by omega
   obtain⟨i,hi8,hf⟩:=zCi (Rf.first ls[k])
   rw[Rf.zGr hlt hf]at hT
   have HT:=zB hT
   clear hT hs hn
   go_wp2_with fail
   refine(zAN _ S g cap ls k (zA HS) hlt hL).mono ?_
   rintro e w2 ⟨rfl,hb2⟩
   have hn2:=(zA HN).zH hb2
   have HN2:=zB hn2
   have hopl:=hn2.opl
   have hspl:=hn2.spl
   have hobj:=hn2.below.size
   clear hb2 cT hn2
   generalize Rf.first ls[k]=x at *
   have hi9:i=0∨i=1∨i=2∨i=3∨i=4∨i=5∨i=6∨i=7∨i=8:=by omega
   clear hi8
   rcases hi9 with rfl | rfl | rfl | rfl | rfl | rfl | rfl | rfl | rfl
   ·have f0:(x.toList==[])=true:=hf.1
    have f1:(x.toList==[118,97,114])=false:=hf.2.1
    have f2:(x.toList==[97,114,114,97,121])=false:=hf.2.2.1
    have f3:(x.toList==[112,114,111,99])=false:=hf.2.2.2.1
    have f4:(x.toList==[105,102])=false:=hf.2.2.2.2.1
    have f5:(x.toList==[119,104,105,108,101])=false:=hf.2.2.2.2.2.1
    have f6:(x.toList==[101,108,115,101])=false:=hf.2.2.2.2.2.2.1
    have f7:(x.toList==[101,110,100])=false:=hf.2.2.2.2.2.2.2
    rw[if_pos rfl]at HT
    go_wp2_with fail
    go_roundw
    case rel=>exact⟨k+1,op,sp,by omega,by go_num,zA HT,(zA HN2).step⟩
    case measure=>simp[intOf];omega
   ·have f0:(x.toList==[])=false:=hf.1
    have f1:(x.toList==[118,97,114])=true:=hf.2.1
    have f2:(x.toList==[97,114,114,97,121])=false:=hf.2.2.1
    have f3:(x.toList==[112,114,111,99])=false:=hf.2.2.2.1
    have f4:(x.toList==[105,102])=false:=hf.2.2.2.2.1
    have f5:(x.toList==[119,104,105,108,101])=false:=hf.2.2.2.2.2.1
    have f6:(x.toList==[101,108,115,101])=false:=hf.2.2.2.2.2.2.1
    have f7:(x.toList==[101,110,100])=false:=hf.2.2.2.2.2.2.2
    by_cases ho:op.length=0
    ·have ho':((op.length:Int)==0)=true:=by rw[beq_iff_eq];omega
     rw[if_neg (by omega),if_neg (by simp[ho])]at HT
     clear ho
     rw[if_neg (by omega),if_neg (by omega),if_neg (by omega)]at HT
     go_wp2_with fail
     go_roundw
     case rel=>exact⟨k+1,op,sp,by omega,by go_num,zA HT,(zA HN2).step⟩
     case measure=>simp[intOf];omega
    ·have ho':((op.length:Int)==0)=false:=by rw[beq_eq_false_iff_ne];omega
     rw[if_neg (by omega),if_pos (by simp[ho])]at HT
     clear ho
     go_wp2_with fail
     go_ret
     exact⟨by rw[←zA HT];exact zBe (by omega),(zA HN2).below⟩
   ·have f0:(x.toList==[])=false:=hf.1
    have f1:(x.toList==[118,97,114])=false:=hf.2.1
    have f2:(x.toList==[97,114,114,97,121])=true:=hf.2.2.1
    have f3:(x.toList==[112,114,111,99])=false:=hf.2.2.2.1
    have f4:(x.toList==[105,102])=false:=hf.2.2.2.2.1
    have f5:(x.toList==[119,104,105,108,101])=false:=hf.2.2.2.2.2.1
    have f6:(x.toList==[101,108,115,101])=false:=hf.2.2.2.2.2.2.1
    have f7:(x.toList==[101,110,100])=false:=hf.2.2.2.2.2.2.2
    by_cases ho:op.length=0
    ·have ho':((op.length:Int)==0)=true:=by rw[beq_iff_eq];omega
     rw[if_neg (by omega),if_neg (by simp[ho])]at HT
     clear ho
     rw[if_neg (by omega),if_neg (by omega),if_neg (by omega)]at HT
     go_wp2_with fail
     go_roundw
     case rel=>exact⟨k+1,op,sp,by omega,by go_num,zA HT,(zA HN2).step⟩
     case measure=>simp[intOf];omega
    ·have ho':((op.length:Int)==0)=false:=by rw[beq_eq_false_iff_ne];omega
     rw[if_neg (by omega),if_pos (by simp[ho])]at HT
     clear ho
     go_wp2_with fail
     go_ret
     exact⟨by rw[←zA HT];exact zBe (by omega),(zA HN2).below⟩
   ·have f0:(x.toList==[])=false:=hf.1
    have f1:(x.toList==[118,97,114])=false:=hf.2.1
    have f2:(x.toList==[97,114,114,97,121])=false:=hf.2.2.1
    have f3:(x.toList==[112,114,111,99])=true:=hf.2.2.2.1
    have f4:(x.toList==[105,102])=false:=hf.2.2.2.2.1
    have f5:(x.toList==[119,104,105,108,101])=false:=hf.2.2.2.2.2.1
    have f6:(x.toList==[101,108,115,101])=false:=hf.2.2.2.2.2.2.1
    have f7:(x.toList==[101,110,100])=false:=hf.2.2.2.2.2.2.2
    by_cases ho:op.length=0
    ·have ho':((op.length:Int)==0)=true:=by rw[beq_iff_eq];omega
     rw[if_neg (by omega),if_neg (by simp[ho])]at HT
     clear ho
     rw[if_pos (by omega)]at HT
     go_wp2_with (at_builtin;refine wpList_append_lies _ rfl (.tmp 46) (.tmp 48) 24 rfl w.heap.size 3 i0 _ 1 8 Tryz.underlying24 hi0 hz0 hz1 hz2 rfl (by decide) _ _ _ rfl ((zA HN2).zIF.alloc _) ⟨_,0,none⟩ 1 1 [.int .i64 ((k:Int)+1)] rfl rfl (cell_one_new _ _ _) (by simp[Value.oneCell']) (by omega) (by unfold maxLen;omega) (by omega) (by simp;omega) _ rfl ?_)
     intro g' cap' w3 hown3 hgrow hat hlt3
     have HN3:=zB ((zA HN2).pushO (by exact hown3) hgrow (by rcases hat with h | h;exact Or.inl h;exact Or.inr (by first | omega | (simp at h;omega))))
     clear hown3 hgrow hat hlt3
     go_wp2_with fail
     go_roundw
     case rel=>exact⟨k+1,_,sp,by omega,by go_num,zA HT,zA HN3⟩
     case measure=>simp[intOf];omega
    ·have ho':((op.length:Int)==0)=false:=by rw[beq_eq_false_iff_ne];omega
     rw[if_neg (by omega),if_pos (by simp[ho])]at HT
     clear ho
     go_wp2_with fail
     go_ret
     exact⟨by rw[←zA HT];exact zBe (by omega),(zA HN2).below⟩
   ·have f0:(x.toList==[])=false:=hf.1
    have f1:(x.toList==[118,97,114])=false:=hf.2.1
    have f2:(x.toList==[97,114,114,97,121])=false:=hf.2.2.1
    have f3:(x.toList==[112,114,111,99])=false:=hf.2.2.2.1
    have f4:(x.toList==[105,102])=true:=hf.2.2.2.2.1
    have f5:(x.toList==[119,104,105,108,101])=false:=hf.2.2.2.2.2.1
    have f6:(x.toList==[101,108,115,101])=false:=hf.2.2.2.2.2.2.1
    have f7:(x.toList==[101,110,100])=false:=hf.2.2.2.2.2.2.2
    by_cases ho:op.length=0
    ·have ho':((op.length:Int)==0)=true:=by rw[beq_iff_eq];omega
     rw[if_neg (by omega),if_pos (by simp[ho])]at HT
     clear ho
     go_wp2_with fail
     go_ret
     exact⟨by rw[←zA HT];exact zBe (by omega),(zA HN2).below⟩
    ·have ho':((op.length:Int)==0)=false:=by rw[beq_eq_false_iff_ne];omega
     rw[if_neg (by omega),if_neg (by simp[ho])]at HT
     clear ho
     rw[if_pos (by omega)]at HT
     go_wp2_with (at_builtin;refine wpList_append_lies _ rfl (.tmp 46) (.tmp 48) 24 rfl w.heap.size 3 i0 _ 1 8 Tryz.underlying24 hi0 hz0 hz1 hz2 rfl (by decide) _ _ _ rfl ((zA HN2).zIF.alloc _) ⟨_,0,none⟩ 1 1 [.int .i64 ((k:Int)+1)] rfl rfl (cell_one_new _ _ _) (by simp[Value.oneCell']) (by omega) (by unfold maxLen;omega) (by omega) (by simp;omega) _ rfl ?_)
     intro g' cap' w3 hown3 hgrow hat hlt3
     have HN3:=zB ((zA HN2).pushO (by exact hown3) hgrow (by rcases hat with h | h;exact Or.inl h;exact Or.inr (by first | omega | (simp at h;omega))))
     clear hown3 hgrow hat hlt3
     go_wp2_with fail
     go_roundw
     case rel=>exact⟨k+1,_,sp,by omega,by go_num,zA HT,zA HN3⟩
     case measure=>simp[intOf];omega
   ·have f0:(x.toList==[])=false:=hf.1
    have f1:(x.toList==[118,97,114])=false:=hf.2.1
    have f2:(x.toList==[97,114,114,97,121])=false:=hf.2.2.1
    have f3:(x.toList==[112,114,111,99])=false:=hf.2.2.2.1
    have f4:(x.toList==[105,102])=false:=hf.2.2.2.2.1
    have f5:(x.toList==[119,104,105,108,101])=true:=hf.2.2.2.2.2.1
    have f6:(x.toList==[101,108,115,101])=false:=hf.2.2.2.2.2.2.1
    have f7:(x.toList==[101,110,100])=false:=hf.2.2.2.2.2.2.2
    by_cases ho:op.length=0
    ·have ho':((op.length:Int)==0)=true:=by rw[beq_iff_eq];omega
     rw[if_neg (by omega),if_pos (by simp[ho])]at HT
     clear ho
     go_wp2_with fail
     go_ret
     exact⟨by rw[←zA HT];exact zBe (by omega),(zA HN2).below⟩
    ·have ho':((op.length:Int)==0)=false:=by rw[beq_eq_false_iff_ne];omega
     rw[if_neg (by omega),if_neg (by simp[ho])]at HT
     clear ho
     rw[if_pos (by omega)]at HT
     go_wp2_with (at_builtin;refine wpList_append_lies _ rfl (.tmp 46) (.tmp 48) 24 rfl w.heap.size 3 i0 _ 1 8 Tryz.underlying24 hi0 hz0 hz1 hz2 rfl (by decide) _ _ _ rfl ((zA HN2).zIF.alloc _) ⟨_,0,none⟩ 1 1 [.int .i64 ((k:Int)+1)] rfl rfl (cell_one_new _ _ _) (by simp[Value.oneCell']) (by omega) (by unfold maxLen;omega) (by omega) (by simp;omega) _ rfl ?_)
     intro g' cap' w3 hown3 hgrow hat hlt3
     have HN3:=zB ((zA HN2).pushO (by exact hown3) hgrow (by rcases hat with h | h;exact Or.inl h;exact Or.inr (by first | omega | (simp at h;omega))))
     clear hown3 hgrow hat hlt3
     go_wp2_with fail
     go_roundw
     case rel=>exact⟨k+1,_,sp,by omega,by go_num,zA HT,zA HN3⟩
     case measure=>simp[intOf];omega
   ·have f0:(x.toList==[])=false:=hf.1
    have f1:(x.toList==[118,97,114])=false:=hf.2.1
    have f2:(x.toList==[97,114,114,97,121])=false:=hf.2.2.1
    have f3:(x.toList==[112,114,111,99])=false:=hf.2.2.2.1
    have f4:(x.toList==[105,102])=false:=hf.2.2.2.2.1
    have f5:(x.toList==[119,104,105,108,101])=false:=hf.2.2.2.2.2.1
    have f6:(x.toList==[101,108,115,101])=true:=hf.2.2.2.2.2.2.1
    have f7:(x.toList==[101,110,100])=false:=hf.2.2.2.2.2.2.2
    by_cases ho:op.length=0
    ·have ho':((op.length:Int)==0)=true:=by rw[beq_iff_eq];omega
     rw[if_neg (by omega),if_pos (by simp[ho])]at HT
     clear ho
     go_wp2_with fail
     go_ret
     exact⟨by rw[←zA HT];exact zBe (by omega),(zA HN2).below⟩
    ·have ho':((op.length:Int)==0)=false:=by rw[beq_eq_false_iff_ne];omega
     rw[if_neg (by omega),if_neg (by simp[ho])]at HT
     clear ho
     rw[if_neg (by omega),if_pos rfl]at HT
     obtain⟨pre,o,rfl⟩:∃pre o,op=pre++[o]:=by
      rcases zDI op with h | h
      ·subst h;simp at ho'
      ·exact h
     have hon:=(zA HN2).ops o (by simp)
     obtain⟨o',rfl⟩:∃o',o=o'+1:=⟨o-1,by omega⟩
     have hol:o' < ls.length:=by omega
     obtain⟨g0,cap0,he0,hcap0,cO⟩:=zGE (zA HN2).zIF
     simp only[Value.slice.injEq]at he0
     obtain⟨rfl,hpl,rfl⟩:=he0
     rw[zE7]at HT
     rw[hpl]at hopl ho' HN2 ⊢
     clear hpl
     replace cO:w2.cell? ⟨g0,pre.length,none⟩=some (.int .i64 ((o':Int)+1)):=cO
     have HP:=zB (show ∀x:Nat,(pre++[x]).length=pre.length+1 by intro x;simp)
     have hm1:=zI4 pre.length (by omega)
     have hm0:=zI5 pre.length (by omega)
     have hm2:(pre.length:Int) < (pre.length:Int)+1:=by omega
     have hm3:(0:Int)≤(pre.length:Int):=by omega
     have hm4:(pre.length:Int)≤(ocap:Int):=by omega
     go_wp2_with fail
     refine(zAN _ S g cap ls o' ((zA HH).zH (zA HN2).below) hol hL).mono ?_
     rintro e w3 ⟨rfl,hb3⟩
     have HN3:=zB ((zA HN2).zH hb3)
     have hobj3:=(zA HN3).below.size
     rw[Nat.add_sub_cancel,Rf.zr hol]at HT
     clear hb3 cO
     generalize Rf.first ls[o']=y at *
     cases hy:(y.toList==[105,102])with
     | false=>
      rw[hy,if_pos (Or.inl rfl)]at HT
      go_wp2_with fail
      go_ret
      exact⟨by rw[←zA HT];exact zBe (by omega),(zA HN3).below⟩
     | true=>
      rcases zDI sp with rfl | ⟨ps,q,rfl⟩
      ·rw[hy,if_neg (by simp)]at HT
       simp only[List.length_nil]at hspl HN3 ⊢
       have hsown:w3.ownsRow w.heap.size 3 1 (.slice sad 0 scap) 0 []:=(zA HN3).zIy
       go_wp2_with (at_builtin;refine wpList_append_lies _ rfl (.tmp 79) (.tmp 81) 24 rfl w.heap.size 3 i0 _ 1 8 Tryz.underlying24 hi0 hz0 hz1 hz2 rfl (by decide) _ _ _ rfl (hsown.alloc _) ⟨_,0,none⟩ 1 1 [.int .i64 ((o':Int)+1)] rfl rfl (cell_one_new _ _ _) (by simp[Value.oneCell']) (by omega) (by unfold maxLen;omega) (by omega) (by simp;omega) _ rfl ?_)
       intro g' cap' w4 hown4 hgrow hat hlt4
       have HN4:=zB ((zA HN3).pushS (q:=o'+1) (g':=g') (cap':=cap') (by simp) (by exact hown4) hgrow (by rcases hat with h | h;exact Or.inl h;exact Or.inr (by first | omega | (simp at h;omega))))
       clear hown4 hgrow hat hlt4 hsown
       go_wp2_with fail
       go_roundw
       case rel=>exact⟨k+1,_,_,by omega,by go_num,zA HT,by first | exact zA HN4 | simpa using zA HN4⟩
       case measure=>simp[intOf];omega
      ·obtain⟨g1,cap1,he1,hcap1,cS⟩:=zGE (zA HN3).zIy
       simp only[Value.slice.injEq]at he1
       obtain⟨rfl,hsl,rfl⟩:=he1
       rw[zE7]at HT
       rw[hsl]at hspl HN3 ⊢
       have HSL:=zB hsl
       clear hsl
       replace cS:w3.cell? ⟨g1,ps.length,none⟩=some (.int .i64 (q:Int)):=cS
       have hq1:=zI4 ps.length (by omega)
       have hq0:=zI5 ps.length (by omega)
       have hq2:(ps.length:Int) < (ps.length:Int)+1:=by omega
       have hq3:(0:Int)≤(ps.length:Int):=by omega
       have hq4:(ps.length:Int)≤(scap:Int):=by omega
       have hq5:(0:Int) < (ps.length:Int)+1:=by omega
       by_cases hqo:q=o'+1
       ·have hqo':((q:Int)==(o':Int)+1)=true:=by rw[beq_iff_eq];omega
        rw[if_pos (Or.inr ⟨by simp,hqo⟩)]at HT
        clear hqo
        go_wp2_with fail
        go_ret
        exact⟨by rw[←zA HT];exact zBe (by omega),(zA HN3).below⟩
       ·have hqo':((q:Int)==(o':Int)+1)=false:=by rw[beq_eq_false_iff_ne];omega
        rw[hy,if_neg (by simp[hqo])]at HT
        clear hqo
        have hsown:w3.ownsRow w.heap.size 3 1 (.slice (some ⟨g1,0,none⟩) (ps.length+1) scap) (ps.length+1) ((ps++[q]).map iv):=by
         have:=(zA HN3).zIy
         rw[zA HSL]at this
         exact this
        go_wp2_with (at_builtin;refine wpList_append_lies _ rfl (.tmp 79) (.tmp 81) 24 rfl w.heap.size 3 i0 _ 1 8 Tryz.underlying24 hi0 hz0 hz1 hz2 rfl (by decide) _ _ _ rfl (hsown.alloc _) ⟨_,0,none⟩ 1 1 [.int .i64 ((o':Int)+1)] rfl rfl (cell_one_new _ _ _) (by simp[Value.oneCell']) (by omega) (by unfold maxLen;omega) (by omega) (by simp;omega) _ rfl ?_)
        intro g' cap' w4 hown4 hgrow hat hlt4
        have HN4:=zB ((zA HN3).pushS (q:=o'+1) (g':=g') (cap':=cap') (by rw[zA HSL];omega) (by rw[zA HSL,List.map_append,List.append_assoc];exact hown4) hgrow (by rcases hat with h | h;exact Or.inl h;exact Or.inr (by first | omega | (simp at h;omega))))
        rw[zA HSL]at HN4
        clear hown4 hgrow hat hlt4 hsown
        go_wp2_with fail
        go_roundw
        case rel=>exact⟨k+1,_,_,by omega,by go_num,zA HT,by first | exact zA HN4 | simpa using zA HN4⟩
        case measure=>simp[intOf];omega
   ·have f0:(x.toList==[])=false:=hf.1
    have f1:(x.toList==[118,97,114])=false:=hf.2.1
    have f2:(x.toList==[97,114,114,97,121])=false:=hf.2.2.1
    have f3:(x.toList==[112,114,111,99])=false:=hf.2.2.2.1
    have f4:(x.toList==[105,102])=false:=hf.2.2.2.2.1
    have f5:(x.toList==[119,104,105,108,101])=false:=hf.2.2.2.2.2.1
    have f6:(x.toList==[101,108,115,101])=false:=hf.2.2.2.2.2.2.1
    have f7:(x.toList==[101,110,100])=true:=hf.2.2.2.2.2.2.2
    by_cases ho:op.length=0
    ·have ho':((op.length:Int)==0)=true:=by rw[beq_iff_eq];omega
     rw[if_neg (by omega),if_pos (by simp[ho])]at HT
     clear ho
     go_wp2_with fail
     go_ret
     exact⟨by rw[←zA HT];exact zBe (by omega),(zA HN2).below⟩
    ·have ho':((op.length:Int)==0)=false:=by rw[beq_eq_false_iff_ne];omega
     rw[if_neg (by omega),if_neg (by simp[ho])]at HT
     clear ho
     rw[if_neg (by omega),if_neg (by omega),if_pos rfl]at HT
     obtain⟨pre,o,rfl⟩:∃pre o,op=pre++[o]:=by
      rcases zDI op with h | h
      ·subst h;simp at ho'
      ·exact h
     have hon:=(zA HN2).ops o (by simp)
     obtain⟨o',rfl⟩:∃o',o=o'+1:=⟨o-1,by omega⟩
     have hol:o' < ls.length:=by omega
     obtain⟨g0,cap0,he0,hcap0,cO⟩:=zGE (zA HN2).zIF
     simp only[Value.slice.injEq]at he0
     obtain⟨rfl,hpl,rfl⟩:=he0
     rw[zE7]at HT
     rw[hpl]at hopl ho' HN2 ⊢
     clear hpl
     replace cO:w2.cell? ⟨g0,pre.length,none⟩=some (.int .i64 ((o':Int)+1)):=cO
     have HP:=zB (show ∀x:Nat,(pre++[x]).length=pre.length+1 by intro x;simp)
     have hm1:=zI4 pre.length (by omega)
     have hm0:=zI5 pre.length (by omega)
     have hm2:(pre.length:Int) < (pre.length:Int)+1:=by omega
     have hm3:(0:Int)≤(pre.length:Int):=by omega
     have hm4:(pre.length:Int)≤(ocap:Int):=by omega
     rw[List.dropLast_concat]at HT
     rcases zDI sp with rfl | ⟨ps,q,rfl⟩
     ·rw[if_neg (by simp)]at HT
      simp only[List.length_nil]at hspl HN2 ⊢
      have HNP:=zB ((zA HN2).step.popO)
      go_wp2_with fail
      go_roundw
      case rel=>exact⟨k+1,pre,[],by omega,by go_num,zA HT,zA HNP⟩
      case measure=>simp[intOf];omega
     ·obtain⟨g1,cap1,he1,hcap1,cS⟩:=zGE (zA HN2).zIy
      simp only[Value.slice.injEq]at he1
      obtain⟨rfl,hsl,rfl⟩:=he1
      rw[zE7]at HT
      rw[hsl]at hspl HN2 ⊢
      have HSL:=zB hsl
      clear hsl
      replace cS:w2.cell? ⟨g1,ps.length,none⟩=some (.int .i64 (q:Int)):=cS
      have hq1:=zI4 ps.length (by omega)
      have hq0:=zI5 ps.length (by omega)
      have hq2:(ps.length:Int) < (ps.length:Int)+1:=by omega
      have hq3:(0:Int)≤(ps.length:Int):=by omega
      have hq4:(ps.length:Int)≤(scap:Int):=by omega
      have hq5:(0:Int) < (ps.length:Int)+1:=by omega
      by_cases hqo:q=o'+1
      ·have hqo':((q:Int)==(o':Int)+1)=true:=by rw[beq_iff_eq];omega
       rw[if_pos ⟨by simp,hqo⟩,List.dropLast_concat]at HT
       clear hqo
       have HNP:=zB ((zA HN2).step.popO.popS)
       go_wp2_with fail
       go_roundw
       case rel=>exact⟨k+1,pre,ps,by omega,by go_num,zA HT,zA HNP⟩
       case measure=>simp[intOf];omega
      ·have hqo':((q:Int)==(o':Int)+1)=false:=by rw[beq_eq_false_iff_ne];omega
       rw[if_neg (by simp[hqo])]at HT
       clear hqo
       have HNP:=zB ((zA HN2).step.popO)
       go_wp2_with fail
       go_roundw
       case rel=>exact⟨k+1,pre,_,by omega,by go_num,zA HT,zA HNP⟩
       case measure=>simp[intOf];omega
   ·have f0:(x.toList==[])=false:=hf.1
    have f1:(x.toList==[118,97,114])=false:=hf.2.1
    have f2:(x.toList==[97,114,114,97,121])=false:=hf.2.2.1
    have f3:(x.toList==[112,114,111,99])=false:=hf.2.2.2.1
    have f4:(x.toList==[105,102])=false:=hf.2.2.2.2.1
    have f5:(x.toList==[119,104,105,108,101])=false:=hf.2.2.2.2.2.1
    have f6:(x.toList==[101,108,115,101])=false:=hf.2.2.2.2.2.2.1
    have f7:(x.toList==[101,110,100])=false:=hf.2.2.2.2.2.2.2
    by_cases ho:op.length=0
    ·have ho':((op.length:Int)==0)=true:=by rw[beq_iff_eq];omega
     rw[if_neg (by omega),if_pos (by simp[ho])]at HT
     clear ho
     go_wp2_with fail
     go_ret
     exact⟨by rw[←zA HT];exact zBe (by omega),(zA HN2).below⟩
    ·have ho':((op.length:Int)==0)=false:=by rw[beq_eq_false_iff_ne];omega
     rw[if_neg (by omega),if_neg (by simp[ho])]at HT
     clear ho
     rw[if_neg (by omega),if_neg (by omega),if_neg (by omega)]at HT
     go_wp2_with fail
     go_roundw
     case rel=>exact⟨k+1,op,sp,by omega,by go_num,zA HT,(zA HN2).step⟩
     case measure=>simp[intOf];omega
  ·have hlt':¬(k:Int)+1≤(ls.length:Int):=by omega
   rw[List.drop_eq_nil_of_le (by omega),Rf.nestFrom]at hT
   have HT:=zB hT
   clear hT
   have hkl:k=ls.length:=by omega
   by_cases ho:op.length=0
   ·have ho':¬(0:Int) < (op.length:Int):=by omega
    rw[if_pos ho]at HT
    go_wp2_with fail
    go_ret
    exact⟨by rw[←zA HT];rfl,(zA HN).below⟩
   ·have ho':(0:Int) < (op.length:Int):=by omega
    rw[if_neg ho]at HT
    subst hkl
    go_wp2_with fail
    go_ret
    exact⟨by rw[←zA HT];rfl,(zA HN).below⟩
end Go.Proofs.YthleadfkfnnadaaGreat
namespace Go.Proofs.YthleadfkfnnadaaGreat
namespace Rf
theorem zD8 {t:List ByteArray} (h:0 < t.length):zx t=isKind t (first t).toList:=by rw[zx,if_neg (by omega)]
theorem zIt {t:List ByteArray} (h:t.length=0):(first t).toList=[]:=by
 have:t=[]:=List.eq_nil_of_length_eq_zero h
 subst this
 simp[first,at']
theorem top_two {t:List ByteArray} (h:zx t=true) (ht:zDb t=true):2≤t.length:=by
 have hp:0 < t.length:=by
  by_cases h0:0 < t.length
  ·exact h0
  ·have:=zIt (t:=t) (by omega)
   simp[zDb,this]at ht
 rw[zD8 hp]at h
 unfold zDb at ht
 simp only[Bool.or_eq_true,beq_iff_eq]at ht
 rcases ht with (ht | ht)| ht
 ·rw[ht]at h
  simp[isKind]at h
  omega
 ·rw[ht]at h
  simp[isKind,zEO]at h
  omega
 ·rw[ht]at h
  simp[isKind]at h
  omega
theorem call_two {t:List ByteArray} (h:zx t=true) (ht:((first t).toList==[99,97,108,108])=true):2≤t.length:=by
 rw[beq_iff_eq]at ht
 have hp:0 < t.length:=by
  by_cases h0:0 < t.length
  ·exact h0
  ·have:=zIt (t:=t) (by omega)
   rw[this]at ht
   cases ht
 rw[zD8 hp,ht]at h
 simp[isKind,zEA]at h
 exact h.1
end Rf
namespace Rt
open Go.RowKit
def valTo (s:ByteArray):Nat→Int
 | 0=>0
 | k+1=>wrap64 (wrap64 (valTo s k*10)+(zAO s k-48) % 256)
def val (s:ByteArray):Int:=valTo s s.size
end Rt
end Go.Proofs.YthleadfkfnnadaaGreat
