/- The document's answer: a source while its lines are read. -/
import Derived.Test.YthleadfkfnnadaaGreatRefH
import Derived.Test.YthleadfkfnnadaaGreatRtTidy
import Derived.Test.YthleadfkfnnadaaGreatRowA
set_option maxHeartbeats 4000000
set_option maxRecDepth 100000
set_option linter.unusedSimpArgs false
namespace Go.Proofs.YthleadfkfnnadaaGreat
open Rf Go.Proofs.Tryz
open Go.RowKit
variable {ls:List (List ByteArray)} {t:List ByteArray} {op sp pre:List Nat} {vs:List Value} {o B k g' cap' g cap S:Nat} {row:Option Nat} {v ov sv lv:Value} {w w1 wr w2 w':World}
namespace Rf
def vQ (l:List Nat):Nat:=l.getLastD 0
def nestFrom (ls:List (List ByteArray)):List (List ByteArray)->Nat->List Nat->List Nat->Nat
 | [],n,op,_=>if op.length=0 then 0 else n
 | t::r,n,op,sp=>
  if ((first t).toList==[])=true then nestFrom ls r (n+1) op sp
  else if Xl t=!decide (op.length=0)then n+1
  else if kJ t=true then nestFrom ls r (n+1) (op++[n+1]) sp
  else if ((first t).toList==[101,108,115,101])=true then
   (if ((first (xU ls (vQ op-1))).toList==[105,102])=false\/(0 < sp.length/\vQ sp=vQ op)then n+1 else nestFrom ls r (n+1) op (sp++[vQ op]))
  else if ((first t).toList==[101,110,100])=true then nestFrom ls r (n+1) op.dropLast (if 0 < sp.length/\vQ sp=vQ op then sp.dropLast else sp)
  else nestFrom ls r (n+1) op sp
def nested (ls:List (List ByteArray)):Nat:=nestFrom ls ls 0 [] []
end Rf
theorem eU:(Tryz.prog.info? 3).map (fun i=>(i.zero,i.size,i.bytes))=some (some (.int .i64 0),1,8):=by kernel_rfl
def iv (n:Nat):Value:=.int .i64 n
theorem eI (m:Nat) (h:m<=1000):IntKind.i64.wrap ((m:Int)+1-1)=(m:Int):=by
 rw[show (m:Int)+1-1=(m:Int) by omega];exact zl _ ⟨by omega,by omega⟩
theorem eJ (m:Nat) (h:m<=1000):IntKind.i64.wrap (m:Int)=(m:Int):=zl _ ⟨by omega,by omega⟩
theorem lP {o:Obj} {e:TypeId} {size n:Nat} {xs:List Value} (h:w.ownsRow B e size v n xs) (i:(w.alloc o).grownBy w1 row) (d:∀g,v.ownBlock=some g->¬row=some g):w1.ownsRow B e size v n xs:=by
 obtain⟨j,h2⟩:=h;refine⟨j,?_⟩;rcases h2 with h2 | ⟨g,cap,cur,hv,hgB,hh,r⟩
 ·exact Or.inl h2
 ·refine Or.inr ⟨g,cap,cur,hv,hgB,?_,r⟩;have f:=zQ hh;rw[i.block g (by simp;omega) (fun e=>d g (by rw[hv];rfl) e.symm)];rw[<-hh];exact((zI w.heap.size w).alloc (zB _) o).block g f
structure Zo (w wr:World) (k:Nat) (op sp:List Nat) (ov sv:Value):Prop where
 Fu:op.length<=k
 GS:sp.length<=k
 ops:∀o∈op,1<=o/\o<=k
 cf:wr.ownsRow w.heap.size 3 1 ov op.length (op.map iv)
 dx:wr.ownsRow w.heap.size 3 1 sv sp.length (sp.map iv)
 ne:∀g,ov.ownBlock=some g->¬sv.ownBlock=some g
 below:Below w.heap.size w wr
theorem Zo.step (h:Zo w wr k op sp ov sv):Zo w wr (k+1) op sp ov sv:=
 ⟨by have:=h.Fu;omega,by have:=h.GS;omega,fun o ho=>by have:=h.ops o ho;omega,h.cf,h.dx,h.ne,h.below⟩
theorem Zo.zP (h:Zo w wr k op sp ov sv) (d:Below wr.heap.size wr w2):Zo w w2 k op sp ov sv:=
 ⟨h.Fu,h.GS,h.ops,yG h.cf d,yG h.dx d,h.ne,h.below.trans (d.mono h.below.size)⟩
theorem Zo.CE {o:Obj} (h:Zo w wr k op sp ov sv) (f:w1.ownsRow w.heap.size 3 1 (.slice (some ⟨g',0,none⟩) (op.length+1) cap') (op.length+1) (op.map iv++[iv (k+1)])) (d:(wr.alloc o).grownBy w1 ov.ownBlock) (hat:ov.ownBlock=some g'\/g'=wr.heap.size+1):Zo w w1 (k+1) (op++[k+1]) sp (.slice (some ⟨g',0,none⟩) (op.length+1) cap') sv:=by
 refine⟨by have:=h.Fu;simp;omega,by have:=h.GS;omega,fun x hx=>?_,by rw[yB,ze];exact f,lP h.dx d (fun g hgg e=>h.ne g e hgg),fun g hgg e=>?_,qY h.below h.below.size h.cf d⟩
 ·simp at hx;rcases hx with hx | rfl
  ·have:=h.ops x hx;omega
  ·omega
 ·simp[Value.ownBlock]at hgg;subst hgg;rcases hat with hat | hat
  ·exact h.ne _ hat e
  ·have:=(h.dx.lt _ e).2;omega
theorem Zo.FQ {o:Obj} {q:Nat} (h:Zo w wr k op sp ov sv) (i:sp.length+1<=k+1) (f:w1.ownsRow w.heap.size 3 1 (.slice (some ⟨g',0,none⟩) (sp.length+1) cap') (sp.length+1) (sp.map iv++[iv q])) (d:(wr.alloc o).grownBy w1 sv.ownBlock) (hat:sv.ownBlock=some g'\/g'=wr.heap.size+1):Zo w w1 (k+1) op (sp++[q]) ov (.slice (some ⟨g',0,none⟩) (sp.length+1) cap'):=by
 refine⟨by have:=h.Fu;omega,by simp;omega,fun x hx=>by have:=h.ops x hx;omega,lP h.cf d h.ne,by rw[yB,ze];exact f,fun g hgg e=>?_,qY h.below h.below.size h.dx d⟩;simp[Value.ownBlock]at e;subst e;rcases hat with hat | hat
 ·exact h.ne _ hgg hat
 ·have:=(h.cf.lt _ hgg).2;omega
theorem Zo.Fs (h:Zo w wr k (pre++[o]) sp (.slice (some ⟨g,0,none⟩) (pre.length+1) cap) sv):Zo w wr k pre sp (.slice (some ⟨g,0,none⟩) pre.length cap) sv:=by
 refine⟨by have:=h.Fu;simp at this;omega,h.GS,fun x hx=>h.ops x (by simp[hx]),?_,h.dx,fun g' hg'=>h.ne g' hg',h.below⟩;have:=h.cf;rw[yB,ze]at this;exact ownsRow_pop (by simp) this
theorem Zo.popS (h:Zo w wr k op (pre++[o]) ov (.slice (some ⟨g,0,none⟩) (pre.length+1) cap)):Zo w wr k op pre ov (.slice (some ⟨g,0,none⟩) pre.length cap):=by
 refine⟨h.Fu,by have:=h.GS;simp at this;omega,h.ops,h.cf,?_,fun g' hg'=>h.ne g' hg',h.below⟩;have:=h.dx;rw[yB,ze]at this;exact ownsRow_pop (by simp) this
theorem XI (l:List Nat):l=[]\/∃pre o,l=pre++[o]:=by
 rcases ZC l with h | ⟨a,b,h⟩
 ·exact Or.inl h
 ·exact Or.inr ⟨a,b,by simpa using h⟩
theorem Jn:vQ (pre++[o])=o:=by simp[vQ]
theorem K6 (h:w.ownsRow B 3 1 v (pre++[o]).length ((pre++[o]).map iv)):∃g cap,v=.slice (some ⟨g,0,none⟩) (pre.length+1) cap/\pre.length+1<=cap/\w.cell? ⟨g,pre.length,none⟩=some (iv o):=by
 obtain⟨g,cap,f,_,_,i⟩:=yD h (j:=pre.length) (u:=iv o) (by simp);refine⟨g,cap,by simpa using f,?_,i⟩;rcases h.2 with⟨d,_⟩| ⟨g',cap',cur,d,_,_,hn,_⟩
 ·rw[f]at d;cases d
 ·rw[f]at d;simp at d;simp at hn;omega
def HF (x:ByteArray) (i:Nat):Prop:=(x.toList==[])=decide (i=0)/\(x.toList==[118,97,114])=decide (i=1)/\(x.toList==[97,114,114,97,121])=decide (i=2)/\(x.toList==[112,114,111,99])=decide (i=3)/\
 (x.toList==[105,102])=decide (i=4)/\(x.toList==[119,104,105,108,101])=decide (i=5)/\(x.toList==[101,108,115,101])=decide (i=6)/\(x.toList==[101,110,100])=decide (i=7)
theorem YG (x:ByteArray):∃i,i<=8/\HF x i:=by
 by_cases h0:x.toList=[]
 ·exact⟨0,by omega,by unfold HF;rw[h0];decide⟩
 by_cases h1:x.toList=[118,97,114]
 ·exact⟨1,by omega,by unfold HF;rw[h1];decide⟩
 by_cases h2:x.toList=[97,114,114,97,121]
 ·exact⟨2,by omega,by unfold HF;rw[h2];decide⟩
 by_cases h3:x.toList=[112,114,111,99]
 ·exact⟨3,by omega,by unfold HF;rw[h3];decide⟩
 by_cases h4:x.toList=[105,102]
 ·exact⟨4,by omega,by unfold HF;rw[h4];decide⟩
 by_cases h5:x.toList=[119,104,105,108,101]
 ·exact⟨5,by omega,by unfold HF;rw[h5];decide⟩
 by_cases h6:x.toList=[101,108,115,101]
 ·exact⟨6,by omega,by unfold HF;rw[h6];decide⟩
 by_cases h7:x.toList=[101,110,100]
 ·exact⟨7,by omega,by unfold HF;rw[h7];decide⟩
 ·refine⟨8,by omega,?_⟩;unfold HF;simp[h0,h1,h2,h3,h4,h5,h6,h7]
namespace Rf
theorem Vt {i:Nat} (h:k < ls.length) (o:HF (first ls[k]) i):nestFrom ls (ls.drop k) k op sp =
  if i=0 then nestFrom ls (ls.drop (k+1)) (k+1) op sp
  else if decide (i=1\/i=2\/i=3)=!decide (op.length=0)then k+1
  else if i=3\/i=4\/i=5 then nestFrom ls (ls.drop (k+1)) (k+1) (op++[k+1]) sp
  else if i=6 then (if ((first (xU ls (vQ op-1))).toList==[105,102])=false\/(0 < sp.length/\vQ sp=vQ op)then k+1 else nestFrom ls (ls.drop (k+1)) (k+1) op (sp++[vQ op]))
  else if i=7 then nestFrom ls (ls.drop (k+1)) (k+1) op.dropLast (if 0 < sp.length/\vQ sp=vQ op then sp.dropLast else sp)
  else nestFrom ls (ls.drop (k+1)) (k+1) op sp:=by
 obtain⟨G,F,D,d,A,z,y,x⟩:=o;rw[zZ h,nestFrom];have f:Xl ls[k]=decide (i=1\/i=2\/i=3):=by
  unfold Xl;rw[F,D,d,xO];simp[KV]
 have j:(kJ ls[k]=true)↔(i=3\/i=4\/i=5):=by
  unfold kJ;rw[d,A,z];simp[KV]
 rw[G,y,x,f];simp only[j,yS]
end Rf
theorem si (h:jA w S g cap ls) (hL:ls.length<=100):Calls Tryz.prog 82 #[.pointer (some ⟨S,0,none⟩)] w fun e w'=>e=.returned (.int .i64 (Rf.nested ls))/\Below w.heap.size w w':=by
 obtain⟨i0,V,N,M,L⟩:=yi eU;have HH:=zD h;clear h;go_enter func82,ntmps82;go_wp2;go_loopw [3,4,5] (fun ov sv i wr=>∃(k:Nat) (op sp:List Nat),k<=ls.length/\i=.int .i64 ((k:Int)+1)/\Rf.nestFrom ls (ls.drop k) k op sp=Rf.nested ls/\Zo w wr k op sp ov sv)
  (fun _ _ i _=>ls.length+1-(intOf i).toNat)
 case atStart=>exact⟨0,[],[],zo _,rfl,rfl,⟨by simp,by simp,by simp,zW _ _ _ _,zW _ _ _ _,by simp[Value.ownBlock],zI _ _⟩⟩
 case round=>
  obtain⟨k,op,sp,hk,rfl,hT,hn⟩:=hrel;have hs:=HH.u.zP hn.below;have cT:=hs.top;obtain⟨d6,a1,rfl⟩:=zK hn.cf;obtain⟨b0,I,rfl⟩:=zK hn.dx;have HN:=zD hn;have HS:=zD hs;by_cases hlt:k < ls.length
  ·have a6:(k:Int)+1<=(ls.length:Int):=by omega
   obtain⟨i,d4,d⟩:=YG (Rf.first ls[k]);rw[Vt hlt d]at hT;have HT:=zD hT;clear hT hs hn;go_wp2_with fail;refine(xz k HS.u hlt hL).mono ?_;rintro e w2 ⟨rfl,a8⟩;have T:=HN.u.zP a8;have HN2:=zD T;have a2:=T.Fu;have J:=T.GS;have d5:=T.below.size;clear a8 cT T;generalize Rf.first ls[k]=x at *;have hi9:i=0\/i=1\/i=2\/i=3\/i=4\/i=5\/i=6\/i=7\/i=8:=by omega
   clear d4;rcases hi9 with rfl | rfl | rfl | rfl | rfl | rfl | rfl | rfl | rfl
   ·have f0:(x.toList==[])=true:=d.1;have f1:(x.toList==[118,97,114])=false:=d.2.1;have f2:(x.toList==[97,114,114,97,121])=false:=d.2.2.1;have f3:(x.toList==[112,114,111,99])=false:=d.2.2.2.1;have f4:(x.toList==[105,102])=false:=d.2.2.2.2.1;have f5:(x.toList==[119,104,105,108,101])=false:=d.2.2.2.2.2.1;have f6:(x.toList==[101,108,115,101])=false:=d.2.2.2.2.2.2.1;have f7:(x.toList==[101,110,100])=false:=d.2.2.2.2.2.2.2;rw[zE rfl]at HT;go_wp2_with fail;go_roundw
    case rel=>exact⟨k+1,op,sp,by omega,by go_num,HT.u,HN2.u.step⟩
    case measure=>simp[intOf];omega
   ·have f0:(x.toList==[])=false:=d.1;have f1:(x.toList==[118,97,114])=true:=d.2.1;have f2:(x.toList==[97,114,114,97,121])=false:=d.2.2.1;have f3:(x.toList==[112,114,111,99])=false:=d.2.2.2.1;have f4:(x.toList==[105,102])=false:=d.2.2.2.2.1;have f5:(x.toList==[119,104,105,108,101])=false:=d.2.2.2.2.2.1;have f6:(x.toList==[101,108,115,101])=false:=d.2.2.2.2.2.2.1;have f7:(x.toList==[101,110,100])=false:=d.2.2.2.2.2.2.2;by_cases ho:op.length=0
    ·have j:((op.length:Int)==0)=true:=by rw[xw];omega
     rw[zA (by omega),zA (by simp[ho])]at HT;clear ho;rw[zA (by omega),zA (by omega),zA (by omega)]at HT;go_wp2_with fail;go_roundw
     case rel=>exact⟨k+1,op,sp,by omega,by go_num,HT.u,HN2.u.step⟩
     case measure=>simp[intOf];omega
    ·have j:((op.length:Int)==0)=false:=by rw[zV];omega
     rw[zA (by omega),zE (by simp[ho])]at HT;clear ho;go_wp2;go_ret;exact⟨by rw[<-HT.u];exact km (by omega),HN2.u.below⟩
   ·have f0:(x.toList==[])=false:=d.1;have f1:(x.toList==[118,97,114])=false:=d.2.1;have f2:(x.toList==[97,114,114,97,121])=true:=d.2.2.1;have f3:(x.toList==[112,114,111,99])=false:=d.2.2.2.1;have f4:(x.toList==[105,102])=false:=d.2.2.2.2.1;have f5:(x.toList==[119,104,105,108,101])=false:=d.2.2.2.2.2.1;have f6:(x.toList==[101,108,115,101])=false:=d.2.2.2.2.2.2.1;have f7:(x.toList==[101,110,100])=false:=d.2.2.2.2.2.2.2;by_cases ho:op.length=0
    ·have j:((op.length:Int)==0)=true:=by rw[xw];omega
     rw[zA (by omega),zA (by simp[ho])]at HT;clear ho;rw[zA (by omega),zA (by omega),zA (by omega)]at HT;go_wp2_with fail;go_roundw
     case rel=>exact⟨k+1,op,sp,by omega,by go_num,HT.u,HN2.u.step⟩
     case measure=>simp[intOf];omega
    ·have j:((op.length:Int)==0)=false:=by rw[zV];omega
     rw[zA (by omega),zE (by simp[ho])]at HT;clear ho;go_wp2;go_ret;exact⟨by rw[<-HT.u];exact km (by omega),HN2.u.below⟩
   ·have f0:(x.toList==[])=false:=d.1;have f1:(x.toList==[118,97,114])=false:=d.2.1;have f2:(x.toList==[97,114,114,97,121])=false:=d.2.2.1;have f3:(x.toList==[112,114,111,99])=true:=d.2.2.2.1;have f4:(x.toList==[105,102])=false:=d.2.2.2.2.1;have f5:(x.toList==[119,104,105,108,101])=false:=d.2.2.2.2.2.1;have f6:(x.toList==[101,108,115,101])=false:=d.2.2.2.2.2.2.1;have f7:(x.toList==[101,110,100])=false:=d.2.2.2.2.2.2.2;by_cases ho:op.length=0
    ·have j:((op.length:Int)==0)=true:=by rw[xw];omega
     rw[zA (by omega),zA (by simp[ho])]at HT;clear ho;rw[zE (by omega)]at HT;go_wp2_with (at_builtin;refine wpList_append_lies _ rfl (.tmp 46) (.tmp 48) 24 rfl w.heap.size 3 i0 _ 1 8 underlying24 V N M L rfl (by decide) _ _ _ rfl (HN2.u.cf.alloc _) ⟨_,0,none⟩ 1 1 [.int .i64 ((k:Int)+1)] rfl rfl (cell_one_new _ _ _) (by simp[Value.oneCell']) (by omega) (by unfold maxLen;omega) (by omega) (by simp;omega) _ rfl ?_);intro g' cap' w3 z f hat G;have HN3:=zD (HN2.u.CE (by exact z) f (by rcases hat with h | h;exact Or.inl h;exact Or.inr (by first | omega | (simp at h;omega))));clear z f hat G;go_wp2_with fail;go_roundw
     case rel=>exact⟨k+1,_,sp,by omega,by go_num,HT.u,HN3.u⟩
     case measure=>simp[intOf];omega
    ·have j:((op.length:Int)==0)=false:=by rw[zV];omega
     rw[zA (by omega),zE (by simp[ho])]at HT;clear ho;go_wp2;go_ret;exact⟨by rw[<-HT.u];exact km (by omega),HN2.u.below⟩
   ·have f0:(x.toList==[])=false:=d.1;have f1:(x.toList==[118,97,114])=false:=d.2.1;have f2:(x.toList==[97,114,114,97,121])=false:=d.2.2.1;have f3:(x.toList==[112,114,111,99])=false:=d.2.2.2.1;have f4:(x.toList==[105,102])=true:=d.2.2.2.2.1;have f5:(x.toList==[119,104,105,108,101])=false:=d.2.2.2.2.2.1;have f6:(x.toList==[101,108,115,101])=false:=d.2.2.2.2.2.2.1;have f7:(x.toList==[101,110,100])=false:=d.2.2.2.2.2.2.2;by_cases ho:op.length=0
    ·have j:((op.length:Int)==0)=true:=by rw[xw];omega
     rw[zA (by omega),zE (by simp[ho])]at HT;clear ho;go_wp2;go_ret;exact⟨by rw[<-HT.u];exact km (by omega),HN2.u.below⟩
    ·have j:((op.length:Int)==0)=false:=by rw[zV];omega
     rw[zA (by omega),zA (by simp[ho])]at HT;clear ho;rw[zE (by omega)]at HT;go_wp2_with (at_builtin;refine wpList_append_lies _ rfl (.tmp 46) (.tmp 48) 24 rfl w.heap.size 3 i0 _ 1 8 underlying24 V N M L rfl (by decide) _ _ _ rfl (HN2.u.cf.alloc _) ⟨_,0,none⟩ 1 1 [.int .i64 ((k:Int)+1)] rfl rfl (cell_one_new _ _ _) (by simp[Value.oneCell']) (by omega) (by unfold maxLen;omega) (by omega) (by simp;omega) _ rfl ?_);intro g' cap' w3 z f hat G;have HN3:=zD (HN2.u.CE (by exact z) f (by rcases hat with h | h;exact Or.inl h;exact Or.inr (by first | omega | (simp at h;omega))));clear z f hat G;go_wp2_with fail;go_roundw
     case rel=>exact⟨k+1,_,sp,by omega,by go_num,HT.u,HN3.u⟩
     case measure=>simp[intOf];omega
   ·have f0:(x.toList==[])=false:=d.1;have f1:(x.toList==[118,97,114])=false:=d.2.1;have f2:(x.toList==[97,114,114,97,121])=false:=d.2.2.1;have f3:(x.toList==[112,114,111,99])=false:=d.2.2.2.1;have f4:(x.toList==[105,102])=false:=d.2.2.2.2.1;have f5:(x.toList==[119,104,105,108,101])=true:=d.2.2.2.2.2.1;have f6:(x.toList==[101,108,115,101])=false:=d.2.2.2.2.2.2.1;have f7:(x.toList==[101,110,100])=false:=d.2.2.2.2.2.2.2;by_cases ho:op.length=0
    ·have j:((op.length:Int)==0)=true:=by rw[xw];omega
     rw[zA (by omega),zE (by simp[ho])]at HT;clear ho;go_wp2;go_ret;exact⟨by rw[<-HT.u];exact km (by omega),HN2.u.below⟩
    ·have j:((op.length:Int)==0)=false:=by rw[zV];omega
     rw[zA (by omega),zA (by simp[ho])]at HT;clear ho;rw[zE (by omega)]at HT;go_wp2_with (at_builtin;refine wpList_append_lies _ rfl (.tmp 46) (.tmp 48) 24 rfl w.heap.size 3 i0 _ 1 8 underlying24 V N M L rfl (by decide) _ _ _ rfl (HN2.u.cf.alloc _) ⟨_,0,none⟩ 1 1 [.int .i64 ((k:Int)+1)] rfl rfl (cell_one_new _ _ _) (by simp[Value.oneCell']) (by omega) (by unfold maxLen;omega) (by omega) (by simp;omega) _ rfl ?_);intro g' cap' w3 z f hat G;have HN3:=zD (HN2.u.CE (by exact z) f (by rcases hat with h | h;exact Or.inl h;exact Or.inr (by first | omega | (simp at h;omega))));clear z f hat G;go_wp2_with fail;go_roundw
     case rel=>exact⟨k+1,_,sp,by omega,by go_num,HT.u,HN3.u⟩
     case measure=>simp[intOf];omega
   ·have f0:(x.toList==[])=false:=d.1;have f1:(x.toList==[118,97,114])=false:=d.2.1;have f2:(x.toList==[97,114,114,97,121])=false:=d.2.2.1;have f3:(x.toList==[112,114,111,99])=false:=d.2.2.2.1;have f4:(x.toList==[105,102])=false:=d.2.2.2.2.1;have f5:(x.toList==[119,104,105,108,101])=false:=d.2.2.2.2.2.1;have f6:(x.toList==[101,108,115,101])=true:=d.2.2.2.2.2.2.1;have f7:(x.toList==[101,110,100])=false:=d.2.2.2.2.2.2.2;by_cases ho:op.length=0
    ·have j:((op.length:Int)==0)=true:=by rw[xw];omega
     rw[zA (by omega),zE (by simp[ho])]at HT;clear ho;go_wp2;go_ret;exact⟨by rw[<-HT.u];exact km (by omega),HN2.u.below⟩
    ·have j:((op.length:Int)==0)=false:=by rw[zV];omega
     rw[zA (by omega),zA (by simp[ho])]at HT;clear ho;rw[zA (by omega),zE rfl]at HT;obtain⟨pre,o,rfl⟩:∃pre o,op=pre++[o]:=by
      rcases XI op with h | h
      ·subst h;simp at j
      ·exact h
     have b7:=HN2.u.ops o (by simp);obtain⟨F,rfl⟩:∃F,o=F+1:=⟨o-1,by omega⟩;have a3:F < ls.length:=by omega
     obtain⟨g0,a9,Z,a5,cO⟩:=K6 HN2.u.cf;simp only[xJ]at Z;obtain⟨rfl,R,rfl⟩:=Z;rw[Jn]at HT;rw[R]at a2 j HN2 ⊢;clear R
     replace cO:w2.cell? ⟨g0,pre.length,none⟩=some (.int .i64 ((F:Int)+1)):=cO
     have HP:=zD (show ∀x:Nat,(pre++[x]).length=pre.length+1 by intro x;simp);have d1:=eI pre.length (by omega);have d2:=eJ pre.length (by omega);have d0:(pre.length:Int) < (pre.length:Int)+1:=by omega
     have c0:(0:Int)<=(pre.length:Int):=by omega
     have b9:(pre.length:Int)<=(a1:Int):=by omega
     go_wp2_with fail;refine(xz F (HH.u.zP HN2.u.below) a3 hL).mono ?_;rintro e w3 ⟨rfl,a7⟩;have HN3:=zD (HN2.u.zP a7);have b8:=HN3.u.below.size;rw[zu,yq a3]at HT;clear a7 cO;generalize Rf.first ls[F]=y at *;cases hy:(y.toList==[105,102])with
     | false=>
      rw[hy,zE (Or.inl rfl)]at HT;go_wp2;go_ret;exact⟨by rw[<-HT.u];exact km (by omega),HN3.u.below⟩
     | true=>
      rcases XI sp with rfl | ⟨ps,q,rfl⟩
      ·rw[hy,zA (by simp)]at HT;simp only[qQ]at J HN3 ⊢;have A:w3.ownsRow w.heap.size 3 1 (.slice b0 0 I) 0 []:=HN3.u.dx;go_wp2_with (at_builtin;refine wpList_append_lies _ rfl (.tmp 79) (.tmp 81) 24 rfl w.heap.size 3 i0 _ 1 8 underlying24 V N M L rfl (by decide) _ _ _ rfl (A.alloc _) ⟨_,0,none⟩ 1 1 [.int .i64 ((F:Int)+1)] rfl rfl (cell_one_new _ _ _) (by simp[Value.oneCell']) (by omega) (by unfold maxLen;omega) (by omega) (by simp;omega) _ rfl ?_);intro g' cap' w4 D f hat U;have HN4:=zD (HN3.u.FQ (q:=F+1) (g':=g') (cap':=cap') (by simp) (by exact D) f (by rcases hat with h | h;exact Or.inl h;exact Or.inr (by first | omega | (simp at h;omega))));clear D f hat U A;go_wp2_with fail;go_roundw
       case rel=>exact⟨k+1,_,_,by omega,by go_num,HT.u,by first | exact HN4.u | simpa using HN4.u⟩
       case measure=>simp[intOf];omega
      ·obtain⟨g1,cap1,W,a4,cS⟩:=K6 HN3.u.dx;simp only[xJ]at W;obtain⟨rfl,H,rfl⟩:=W;rw[Jn]at HT;rw[H]at J HN3 ⊢;have a0:=zD H;clear H
       replace cS:w3.cell? ⟨g1,ps.length,none⟩=some (.int .i64 (q:Int)):=cS
       have b5:=eI ps.length (by omega);have b6:=eJ ps.length (by omega);have b4:(ps.length:Int) < (ps.length:Int)+1:=by omega
       have b3:(0:Int)<=(ps.length:Int):=by omega
       have b2:(ps.length:Int)<=(I:Int):=by omega
       have b1:(0:Int) < (ps.length:Int)+1:=by omega
       by_cases hqo:q=F+1
       ·have O:((q:Int)==(F:Int)+1)=true:=by rw[xw];omega
        rw[zE (Or.inr ⟨by simp,hqo⟩)]at HT;clear hqo;go_wp2;go_ret;exact⟨by rw[<-HT.u];exact km (by omega),HN3.u.below⟩
       ·have O:((q:Int)==(F:Int)+1)=false:=by rw[zV];omega
        rw[hy,zA (by simp[hqo])]at HT;clear hqo;have A:w3.ownsRow w.heap.size 3 1 (.slice (some ⟨g1,0,none⟩) (ps.length+1) I) (ps.length+1) ((ps++[q]).map iv):=by
         have:=HN3.u.dx;rw[a0.u]at this;exact this
        go_wp2_with (at_builtin;refine wpList_append_lies _ rfl (.tmp 79) (.tmp 81) 24 rfl w.heap.size 3 i0 _ 1 8 underlying24 V N M L rfl (by decide) _ _ _ rfl (A.alloc _) ⟨_,0,none⟩ 1 1 [.int .i64 ((F:Int)+1)] rfl rfl (cell_one_new _ _ _) (by simp[Value.oneCell']) (by omega) (by unfold maxLen;omega) (by omega) (by simp;omega) _ rfl ?_);intro g' cap' w4 D f hat U;have HN4:=zD (HN3.u.FQ (q:=F+1) (g':=g') (cap':=cap') (by rw[a0.u];omega) (by rw[a0.u,yB,yK];exact D) f (by rcases hat with h | h;exact Or.inl h;exact Or.inr (by first | omega | (simp at h;omega))));rw[a0.u]at HN4;clear D f hat U A;go_wp2_with fail;go_roundw
        case rel=>exact⟨k+1,_,_,by omega,by go_num,HT.u,by first | exact HN4.u | simpa using HN4.u⟩
        case measure=>simp[intOf];omega
   ·have f0:(x.toList==[])=false:=d.1;have f1:(x.toList==[118,97,114])=false:=d.2.1;have f2:(x.toList==[97,114,114,97,121])=false:=d.2.2.1;have f3:(x.toList==[112,114,111,99])=false:=d.2.2.2.1;have f4:(x.toList==[105,102])=false:=d.2.2.2.2.1;have f5:(x.toList==[119,104,105,108,101])=false:=d.2.2.2.2.2.1;have f6:(x.toList==[101,108,115,101])=false:=d.2.2.2.2.2.2.1;have f7:(x.toList==[101,110,100])=true:=d.2.2.2.2.2.2.2;by_cases ho:op.length=0
    ·have j:((op.length:Int)==0)=true:=by rw[xw];omega
     rw[zA (by omega),zE (by simp[ho])]at HT;clear ho;go_wp2;go_ret;exact⟨by rw[<-HT.u];exact km (by omega),HN2.u.below⟩
    ·have j:((op.length:Int)==0)=false:=by rw[zV];omega
     rw[zA (by omega),zA (by simp[ho])]at HT;clear ho;rw[zA (by omega),zA (by omega),zE rfl]at HT;obtain⟨pre,o,rfl⟩:∃pre o,op=pre++[o]:=by
      rcases XI op with h | h
      ·subst h;simp at j
      ·exact h
     have b7:=HN2.u.ops o (by simp);obtain⟨F,rfl⟩:∃F,o=F+1:=⟨o-1,by omega⟩;have a3:F < ls.length:=by omega
     obtain⟨g0,a9,Z,a5,cO⟩:=K6 HN2.u.cf;simp only[xJ]at Z;obtain⟨rfl,R,rfl⟩:=Z;rw[Jn]at HT;rw[R]at a2 j HN2 ⊢;clear R
     replace cO:w2.cell? ⟨g0,pre.length,none⟩=some (.int .i64 ((F:Int)+1)):=cO
     have HP:=zD (show ∀x:Nat,(pre++[x]).length=pre.length+1 by intro x;simp);have d1:=eI pre.length (by omega);have d2:=eJ pre.length (by omega);have d0:(pre.length:Int) < (pre.length:Int)+1:=by omega
     have c0:(0:Int)<=(pre.length:Int):=by omega
     have b9:(pre.length:Int)<=(a1:Int):=by omega
     rw[xo]at HT;rcases XI sp with rfl | ⟨ps,q,rfl⟩
     ·rw[zA (by simp)]at HT;simp only[qQ]at J HN2 ⊢;have HNP:=zD (HN2.u.step.Fs);go_wp2_with fail;go_roundw
      case rel=>exact⟨k+1,pre,[],by omega,by go_num,HT.u,HNP.u⟩
      case measure=>simp[intOf];omega
     ·obtain⟨g1,cap1,W,a4,cS⟩:=K6 HN2.u.dx;simp only[xJ]at W;obtain⟨rfl,H,rfl⟩:=W;rw[Jn]at HT;rw[H]at J HN2 ⊢;have a0:=zD H;clear H
      replace cS:w2.cell? ⟨g1,ps.length,none⟩=some (.int .i64 (q:Int)):=cS
      have b5:=eI ps.length (by omega);have b6:=eJ ps.length (by omega);have b4:(ps.length:Int) < (ps.length:Int)+1:=by omega
      have b3:(0:Int)<=(ps.length:Int):=by omega
      have b2:(ps.length:Int)<=(I:Int):=by omega
      have b1:(0:Int) < (ps.length:Int)+1:=by omega
      by_cases hqo:q=F+1
      ·have O:((q:Int)==(F:Int)+1)=true:=by rw[xw];omega
       rw[zE ⟨by simp,hqo⟩,xo]at HT;clear hqo;have HNP:=zD (HN2.u.step.Fs.popS);go_wp2_with fail;go_roundw
       case rel=>exact⟨k+1,pre,ps,by omega,by go_num,HT.u,HNP.u⟩
       case measure=>simp[intOf];omega
      ·have O:((q:Int)==(F:Int)+1)=false:=by rw[zV];omega
       rw[zA (by simp[hqo])]at HT;clear hqo;have HNP:=zD (HN2.u.step.Fs);go_wp2_with fail;go_roundw
       case rel=>exact⟨k+1,pre,_,by omega,by go_num,HT.u,HNP.u⟩
       case measure=>simp[intOf];omega
   ·have f0:(x.toList==[])=false:=d.1;have f1:(x.toList==[118,97,114])=false:=d.2.1;have f2:(x.toList==[97,114,114,97,121])=false:=d.2.2.1;have f3:(x.toList==[112,114,111,99])=false:=d.2.2.2.1;have f4:(x.toList==[105,102])=false:=d.2.2.2.2.1;have f5:(x.toList==[119,104,105,108,101])=false:=d.2.2.2.2.2.1;have f6:(x.toList==[101,108,115,101])=false:=d.2.2.2.2.2.2.1;have f7:(x.toList==[101,110,100])=false:=d.2.2.2.2.2.2.2;by_cases ho:op.length=0
    ·have j:((op.length:Int)==0)=true:=by rw[xw];omega
     rw[zA (by omega),zE (by simp[ho])]at HT;clear ho;go_wp2;go_ret;exact⟨by rw[<-HT.u];exact km (by omega),HN2.u.below⟩
    ·have j:((op.length:Int)==0)=false:=by rw[zV];omega
     rw[zA (by omega),zA (by simp[ho])]at HT;clear ho;rw[zA (by omega),zA (by omega),zA (by omega)]at HT;go_wp2_with fail;go_roundw
     case rel=>exact⟨k+1,op,sp,by omega,by go_num,HT.u,HN2.u.step⟩
     case measure=>simp[intOf];omega
  ·have a6:¬(k:Int)+1<=(ls.length:Int):=by omega
   rw[zp (by omega),Rf.nestFrom]at hT;have HT:=zD hT;clear hT;have d3:k=ls.length:=by omega
   by_cases ho:op.length=0
   ·have j:¬(0:Int) < (op.length:Int):=by omega
    rw[zE ho]at HT;go_wp2;go_ret;exact⟨by rw[<-HT.u];rfl,HN.u.below⟩
   ·have j:(0:Int) < (op.length:Int):=by omega
    rw[zA ho]at HT;subst d3;go_wp2;go_ret;exact⟨by rw[<-HT.u];rfl,HN.u.below⟩
namespace Rf
theorem K9 (ls:List (List ByteArray)) (n:Nat) (h:0 < home ls n):0 < home ls (n+1):=by
 rw[Xy];split <;> omega
theorem Xv {ls:List (List ByteArray)}:∀(f k:Nat) (op sp:List Nat),ls.length-k=f->nestFrom ls (ls.drop k) k op sp=0->(0 < op.length->0 < home ls k)->
  ∀l (hl:l < ls.length),k<=l->Xl ls[l]=false->((first ls[l]).toList==[])=false->0 < home ls (l+1)
 | 0,k,op,sp,hf,_,_,l,hl,hkl,_,_=>by omega
 | f+1,k,op,sp,hf,h,ho,l,hl,hkl,ht,he=>by
  have j:k < ls.length:=by omega
  obtain⟨i,A,o⟩:=YG (first ls[k]);rw[Vt j o]at h;obtain⟨f0,z,y,x,H,G,F,D⟩:=o;by_cases hlk:l=k
  ·subst hlk;have i0:¬i=0:=by intro e;rw[e]at f0;rw[he]at f0;cases f0
   have i3:¬(i=1\/i=2\/i=3):=by
    rintro (e | e | e) <;> subst e <;> unfold Xl at ht
    ·rw[z]at ht;simp at ht
    ·rw[y]at ht;simp at ht
    ·rw[x]at ht;simp at ht
   rw[zA i0]at h;by_cases h0:op.length=0
   ·rw[zE (by simp[i3,h0])]at h;omega
   ·exact K9 ls l (ho (by omega))
  ·have d:k+1<=l:=by omega
   by_cases i0:i=0
   ·rw[zE i0]at h;exact Xv f (k+1) op sp (by omega) h (fun h'=>K9 ls k (ho h')) l hl d ht he
   rw[zA i0]at h;by_cases hc:decide (i=1\/i=2\/i=3)=!decide (op.length=0)
   ·rw[zE hc]at h;omega
   rw[zA hc]at h;by_cases i3:i=3\/i=4\/i=5
   ·rw[zE i3]at h;refine Xv f (k+1) _ sp (by omega) h (fun _=>?_) l hl d ht he;by_cases e3:i=3
    ·rw[Xy,yq j,zE (by rw[x];simp[e3])];omega
    ·have:¬op.length=0:=by
      intro h0;apply hc;have:¬(i=1\/i=2\/i=3):=by omega
      simp[this,h0]
     exact K9 ls k (ho (by omega))
   rw[zA i3]at h;by_cases i6:i=6
   ·rw[zE i6]at h;split at h
    ·omega
    ·exact Xv f (k+1) op _ (by omega) h (fun h'=>K9 ls k (ho h')) l hl d ht he
   rw[zA i6]at h;by_cases i7:i=7
   ·rw[zE i7]at h;refine Xv f (k+1) _ _ (by omega) h (fun h'=>K9 ls k (ho ?_)) l hl d ht he;rw[XU]at h';omega
   rw[zA i7]at h;exact Xv f (k+1) op sp (by omega) h (fun h'=>K9 ls k (ho h')) l hl d ht he
theorem dc (h:nested ls=0) {l:Nat} (f:l < ls.length) (d:Xl ls[l]=false) (i:((first ls[l]).toList==[])=false):0 < home ls (l+1):=
 Xv ls.length 0 [] [] (by omega) h (by simp) l f (by omega) d i
def formsFrom:Nat->List ByteArray->List (List ByteArray)->Nat×List (List ByteArray)
 | _,[],acc=>(0,acc)
 | i,s::r,acc=>
  match Rt.yY s with
  | none=>(i+1,acc)
  | some ts=>if xM (tx ts)=true then formsFrom (i+1) r (acc++[tx ts])else (i+1,acc)
def rightFrom (ls:List (List ByteArray)):Nat->Nat->Nat
 | 0,_=>0
 | f+1,k=>if jZ ls k (xU ls k)=true then rightFrom ls f (k+1)else k+1
def Yk:ByteArray:=⟨#[109,97,105,110]⟩
def jV (ls:List (List ByteArray)):Int×Int×List (List ByteArray):=
 if decl ls Yk=0 then (4,0,[])
 else if ((first (xU ls (decl ls Yk-1))).toList==[112,114,111,99])=false then (4,0,[])
 else (0,0,ls)
def Xu (ls:List (List ByteArray)):Int×Int×List (List ByteArray):=
 if ¬nested ls=0 then (3,nested ls,[])
 else if ¬rightFrom ls ls.length 0=0 then (4,rightFrom ls ls.length 0,[])
 else jV ls
def vP (s:ByteArray):Int×Int×List (List ByteArray):=
 if 40000 < s.size then (1,0,[])
 else if 100 < (Rt.lines s).length then (1,0,[])
 else if ¬(formsFrom 0 (Rt.lines s) []).1=0 then (2,(formsFrom 0 (Rt.lines s) []).1,[])
 else Xu (formsFrom 0 (Rt.lines s) []).2
end Rf
theorem GA {s:ByteArray} {ts:List Rt.Tk} (f:s.size<=40000) (h:Rt.yY s=some ts):Y8 (Rf.tx ts):=by
 obtain⟨j,i⟩:=Rt.JY f h;refine⟨by simp[Rf.tx];omega,fun x hx=>?_⟩;simp[Rf.tx]at hx;obtain⟨t,d,rfl⟩:=hx;exact i t d
structure bo (ls:List (List ByteArray)):Prop where
 VJ:∀t∈ls,Y8 t
 line:∀t∈ls,xM t=true
theorem bo.lawful (h:bo ls) (d:ls.length<=100):Lawful ls:=⟨d,h.VJ,fun t ht htop=>D3 (h.line t ht) htop⟩
theorem bo.snoc (h:bo ls) (f:Y8 t) (d:xM t=true):bo (ls++[t]):=
 ⟨fun u hu=>by simp at hu;rcases hu with hu | rfl;exact h.VJ u hu;exact f,fun u hu=>by simp at hu;rcases hu with hu | rfl;exact h.line u hu;exact d⟩
theorem bo.F6 (h:bo ls) (f:Rf.nested ls=0) (l:Nat) (hl:l < ls.length):nh ls l hl:=by
 refine⟨fun ht i hi _=>dc f hl ht ?_,fun hc=>Da (h.line _ (zj hl)) hc⟩;cases he:((Rf.first ls[l]).toList==[])with
 | false=>rfl
 | true=>
  exfalso;rw[gT (by omega),xw]at he;have d:=h.line _ (zj hl);rw[QT (by omega),gT (by omega),he]at d;simp[Rf.isKind]at d
def aA (w:World) (B:Nat) (vs:List Value) (ls:List (List ByteArray)):Prop:=vs.length=ls.length/\∀j (h:j < ls.length),∃v,vs[j]?=some v/\w.ownsRow B 9 1 v ls[j].length (ls[j].map Value.string)
structure ng (w:World) (S:Nat) (ls:List (List ByteArray)) (lv:Value) (vs:List Value):Prop where
 block:w.heap[S]?=some (.cells #[lv] 85 (0,0))
 own:w.ownsRow (S+1) 87 1 lv ls.length vs
 lines:aA w (S+1) vs ls
theorem aA.map (h:aA w B vs ls) (d:∀(n:Nat) (v:Value) (xs:List Value),w.ownsRow B 9 1 v n xs->w'.ownsRow B 9 1 v n xs):aA w' B vs ls:=
 ⟨h.1,fun j hj=>let ⟨v,h1,h2⟩:=h.2 j hj;⟨v,h1,d _ _ _ h2⟩⟩
theorem aA.snoc (h:aA w B vs ls) {u:List ByteArray} (k:w.ownsRow B 9 1 v u.length (u.map Value.string)):aA w B (vs++[v]) (ls++[u]):=by
 refine⟨by simp[h.1],fun j hj=>?_⟩;by_cases d:j < ls.length
 ·obtain⟨i,x,o⟩:=h.2 j d;exact⟨i,by rw[yp (by rw[h.1];exact d)];exact x,by rw[xI d];exact o⟩
 ·have f:j=ls.length:=by simp at hj;omega
  subst f;exact⟨v,by rw[yU (by rw[h.1];exact zB _),h.1];simp,by simpa using k⟩
theorem ng.zP (h:ng w S ls lv vs) (d:Below w.heap.size w w'):ng w' S ls lv vs:=
 ⟨zU h.block d,yG h.own d,h.lines.map (fun _ _ _ h=>yG h d)⟩
theorem ng.push {lv':Value} (h:ng w S ls lv vs) (hv:w.ownsRow (S+1) 9 1 v t.length (t.map Value.string)) (o:Below w.heap.size w w1) (y:w2.ownsRow (S+1) 87 1 lv' (ls.length+1) (vs++[v])) (d:w1.grownBy w2 lv.ownBlock):ng (w2.setCell ⟨S,0,none⟩ lv') S (ls++[t]) lv' (vs++[v])/\Below S w (w2.setCell ⟨S,0,none⟩ lv')/\∀(B n:Nat) (u:Value) (xs:List Value),S+1<=B->w.ownsRow B 9 1 u n xs->(w2.setCell ⟨S,0,none⟩ lv').ownsRow B 9 1 u n xs:=by
 have z:=zQ h.block;have j:∀k,lv.ownBlock=some k->S < k:=fun k hk=>by have:=(h.own.lt k hk).1;omega
 have f:∀k,k < w.heap.size->some k≠lv.ownBlock->w2.heap[k]?=w.heap[k]?:=fun k hk hv=>by
  rw[d.block k (zX hk o.size) hv];exact o.block k hk
 have i:∀k,k≠S->(w2.setCell ⟨S,0,none⟩ lv').heap[k]?=w2.heap[k]?:=fun k hk=>zO w2 ⟨S,0,none⟩ _ k hk;have G:∀(B n:Nat) (u:Value) (xs:List Value),S+1<=B->w.ownsRow B 9 1 u n xs->(w2.setCell ⟨S,0,none⟩ lv').ownsRow B 9 1 u n xs:=by
  intro B n u xs I A;have D:=Ys A h.own (by decide);obtain⟨H,h2⟩:=A;refine⟨H,?_⟩;rcases h2 with h2 | ⟨g,cap,cur,x,hg,hh,r⟩
  ·exact Or.inl h2
  ·exact Or.inr ⟨g,cap,cur,x,hg,by rw[i g (by omega),f g (zQ hh) (fun e=>D g (by rw[x];rfl) e.symm)];exact hh,r⟩
 refine⟨⟨?_,?_,(h.lines.map (fun n u xs A=>G _ n u xs (zB _) A)).snoc (G _ _ _ _ (zB _) hv)⟩,?_,G⟩
 ·have F:w2.heap[S]?=some (.cells #[lv] 85 (0,0)):=(f S z (fun e=>by have:=j S e.symm;omega)).trans h.block;have:=zf F 0 lv';simpa using this
 ·rw[ze];exact qL y (by show S < S+1;omega) _
 ·refine⟨d.os.trans o.os,d.tape.trans o.tape,d.output.trans o.output,?_,fun k hk=>(i k (by omega)).trans (f k (by omega) (fun e=>by have:=j k e.symm;omega))⟩;have H:=d.size;have h2:=o.size;simp[World.setCell];omega
theorem EA (d:w.heap[S]?=some (.cells #[lv] 85 (0,0))) (i:Below w.heap.size w w1) (f:w1.grownBy w2 row) (j:row≠some S):w2.cell? ⟨S,0,none⟩=some lv/\w2.frozen? ⟨S,0,none⟩=false:=by
 have h:w2.heap[S]?=some (.cells #[lv] 85 (0,0)):=by
  rw[f.block S (zX (zQ d) i.size) (xK j),i.block S (zQ d)];exact d
 exact⟨zC h 0 (by simp),zS h 0⟩
theorem ng.toG (h:ng w S ls lv vs) (j:0 < ls.length):∃g cap,lv=.slice (some ⟨g,0,none⟩) ls.length cap/\jA w S g cap ls:=by
 obtain⟨z,x,_⟩:=h.lines.2 0 j;obtain⟨g,cap,f,_,_,_⟩:=yD h.own x;refine⟨g,cap,f,?_,fun l hl=>?_,⟨⟨_,h.block⟩,yW h.own (by rw[f];rfl)⟩,fun l v hv hl b hb=>?_⟩
 ·have:=zC h.block 0 (by simp);simp at this;rw[this,f]
 ·obtain⟨v,o,i⟩:=h.lines.2 l hl;obtain⟨g',cap',d,_,_,k⟩:=yD h.own o;rw[f]at d;simp at d;obtain⟨y,c,rfl⟩:=zK i;rw[d.1];exact⟨y,c,k,QA i⟩
 ·obtain⟨u,o,i⟩:=h.lines.2 l hl;obtain⟨g',cap',d,_,_,k⟩:=yD h.own o;rw[f]at d;simp at d;rw[d.1,k]at hv;injection hv with hv;subst hv;exact yW i hb
end Go.Proofs.YthleadfkfnnadaaGreat
