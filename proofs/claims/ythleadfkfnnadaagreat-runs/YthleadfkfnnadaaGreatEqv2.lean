/- The document's answer on expressions is the grammar. -/
import Derived.Test.YthleadfkfnnadaaGreatRows
import Derived.Test.YthleadfkfnnadaaGreatChecked
import Derived.ProofKit
import Derived.OpenShut
import Derived.SizedLaws
import Derived.Carry
import Derived.Deep.Slices
import Derived.Test.YthleadfkfnnadaaGreatLwE
import Derived.Test.YthleadfkfnnadaaGreatRef1
set_option maxHeartbeats 4000000
set_option maxRecDepth 100000
namespace Go.Proofs.YthleadfkfnnadaaGreat
open Go.ChangeShapes Go.WideShapes Go.ChangeAt Go.RowKit
theorem Tryz.own:ownKnob Tryz.prog.godebug=none:=by kernel_rfl
theorem Tryz.laidOut:laidOutB Tryz.prog=true:=by kernel_rfl
theorem Tryz.bytesOp:Tryz.prog.bytesOf 32=72:=by kernel_rfl
theorem Tryz.bytesInt:Tryz.prog.bytesOf 3=8:=by kernel_rfl
theorem Tryz.zNt:Tryz.prog.cellsOf 3=1:=by kernel_rfl
theorem Tryz.cellsStr:Tryz.prog.cellsOf 9=1:=by kernel_rfl
theorem Tryz.zQz:Tryz.prog.cellsOf 24=1:=by kernel_rfl
theorem Tryz.zPf:Tryz.prog.cellsOf 32=6:=by kernel_rfl
theorem ints_in {H:Type} {enc:TypeId×Value→H} {W:World} {base:Nat} {spare:Nat→Bool} {held:Bool} {n:Nat} {cs:List Value} {x:DataW H×List MemPlace} (h:DataW.trod enc Tryz.prog W base spare held n 24 cs=some x) (hw:(x.1.weights Tryz.prog 24).all (·≤reachBytes)=true) :
  ∃v xs,cs=[v]∧zBP W v xs∧xs.length≤17592186044416:=by
 rcases Go.Deep.open_slice1 Tryz.underlying24 Tryz.zNt h with⟨rfl,_⟩| ⟨a,len,cap,m,n,V,D,Pl,rfl,_,hl,hm,hmm,hx,hcells⟩
 ·exact⟨_,[],rfl,⟨none,0,rfl,Or.inl rfl⟩,by simp⟩
 ·have hlm:len≤m:=by rw[hmm];split <;> omega
  obtain⟨f,hfo⟩:=Go.Deep.choose_lt (α:=Int) (n:=m) (p:=fun i k=>W.cell? (a.add i)=some (.int .i64 k)) (fun i hi=>by
   obtain⟨h1,h2⟩:=hcells i hi
   obtain⟨k,hk,_,_⟩:=DataW.trod_int Tryz.underlying3 h2
   simp at hk
   rw[hk]at h1
   exact⟨k,h1⟩)
  refine⟨_,(List.range len).map f,rfl,⟨some a,cap,by simp,?_⟩,?_⟩
  ·by_cases hl0:len=0
   ·subst hl0;exact Or.inl rfl
   ·obtain⟨b,off,spot⟩:=a
    have hspot:spot=none:=by
     have:=World.cell?_spot (hfo 0 (by omega))
     simpa[Addr.add] using this
    subst hspot
    refine Or.inr ⟨b,off,rfl,fun j hj=>?_⟩
    simp at hj
    simp only[List.getElem_map,List.getElem_range]
    have:=hfo j (by omega)
    rw[show (⟨b,off,none⟩:Addr).add j=⟨b,off+j,none⟩ by simp[Addr.add]]at this
    exact this
  ·rw[hx]at hw
   unfold DataW.weights at hw
   rw[Tryz.underlying24]at hw
   simp only[List.all_cons,Bool.and_eq_true,decide_eq_true_eq,List.length_map,List.length_range,Tryz.bytesInt]at hw
   have:=reachBytes_lt
   have:=hw.1
   simp
   omega
theorem six_op (cs:List Value) (k a b c:Int) (s:ByteArray) (v:Value) (hl:cs.length=6) (h0:(cs.drop 0).take 1=[.int .i64 k]) (h1:(cs.drop 1).take 1=[.int .i64 a]) (h2:(cs.drop 2).take 1=[.int .i64 b]) (h3:(cs.drop 3).take 1=[.int .i64 c]) (h4:(cs.drop 4).take 1=[.string s]) (h5:(cs.drop 5).take 1=[v]) :
  cs=[.int .i64 k,.int .i64 a,.int .i64 b,.int .i64 c,.string s,v]:=by
 match cs,hl with
 | [c0,c1,c2,c3,c4,c5],_=>simp_all
def OpOK (w:World) (op:OpE):Prop:=op.s.size≤maxLen∧(zBP w op.v op.l∧op.l.length≤17592186044416)∧(-9223372036854775808≤op.a∧op.a≤9223372036854775807)∧(-9223372036854775808≤op.b∧op.b≤9223372036854775807)∧(-9223372036854775808≤op.c∧op.c≤9223372036854775807)
theorem op_in {H:Type} {enc:TypeId×Value→H} {w:World} {base:Nat} {spare:Nat→Bool} {held:Bool} {n:Nat} {cs:List Value} {x:DataW H×List MemPlace} (h:DataW.trod enc Tryz.prog w base spare held n 32 cs=some x) (hw:(x.1.weights Tryz.prog 32).all (·≤reachBytes)=true) :
  ∃op:OpE,cs=[.int .i64 op.kind,.int .i64 op.a,.int .i64 op.b,.int .i64 op.c,.string op.s,op.v]∧OpOK w op:=by
 obtain⟨xs,m,rfl,hxe,hl,hxs,hf⟩:=DataW.trod_struct Tryz.underlying32 h
 rw[Tryz.zPf]at hl
 have hx6:xs.length=6:=hxs
 have get:∀i (hi:i < 6),xs[i]?=some xs[i]:=fun i hi=>List.getElem?_eq_getElem (by omega)
 have i0:DataW.trod enc Tryz.prog w base spare held m 3 ((cs.drop 0).take (Tryz.prog.cellsOf 3))=xs[0]?:=hf 0 _ rfl
 have i1:DataW.trod enc Tryz.prog w base spare held m 3 ((cs.drop 1).take (Tryz.prog.cellsOf 3))=xs[1]?:=hf 1 _ rfl
 have i2:DataW.trod enc Tryz.prog w base spare held m 3 ((cs.drop 2).take (Tryz.prog.cellsOf 3))=xs[2]?:=hf 2 _ rfl
 have i3:DataW.trod enc Tryz.prog w base spare held m 3 ((cs.drop 3).take (Tryz.prog.cellsOf 3))=xs[3]?:=hf 3 _ rfl
 have i4:DataW.trod enc Tryz.prog w base spare held m 9 ((cs.drop 4).take (Tryz.prog.cellsOf 9))=xs[4]?:=hf 4 _ rfl
 have i5:DataW.trod enc Tryz.prog w base spare held m 24 ((cs.drop 5).take (Tryz.prog.cellsOf 24))=xs[5]?:=hf 5 _ rfl
 rw[Tryz.zNt,get _ (by omega)]at i0 i1 i2 i3
 rw[Tryz.cellsStr,get _ (by omega)]at i4
 rw[Tryz.zQz,get _ (by omega)]at i5
 obtain⟨k,k0,_⟩:=DataW.trod_int Tryz.underlying3 i0
 obtain⟨a,a0,_,ab⟩:=DataW.trod_int Tryz.underlying3 i1
 obtain⟨b,b0,_,bb⟩:=DataW.trod_int Tryz.underlying3 i2
 obtain⟨c,c0,_,cb⟩:=DataW.trod_int Tryz.underlying3 i3
 obtain⟨s,s0,_,hss⟩:=DataW.trod_string Tryz.underlying9 i4
 obtain⟨v,l,v0,hv,hvl⟩:=ints_in i5 (by
  rw[hxe]at hw
  unfold DataW.weights at hw
  rw[Tryz.underlying32]at hw
  rw[List.all_eq_true]at hw ⊢
  intro q hq
  exact hw q (DataW.weights_mem_each (j:=5) (t:=24) (d:=xs[5].1) rfl (by rw[List.getElem?_map,get 5 (by omega)];rfl) q hq))
 exact⟨⟨k,a,b,c,s,v,l⟩,six_op cs k a b c s v hl k0 a0 b0 c0 s0 v0,hss,⟨hv,hvl⟩,bounds_i64 ab,bounds_i64 bb,bounds_i64 cb⟩
theorem zIV {H:Type} {e:TypeId}:∀{ds:List (DataW H)} {d:DataW H},d∈ds→∀q∈d.weights Tryz.prog e,q∈DataW.weightsAll Tryz.prog e ds
 | [],_,h,_,_=>by simp at h
 | a::r,d,h,q,hq=>by
  unfold DataW.weightsAll
  rcases List.mem_cons.mp h with rfl | h
  ·exact List.mem_append_left _ hq
  ·exact List.mem_append_right _ (zIV h q hq)
theorem scr_in {H:Type} {enc:TypeId×Value→H} {W:World} {a0:Option Addr} {len cap:Nat} {d0:DataW H} {p:List MemPlace} (h0:DataW.Trod enc Tryz.prog W 0 (fun _=>true) true 22 (.slice a0 len cap) d0 p) (hw:(d0.weights Tryz.prog 22).all (·≤reachBytes)=true) :
  ∃ops,ScrE W (.slice a0 len cap) ops∧ops.length=len∧len*72≤140737488351232:=by
 obtain⟨fuel,hf⟩:=h0
 rcases Go.Deep.open_slice Tryz.underlying22 hf with⟨hcs,hx⟩| ⟨a,len',cap',m,n,D,Pl,hcs,_,hl,hm,hmm,hx,hcells⟩
 ·simp[Value.cells]at hcs
  obtain⟨rfl,rfl,rfl⟩:=hcs
  exact⟨[],⟨⟨none,0,rfl,Or.inl rfl⟩,by simp,by simp,by simp⟩,rfl,by omega⟩
 ·simp[Value.cells]at hcs
  obtain⟨rfl,rfl,rfl⟩:=hcs
  simp only[Prod.mk.injEq]at hx
  obtain⟨hd,_⟩:=hx
  simp only[if_true]at hmm
  subst hmm
  rw[hd]at hw
  unfold DataW.weights at hw
  rw[Tryz.underlying22]at hw
  simp only[List.all_cons,Bool.and_eq_true,decide_eq_true_eq,List.length_map,List.length_range,Tryz.bytesOp]at hw
  obtain⟨hw1,hw2⟩:=hw
  rw[List.all_eq_true]at hw2
  rw[Tryz.zPf]at hcells
  haveI:Inhabited OpE:=⟨⟨0,0,0,0,⟨#[]⟩,.bool false,[]⟩⟩
  obtain⟨f,hfo⟩:=Go.Deep.choose_lt (α:=OpE) (n:=len) (p:=fun i op=>OpOK W op∧W.cell? (a.add (i*6))=some (.int .i64 op.kind)∧W.cell? (a.add (i*6+1))=some (.int .i64 op.a)∧W.cell? (a.add (i*6+2))=some (.int .i64 op.b)∧W.cell? (a.add (i*6+3))=some (.int .i64 op.c)∧W.cell? (a.add (i*6+4))=some (.string op.s)∧W.cell? (a.add (i*6+5))=some op.v) (fun i hi=>by
   obtain⟨cs',h1,h2⟩:=hcells i (by omega)
   obtain⟨op,hcs',hok⟩:=op_in h2 (by
    rw[List.all_eq_true]
    intro q hq
    exact hw2 q (List.mem_append_left _ (zIV (List.mem_map.mpr ⟨i,by simpa using hi,rfl⟩) q hq)))
   obtain⟨_,_,hce⟩:=World.cells?_some h1
   subst hcs'
   have e:∀j,(a.add (i*6)).add j=a.add (i*6+j):=fun j=>Go.Deep.add_add a (i*6) j
   exact⟨op,hok,by have:=hce 0 (by omega);rw[e]at this;simpa using this,by have:=hce 1 (by omega);rw[e]at this;simpa using this,by have:=hce 2 (by omega);rw[e]at this;simpa using this,by have:=hce 3 (by omega);rw[e]at this;simpa using this,by have:=hce 4 (by omega);rw[e]at this;simpa using this,by have:=hce 5 (by omega);rw[e]at this;simpa using this⟩)
  have each:∀op∈(List.range len).map f,OpOK W op:=fun op hop=>by
   simp at hop
   obtain⟨i,hi,rfl⟩:=hop
   exact(hfo i hi).1
  refine⟨(List.range len).map f,⟨⟨some a,m,by simp,?_⟩,fun op h=>(each op h).1,fun op h=>(each op h).2.1,fun op h=>(each op h).2.2⟩,by simp,by unfold reachBytes at hw1;omega⟩
  by_cases hl0:len=0
  ·subst hl0;exact Or.inl rfl
  ·obtain⟨b,off,spot⟩:=a
   have hspot:spot=none:=by
    have:=World.cell?_spot (hfo 0 (by omega)).2.1
    simpa[Addr.add] using this
   subst hspot
   refine Or.inr ⟨b,off,rfl,fun j hj=>?_⟩
   simp at hj
   obtain⟨_,h1,h2,h3,h4,h5,h6⟩:=hfo j (by omega)
   simp only[List.getElem_map,List.getElem_range]
   have e:∀q,(⟨b,off,none⟩:Addr).add q=⟨b,off+q,none⟩:=fun q=>by simp[Addr.add]
   rw[e]at h1 h2 h3 h4 h5 h6
   exact⟨h1,by rw[Nat.add_assoc];exact h2,by rw[Nat.add_assoc];exact h3,by rw[Nat.add_assoc];exact h4,by rw[Nat.add_assoc];exact h5,by rw[Nat.add_assoc];exact h6⟩
end Go.Proofs.YthleadfkfnnadaaGreat
namespace Go.Proofs.YthleadfkfnnadaaGreat
namespace Rf
def zD3:ByteArray:=⟨#[45]⟩
def zHT:ByteArray:=⟨#[40]⟩
def zIc:ByteArray:=⟨#[41]⟩
def zAQ:ByteArray:=⟨#[91]⟩
def zBQ:ByteArray:=⟨#[93]⟩
inductive Is:Nat→List ByteArray→Prop
 | num (x:ByteArray):zAF x=true→Is 3 [x]
 | nam (x:ByteArray):zi x=true→Is 3 [x]
 | neg (p:List ByteArray):Is 3 p→Is 3 (zD3::p)
 | par (p:List ByteArray):Is 0 p→Is 3 (zHT::(p++[zIc]))
 | cel (x:ByteArray) (p:List ByteArray):zi x=true→Is 0 p→Is 3 (x::zAQ::(p++[zBQ]))
 | t1 (p:List ByteArray):Is 3 p→Is 2 p
 | t2 (p:List ByteArray) (o:ByteArray) (q:List ByteArray):Is 2 p→inB zBh o=true→Is 3 q→Is 2 (p++o::q)
 | s1 (p:List ByteArray):Is 2 p→Is 1 p
 | s2 (p:List ByteArray) (o:ByteArray) (q:List ByteArray):Is 1 p→inB zBL o=true→Is 2 q→Is 1 (p++o::q)
 | e1 (p:List ByteArray):Is 1 p→Is 0 p
 | e2 (p:List ByteArray) (o:ByteArray) (q:List ByteArray):Is 1 p→inB zBG o=true→Is 1 q→Is 0 (p++o::q)
theorem zEo {o:ByteArray} (h:inB zBh o=true):o=⟨#[42]⟩∨o=⟨#[47]⟩∨o=⟨#[37]⟩:=by
 simp[inB,zBh]at h
 rcases h with h | h | h <;> simp[←h]
theorem zEt {o:ByteArray} (h:inB zBL o=true):o=⟨#[43]⟩∨o=⟨#[45]⟩:=by
 simp[inB,zBL]at h
 rcases h with h | h <;> simp[←h]
theorem zGL {o:ByteArray} (h:inB zBG o=true):o=⟨#[60]⟩∨o=⟨#[61]⟩:=by
 simp[inB,zBG]at h
 rcases h with h | h <;> simp[←h]
structure Sgn (o:ByteArray):Prop where
 dch:dch o=0
 opd:zFg o=false
theorem zJB (b:UInt8) (h:b∈[42,47,37,43,45,60,61]):Sgn ⟨#[b]⟩:=by
 have e:∀l:List UInt8,((⟨#[b]⟩:ByteArray).toList==l)=([b]==l):=fun l=>by rw[show (⟨#[b]⟩:ByteArray).toList=[b]from ByteArray.toList_mk [b]]
 have hb:Rt.zAO ⟨#[b]⟩ 0=(b.toNat:Int):=by rw[Rt.zAo (by show 0 < 1;decide)];rfl
 constructor
 ·simp only[Rf.dch,e]
  simp at h
  rcases h with rfl | rfl | rfl | rfl | rfl | rfl | rfl <;> decide
 ·simp only[zFg,zi,zAF,hb,e]
  simp at h
  rcases h with rfl | rfl | rfl | rfl | rfl | rfl | rfl <;> simp[zAl,zBE]
theorem zHj {o:ByteArray} (h:inB zBh o=true):Sgn o:=by
 rcases zEo h with rfl | rfl | rfl <;> exact zJB _ (by decide)
theorem zHw {o:ByteArray} (h:inB zBL o=true):Sgn o:=by
 rcases zEt h with rfl | rfl <;> exact zJB _ (by decide)
theorem zJJ {o:ByteArray} (h:inB zBG o=true):Sgn o:=by
 rcases zGL h with rfl | rfl <;> exact zJB _ (by decide)
theorem zFv (b:UInt8):dch ⟨#[b]⟩=if b=40 then 1 else if b=91 then 1 else if b=41 then -1 else if b=93 then -1 else 0:=by
 simp[dch]
theorem zEs {a b:List ByteArray} {i:Nat} (h:i < a.length):at' (a++b) i=at' a i:=by
 simp[at',List.getElem?_append_left h]
theorem zCR (a b:List ByteArray) (j:Nat):at' (a++b) (a.length+j)=at' b j:=by
 simp[at',List.getElem?_append_right]
theorem at_one (x:ByteArray):at' [x] 0=x:=rfl
theorem zCm (a b:List ByteArray):∀i,i≤a.length→depth (a++b) i=depth a i
 | 0,_=>rfl
 | i+1,h=>by rw[depth,depth,zCm a b i (by omega),zEs (by omega)]
theorem zB0 (a b:List ByteArray):∀j,depth (a++b) (a.length+j)=depth a a.length+depth b j
 | 0=>by rw[Nat.add_zero,zCm a b _ (Nat.le_refl _)];simp[depth]
 | j+1=>by rw[←Nat.add_assoc,depth,depth,zB0 a b j,zCR];omega
theorem zGK (x:ByteArray):depth [x] 1=dch x:=by simp[depth,at']
structure Bal (p:List ByteArray):Prop where
 ne:0 < p.length
 zero:depth p p.length=0
 nn:∀i,i≤p.length→0≤depth p i
 fin:zFg (at' p (p.length-1))=true
theorem zBF (x:ByteArray) (q:List ByteArray) (j:Nat):depth (x::q) (j+1)=dch x+depth q j:=by
 have:=zB0 [x] q j
 rw[List.singleton_append,List.length_singleton,zGK]at this
 rw[Nat.add_comm j 1,this]
theorem zBq (x:ByteArray) (q:List ByteArray) (j:Nat):at' (x::q) (j+1)=at' q j:=by simp[at']
theorem zGN (x:ByteArray) (q:List ByteArray):at' (x::q) 0=x:=rfl
theorem Bal.app {p q:List ByteArray} {o:ByteArray} (hp:Bal p) (hq:Bal q) (ho:Sgn o):Bal (p++o::q):=by
 have hl:(p++o::q).length=p.length+(q.length+1):=by simp
 refine⟨by rw[hl];omega,?_,fun i hi=>?_,?_⟩
 ·rw[hl,zB0,zBF,hp.zero,ho.dch,hq.zero];rfl
 ·by_cases h:i≤p.length
  ·rw[zCm p _ i h];exact hp.nn i h
  ·obtain⟨j,rfl⟩:∃j,i=p.length+(j+1):=⟨i-p.length-1,by omega⟩
   rw[zB0,zBF,hp.zero,ho.dch]
   have:=hq.nn j (by omega)
   omega
 ·have h1:=hq.ne
  rw[hl,show p.length+(q.length+1)-1=p.length+((q.length-1)+1) by omega,zCR,zBq]
  exact hq.fin
theorem Bal.neg {p:List ByteArray} (hp:Bal p):Bal (zD3::p):=by
 have h1:=hp.ne
 have hm:dch zD3=0:=by rw[zD3,zFv];decide
 refine⟨by simp,?_,fun i hi=>?_,?_⟩
 ·rw[List.length_cons,zBF,hp.zero,hm];rfl
 ·cases i with
  | zero=>simp[depth]
  | succ j=>
   rw[zBF,hm]
   have:=hp.nn j (by simpa using hi)
   omega
 ·rw[List.length_cons,show p.length+1-1=(p.length-1)+1 by omega,zBq]
  exact hp.fin
theorem zG2 (l r:ByteArray) (p:List ByteArray) (j:Nat) (h:j≤p.length):depth (l::(p++[r])) (j+1)=dch l+depth p j:=by
 rw[zBF,zCm p _ j h]
theorem zFs (l r:ByteArray) (p:List ByteArray):depth (l::(p++[r])) (p.length+2)=dch l+depth p p.length+dch r:=by
 have:=zB0 p [r] 1
 rw[zGK]at this
 rw[show p.length+2=(p.length+1)+1 by omega,zBF,this]
 omega
theorem zLS (b:UInt8) (h:b=41∨b=93):zFg ⟨#[b]⟩=true:=by
 have e:∀l:List UInt8,((⟨#[b]⟩:ByteArray).toList==l)=([b]==l):=fun l=>by rw[show (⟨#[b]⟩:ByteArray).toList=[b]from ByteArray.toList_mk [b]]
 simp only[zFg,e]
 rcases h with rfl | rfl <;> simp
theorem Bal.wrap {p:List ByteArray} {l r:ByteArray} (hp:Bal p) (hl:dch l=1) (hr:dch r=-1) (ho:zFg r=true):Bal (l::(p++[r])):=by
 refine⟨by simp,?_,fun i hi=>?_,?_⟩
 ·rw[show (l::(p++[r])).length=p.length+2 by simp,zFs,hp.zero,hl,hr];rfl
 ·cases i with
  | zero=>simp[depth]
  | succ j=>
   by_cases h:j≤p.length
   ·rw[zG2 l r p j h,hl]
    have:=hp.nn j h
    omega
   ·have:j+1=p.length+2:=by simp at hi;omega
    rw[this,zFs,hp.zero,hl,hr];decide
 ·rw[show (l::(p++[r])).length-1=p.length+1 by simp,zBq,show p.length=p.length+0 from rfl,zCR]
  exact ho
theorem Bal.one {x:ByteArray} (h:zFg x=true) (h0:dch x=0):Bal [x]:=by
 refine⟨by simp,by rw[List.length_singleton,zGK,h0],fun i hi=>?_,h⟩
 match i with
 | 0=>simp[depth]
 | 1=>rw[zGK,h0];decide
 | i+2=>simp at hi
theorem zKU {x:ByteArray} (h:zi x=true∨zAF x=true):dch x=0:=by
 have hb:zAl (Rt.zAO x 0)=true∨zBE (Rt.zAO x 0)=true:=by
  rcases h with h | h
  ·simp[zi]at h;exact Or.inl h.1.2
  ·simp[zAF]at h;exact Or.inr h.2
 have e:∀b:UInt8,b∈[40,41,91,93]→¬x=⟨#[b]⟩:=by
  rintro b hm rfl
  rw[Rt.zAo (by show 0 < 1;decide)]at hb
  change zAl (b.toNat:Int)=true∨zBE (b.toNat:Int)=true at hb
  simp at hm
  rcases hm with rfl | rfl | rfl | rfl <;> simp[zAl,zBE]at hb
 have e1:=e 40 (by decide)
 have e2:=e 41 (by decide)
 have e3:=e 91 (by decide)
 have e4:=e 93 (by decide)
 simp[dch,Rt.zCC,e1,e2,e3,e4]
theorem opd_word {x:ByteArray} (h:zi x=true∨zAF x=true):zFg x=true:=by
 rcases h with h | h <;> simp[zFg,h]
theorem zNz {x:ByteArray} (h:zi x=true∨zAF x=true):Bal [x]:=Bal.one (opd_word h) (zKU h)
theorem Bal.cel {p:List ByteArray} {x:ByteArray} (hp:Bal p) (hx:zi x=true):Bal (x::zAQ::(p++[zBQ])):=by
 have hw:Bal (zAQ::(p++[zBQ])):=hp.wrap (by rw[zAQ,zFv];decide) (by rw[zBQ,zFv];decide) (zLS _ (Or.inr rfl))
 have h0:=zKU (Or.inl hx)
 have h1:=hw.ne
 refine⟨by simp,?_,fun i hi=>?_,?_⟩
 ·rw[List.length_cons,zBF,h0,hw.zero];rfl
 ·cases i with
  | zero=>simp[depth]
  | succ j=>
   rw[zBF,h0]
   have:=hw.nn j (by simpa using hi)
   omega
 ·rw[List.length_cons,show (zAQ::(p++[zBQ])).length+1-1=((zAQ::(p++[zBQ])).length-1)+1 by omega,zBq]
  exact hw.fin
theorem zBa {k:Nat} {p:List ByteArray} (h:Is k p):Bal p:=by
 induction h with
 | num x h=>exact zNz (Or.inr h)
 | nam x h=>exact zNz (Or.inl h)
 | neg p _ ih=>exact ih.neg
 | par p _ ih=>exact ih.wrap (by rw[zHT,zFv];decide) (by rw[zIc,zFv];decide) (zLS _ (Or.inl rfl))
 | cel x p hx _ ih=>exact ih.cel hx
 | t1 p _ ih=>exact ih
 | t2 p o q _ ho _ ih1 ih2=>exact ih1.app ih2 (zHj ho)
 | s1 p _ ih=>exact ih
 | s2 p o q _ ho _ ih1 ih2=>exact ih1.app ih2 (zHw ho)
 | e1 p _ ih=>exact ih
 | e2 p o q _ ho _ ih1 ih2=>exact ih1.app ih2 (zJJ ho)
def cond (sg t:List ByteArray) (i:Nat):Prop:=inB sg (at' t i)=true∧depth t (i+1)=0∧0 < i∧zFg (at' t (i-1))=true
theorem zIl {sg t:List ByteArray}:∀n,(∀i,i < n→¬cond sg t i)→zBS sg t n=-1
 | 0,_=>rfl
 | n+1,h=>by
  have hn:=h n (by omega)
  unfold cond at hn
  rw[zBS,if_neg hn]
  exact zIl n (fun i hi=>h i (by omega))
theorem zIk {sg t:List ByteArray} {k:Nat} (hk:cond sg t k):∀n,k < n→(∀i,k < i→i < n→¬cond sg t i)→zBS sg t n=k
 | 0,h,_=>by omega
 | n+1,h,h'=>by
  by_cases e:k=n
  ·subst e;unfold cond at hk;rw[zBS,if_pos hk]
  ·have hn:=h' n (by omega) (by omega)
   unfold cond at hn
   rw[zBS,if_neg hn]
   exact zIk hk n (by omega) (fun i h1 h2=>h' i h1 (by omega))
def zHz (sg p:List ByteArray):Prop:=∀i,i < p.length→¬cond sg p i
theorem zHz.last {sg p:List ByteArray} (h:zHz sg p):last sg p=-1:=zIl _ h
theorem zQy {sg p q:List ByteArray} {o:ByteArray} {i:Nat} (hi:i < p.length):cond sg (p++o::q) i↔cond sg p i:=by
 unfold cond
 rw[zEs hi,zCm p _ (i+1) (by omega),zEs (by omega)]
theorem zKV {sg p q:List ByteArray} {o:ByteArray} {j:Nat} (hp:depth p p.length=0) (ho:Sgn o):cond sg (p++o::q) (p.length+(j+1))↔cond sg q j:=by
 unfold cond
 rw[zCR,zBq,show p.length+(j+1)+1=p.length+((j+1)+1) by omega,zB0,zBF,hp,ho.dch,show p.length+(j+1)-1=p.length+j by omega,zCR]
 cases j with
 | zero=>rw[zGN,ho.opd];simp
 | succ j=>rw[zBq];simp;omega
theorem zNi {sg p q:List ByteArray} {o:ByteArray} (hp:Bal p) (ho:Sgn o) (h:inB sg o=false) (h1:zHz sg p) (h2:zHz sg q):zHz sg (p++o::q):=by
 intro i hi
 by_cases hl:i < p.length
 ·rw[zQy hl];exact h1 i hl
 ·by_cases he:i=p.length
  ·subst he
   rintro ⟨h',_⟩
   rw[show p.length=p.length+0 from rfl,zCR,zGN,h]at h'
   cases h'
  ·obtain⟨j,rfl⟩:∃j,i=p.length+(j+1):=⟨i-p.length-1,by omega⟩
   rw[zKV hp.zero ho]
   exact h2 j (by simp at hi;omega)
theorem zEl {sg p q:List ByteArray} {o:ByteArray} (hp:Bal p) (ho:Sgn o) (h:inB sg o=true) (h2:zHz sg q):last sg (p++o::q)=p.length:=by
 refine zIk ?_ _ (by simp) (fun i h3 h4=>?_)
 ·refine⟨?_,?_,hp.ne,?_⟩
  ·rw[show p.length=p.length+0 from rfl,zCR,zGN];exact h
  ·rw[zB0 p _ 1,hp.zero,show (1:Nat)=0+1 from rfl,zBF,ho.dch];rfl
  ·have:=hp.ne
   rw[zEs (by omega)];exact hp.fin
 ·obtain⟨j,rfl⟩:∃j,i=p.length+(j+1):=⟨i-p.length-1,by omega⟩
  rw[zKV hp.zero ho]
  exact h2 j (by simp at h4;omega)
theorem free_neg {sg p:List ByteArray} (h:zHz sg p):zHz sg (zD3::p):=by
 intro i hi
 have hs:Sgn zD3:=zJB 45 (by decide)
 rintro ⟨c1,c2,c3,c4⟩
 obtain⟨j,rfl⟩:∃j,i=j+1:=⟨i-1,by omega⟩
 rw[zBq]at c1
 rw[zBF,hs.dch]at c2
 rw[Nat.add_sub_cancel]at c4
 cases j with
 | zero=>rw[zGN,hs.opd]at c4;cases c4
 | succ j=>
  rw[zBq]at c4
  exact h (j+1) (by simpa using hi) ⟨c1,by omega,by omega,c4⟩
theorem zQn {sg p:List ByteArray} {l r:ByteArray} (hp:Bal p) (hl:dch l=1) (hr:inB sg r=false):zHz sg (l::(p++[r])):=by
 intro i hi
 rintro ⟨c1,c2,c3,c4⟩
 obtain⟨j,rfl⟩:∃j,i=j+1:=⟨i-1,by omega⟩
 by_cases hj:j < p.length
 ·rw[zG2 l r p (j+1) (by omega),hl]at c2
  have:=hp.nn (j+1) (by omega)
  omega
 ·have:j=p.length:=by simp at hi;omega
  subst this
  rw[zBq,show p.length=p.length+0 from rfl,zCR,at_one,hr]at c1
  cases c1
theorem free_cel {sg p:List ByteArray} {x l r:ByteArray} (hp:Bal p) (hx:dch x=0) (hl:dch l=1) (hl':inB sg l=false) (hr:inB sg r=false):zHz sg (x::l::(p++[r])):=by
 intro i hi
 rintro ⟨c1,c2,c3,c4⟩
 obtain⟨j,rfl⟩:∃j,i=j+1:=⟨i-1,by omega⟩
 rw[zBq]at c1
 rw[zBF,hx]at c2
 cases j with
 | zero=>rw[zGN,hl']at c1;cases c1
 | succ j=>
  by_cases hj:j < p.length
  ·rw[zG2 l r p (j+1) (by omega),hl]at c2
   have:=hp.nn (j+1) (by omega)
   omega
  ·have:j=p.length:=by simp at hi;omega
   subst this
   rw[zBq,show p.length=p.length+0 from rfl,zCR,at_one,hr]at c1
   cases c1
theorem zNh {sg:List ByteArray} (x:ByteArray):zHz sg [x]:=by
 intro i hi
 rintro ⟨_,_,c3,_⟩
 simp at hi;omega
theorem in_three (sg:List ByteArray) (h:sg=zBh∨sg=zBL∨sg=zBG):inB sg zIc=false∧inB sg zBQ=false∧inB sg zAQ=false:=by
 rcases h with rfl | rfl | rfl <;> simp[inB,zBh,zBL,zBG,zIc,zBQ,zAQ]
theorem zBz {k:Nat} {p:List ByteArray} (h:Is k p) (sg:List ByteArray) (hs:sg=zBh∨sg=zBL∨sg=zBG):k=3→zHz sg p:=by
 obtain⟨s1,s2,s3⟩:=in_three sg hs
 induction h with
 | num x h=>intro _;exact zNh x
 | nam x h=>intro _;exact zNh x
 | neg p _ ih=>intro _;exact free_neg (ih rfl)
 | par p hp _=>intro _;exact zQn (zBa hp) (by rw[zHT,zFv];decide) s1
 | cel x p hx hp _=>intro _;exact free_cel (zBa hp) (zKU (Or.inl hx)) (by rw[zAQ,zFv];decide) s3 s2
 | _=>intro h;omega
theorem zJw {o:ByteArray} (h:inB zBh o=true):inB zBL o=false∧inB zBG o=false:=by
 rcases zEo h with rfl | rfl | rfl <;> simp[inB,zBL,zBG]
theorem zOd {o:ByteArray} (h:inB zBL o=true):inB zBG o=false:=by
 rcases zEt h with rfl | rfl <;> simp[inB,zBG]
theorem zC7 {k:Nat} {p:List ByteArray} (h:Is k p) (sg:List ByteArray) (hs:sg=zBL∨sg=zBG):k=2→zHz sg p:=by
 induction h with
 | t1 p hp _=>intro _;exact zBz hp sg (Or.inr hs) rfl
 | t2 p o q hp ho hq ih1 _=>intro _;exact zNi (zBa hp) (zHj ho) (by rcases hs with rfl | rfl;exact(zJw ho).1;exact(zJw ho).2) (ih1 rfl) (zBz hq sg (Or.inr hs) rfl)
 | _=>intro h;omega
theorem zHb {k:Nat} {p:List ByteArray} (h:Is k p):k=1→zHz zBG p:=by
 induction h with
 | s1 p hp _=>intro _;exact zC7 hp zBG (Or.inr rfl) rfl
 | s2 p o q hp ho hq ih1 _=>intro _;exact zNi (zBa hp) (zHw ho) (zOd ho) (ih1 rfl) (zC7 hq zBG (Or.inr rfl) rfl)
 | _=>intro h;omega
theorem zMX {f:Nat} {u:List ByteArray} (h:5*u.length+4≤f):gr f 1 u=zFI u:=zB8 _ _ _ _ (by omega) (by omega) (by omega)
theorem zMW {f:Nat} {u:List ByteArray} (h:5*u.length+3≤f):gr f 2 u=isTerm u:=zB8 _ _ _ _ (by omega) (by omega) (by omega)
theorem zIL {f:Nat} {u:List ByteArray} (h:5*u.length+2≤f):gr f 3 u=zBo u:=zB8 _ _ _ _ (by omega) (by omega) (by omega)
theorem zPZ {f:Nat} {u:List ByteArray} (h:5*u.length+5≤f):gr f 0 u=zAV u:=zB8 _ _ _ _ (by omega) (by omega) (by omega)
theorem gr_cell {f:Nat} {u:List ByteArray} (h:5*u.length+1≤f):gr f 4 u=zE8 u:=zB8 _ _ _ _ (by omega) (by omega) (by omega)
theorem expr_no {t:List ByteArray} (h:last zBG t=-1):zAV t=zFI t:=by
 show zEF (gr (5*t.length+4) 1) t=_
 rw[zHe h];exact zMX (Nat.le_refl _)
theorem expr_at {t:List ByteArray} {k:Nat} (h:last zBG t=k):zAV t=(zFI (t.take k) && zFI (t.drop (k+1))):=by
 show zEF (gr (5*t.length+4) 1) t=_
 rw[zHf rfl h,zMX (by simp;omega),zMX (by simp;omega)]
theorem sum_no {t:List ByteArray} (h:last zBL t=-1):zFI t=isTerm t:=by
 show zGj (gr (5*t.length+3) 1) (gr (5*t.length+3) 2) t=_
 rw[zI7 h];exact zMW (Nat.le_refl _)
theorem sum_at {t:List ByteArray} {k:Nat} (h:last zBL t=k) (hk:k < t.length):zFI t=(zFI (t.take k) && isTerm (t.drop (k+1))):=by
 show zGj (gr (5*t.length+3) 1) (gr (5*t.length+3) 2) t=_
 rw[zI8 h,zMX (by simp;omega),zMW (by simp;omega)]
theorem term_no {t:List ByteArray} (h:last zBh t=-1):isTerm t=zBo t:=by
 show zDs (gr (5*t.length+2) 2) (gr (5*t.length+2) 3) t=_
 rw[zG9 h];exact zIL (Nat.le_refl _)
theorem term_at {t:List ByteArray} {k:Nat} (h:last zBh t=k) (hk:k < t.length):isTerm t=(isTerm (t.take k) && zBo (t.drop (k+1))):=by
 show zDs (gr (5*t.length+2) 2) (gr (5*t.length+2) 3) t=_
 rw[zHA h,zMW (by simp;omega),zIL (by simp;omega)]
theorem zGJ (t:List ByteArray):zBo t=zBT zBo zAV zE8 t:=by
 show zBT (gr (5*t.length+1) 3) (gr (5*t.length+1) 0) (gr (5*t.length+1) 4) t=_
 exact zKM (fun h=>zIL (by simp;omega)) (fun h=>zPZ (by simp;omega)) (gr_cell (Nat.le_refl _))
theorem cell_eq (t:List ByteArray):zE8 t=zBW zAV t:=by
 show zBW (gr (5*t.length) 0) t=_
 exact zNu (fun h=>zPZ (by simp;omega))
theorem zOn (b:UInt8):((⟨#[b]⟩:ByteArray).toList==[b])=true:=by simp
theorem zKK {x:ByteArray} (h:zi x=true∨zAF x=true):zBo [x]=true:=by
 rw[zGJ,zBT,if_neg (by simp),if_pos (by simp)]
 show (zi x || zAF x)=true
 rcases h with h | h <;> simp[h]
theorem zO9 {p:List ByteArray} (hp:0 < p.length):zBo (zD3::p)=zBo p:=by
 rw[zGJ,zBT,if_neg (by simp),if_neg (by simp;intro h;simp[h]at hp),if_pos (show ((first (zD3::p)).toList==[45])=true from zOn 45)]
 rfl
theorem zPp (l r:ByteArray) (p:List ByteArray):((l::(p++[r])).take ((l::(p++[r])).length-1)).drop 1=p:=by
 simp
theorem zG4 (a b:List ByteArray):at' (a++b) a.length=at' b 0:=zCR a b 0
theorem zO7 (l r:ByteArray) (p:List ByteArray):final (l::(p++[r]))=r:=by
 rw[final,show (l::(p++[r])).length-1=p.length+1 by simp,zBq,zG4];rfl
theorem zO8 {p:List ByteArray}:zBo (zHT::(p++[zIc]))=zAV p:=by
 rw[zGJ,zBT,if_neg (by simp),if_neg (by simp),if_neg (by show ¬((⟨#[40]⟩:ByteArray).toList==[45])=true;simp),if_pos ⟨show ((first (zHT::(p++[zIc]))).toList==[40])=true from zOn 40,by rw[zO7];exact zOn 41⟩,zPp]
theorem zLz {x:ByteArray} (h:zi x=true∨zAF x=true) (b:UInt8) (hb:zAl (b.toNat:Int)=false) (hb':zBE (b.toNat:Int)=false):(x.toList==[b])=false:=by
 rw[Rt.zCC,decide_eq_false_iff_not]
 rintro rfl
 have e:Rt.zAO ⟨#[b]⟩ 0=(b.toNat:Int):=by rw[Rt.zAo (by show 0 < 1;decide)];rfl
 change zi ⟨#[b]⟩=true∨zAF ⟨#[b]⟩=true at h
 rcases h with h | h
 ·simp[zi,e,hb]at h
 ·simp[zAF,e,hb']at h
theorem zKg {x:ByteArray} {p:List ByteArray} (hp:0 < p.length) (hx:zi x=true):zE8 (x::zAQ::(p++[zBQ]))=zAV p:=by
 have hl:(x::zAQ::(p++[zBQ])).length=p.length+3:=by simp
 have hf:final (x::zAQ::(p++[zBQ]))=zBQ:=by
  rw[final,hl,show p.length+3-1=p.length+1+1 by omega,zBq,zBq,zG4];rfl
 have ht:((x::zAQ::(p++[zBQ])).take ((x::zAQ::(p++[zBQ])).length-1)).drop 2=p:=by simp
 have hc:¬((x::zAQ::(p++[zBQ])).length < 4∨((at' (x::zAQ::(p++[zBQ])) 1).toList==[91])=false∨((final (x::zAQ::(p++[zBQ]))).toList==[93])=false):=by
  rintro (h | h | h)
  ·omega
  ·change ((⟨#[91]⟩:ByteArray).toList==[91])=false at h
   simp at h
  ·rw[hf]at h
   change ((⟨#[93]⟩:ByteArray).toList==[93])=false at h
   simp at h
 rw[cell_eq,zBW,if_neg hc,ht]
 show (zi x && zAV p)=_
 rw[hx];rfl
theorem zPA {x:ByteArray} {p:List ByteArray} (hp:0 < p.length) (hx:zi x=true):zBo (x::zAQ::(p++[zBQ]))=zAV p:=by
 have hl:(x::zAQ::(p++[zBQ])).length=p.length+3:=by simp
 rw[zGJ,zBT,if_neg (by omega),if_neg (by omega),if_neg (by show ¬(x.toList==[45])=true;rw[zLz (Or.inl hx) 45 (by decide) (by decide)];simp),if_neg,zKg hp hx]
 rintro ⟨h,_⟩
 change (x.toList==[40])=true at h
 rw[zLz (Or.inl hx) 40 (by decide) (by decide)]at h
 cases h
theorem zFl {k:Nat} {p:List ByteArray} (h:Is k p):(k=3→zBo p=true)∧(2≤k→isTerm p=true)∧(1≤k→zFI p=true)∧zAV p=true:=by
 have up3:∀{q},Is 3 q→zBo q=true→isTerm q=true:=fun h h'=>by rw[term_no (zBz h _ (Or.inl rfl) rfl).last];exact h'
 have up2:∀{q},Is 2 q→isTerm q=true→zFI q=true:=fun h h'=>by rw[sum_no (zC7 h _ (Or.inl rfl) rfl).last];exact h'
 have up1:∀{q},Is 1 q→zFI q=true→zAV q=true:=fun h h'=>by rw[expr_no (zHb h rfl).last];exact h'
 have all3:∀{q},Is 3 q→zBo q=true→(3=3→zBo q=true)∧(2≤3→isTerm q=true)∧(1≤3→zFI q=true)∧zAV q=true:=fun h h'=>
  have a:=up3 h h'
  have b:=up2 (.t1 _ h) a
  ⟨fun _=>h',fun _=>a,fun _=>b,up1 (.s1 _ (.t1 _ h)) b⟩
 induction h with
 | num x h=>exact all3 (.num x h) (zKK (Or.inr h))
 | nam x h=>exact all3 (.nam x h) (zKK (Or.inl h))
 | neg p hp ih=>exact all3 (.neg p hp) (by rw[zO9 (zBa hp).ne];exact ih.1 rfl)
 | par p hp ih=>exact all3 (.par p hp) (by rw[zO8];exact ih.2.2.2)
 | cel x p hx hp ih=>exact all3 (.cel x p hx hp) (by rw[zPA (zBa hp).ne hx];exact ih.2.2.2)
 | t1 p hp ih=>exact⟨by omega,fun _=>ih.2.1 (by omega),fun _=>ih.2.2.1 (by omega),ih.2.2.2⟩
 | t2 p o q hp ho hq ih1 ih2=>
  have h:Is 2 (p++o::q):=.t2 p o q hp ho hq
  have a:isTerm (p++o::q)=true:=by
   rw[term_at (zEl (zBa hp) (zHj ho) ho (zBz hq _ (Or.inl rfl) rfl)) (by simp)]
   simp[ih1.2.1 (by omega),ih2.1 rfl]
  have b:=up2 h a
  exact⟨by omega,fun _=>a,fun _=>b,up1 (.s1 _ h) b⟩
 | s1 p hp ih=>exact⟨by omega,by omega,fun _=>ih.2.2.1 (by omega),ih.2.2.2⟩
 | s2 p o q hp ho hq ih1 ih2=>
  have h:Is 1 (p++o::q):=.s2 p o q hp ho hq
  have b:zFI (p++o::q)=true:=by
   rw[sum_at (zEl (zBa hp) (zHw ho) ho (zC7 hq _ (Or.inl rfl) rfl)) (by simp)]
   simp[ih1.2.2.1 (by omega),ih2.2.1 (by omega)]
  exact⟨by omega,by omega,fun _=>b,up1 h b⟩
 | e1 p hp ih=>exact⟨by omega,by omega,by omega,ih.2.2.2⟩
 | e2 p o q hp ho hq ih1 ih2=>
  refine⟨by omega,by omega,by omega,?_⟩
  rw[expr_at (zEl (zBa hp) (zJJ ho) ho (zHb hq rfl))]
  simp[ih1.2.2.1 (by omega),ih2.2.2.1 (by omega)]
theorem zMQ {sg t:List ByteArray} {k:Nat} (h:last sg t=k):k < t.length∧inB sg (at' t k)=true:=by
 have key:∀n,zBS sg t n=k→k < n∧inB sg (at' t k)=true:=by
  intro n
  induction n with
  | zero=>intro h;simp[zBS]at h
  | succ n ih=>
   intro h
   rw[zBS]at h
   split at h
   ·rename_i hc
    have:n=k:=by omega
    subst this
    exact⟨by omega,hc.1⟩
   ·have:=ih h
    exact⟨by omega,this.2⟩
 exact key _ h
theorem zL6 {t:List ByteArray} {k:Nat} (h:k < t.length):t.take k++at' t k::t.drop (k+1)=t:=by
 rw[zAi h,←List.drop_eq_getElem_cons h,List.take_append_drop]
theorem zCf {x:ByteArray} {b:UInt8} (h:(x.toList==[b])=true):x=⟨#[b]⟩:=by
 rw[Rt.zCC]at h
 simpa using h
theorem zPK {t:List ByteArray} (h:2≤t.length):first t::((t.take (t.length-1)).drop 1++[final t])=t:=by
 rw[first,final,zAi (show 0 < t.length by omega),zAi (show t.length-1 < t.length by omega)]
 apply List.ext_getElem
 ·simp;omega
 ·intro i h1 h2
  cases i with
  | zero=>simp
  | succ i=>
   simp only[List.getElem_cons_succ]
   by_cases hi:i < ((t.take (t.length-1)).drop 1).length
   ·rw[List.getElem_append_left hi]
    simp
   ·rw[List.getElem_append_right (by omega)]
    simp at hi h2 ⊢
    congr 1;omega
theorem zBZ:∀(f r:Nat) (t:List ByteArray),gr f r t=true→(r≤3→Is r t)∧(r=4→∃x p,t=x::zAQ::(p++[zBQ])∧zi x=true∧Is 0 p)
 | 0,_,_,h=>by simp[gr]at h
 | f+1,0,t,h=>by
  refine⟨fun _=>?_,by omega⟩
  have h:zEF (gr f 1) t=true:=h
  rcases zC6 zBG t with hk | ⟨k,hk,_,_⟩
  ·rw[zHe hk]at h;exact .e1 _ ((zBZ f 1 t h).1 (by omega))
  ·rw[zHf rfl hk,Bool.and_eq_true]at h
   have hc:=zMQ hk
   have:=Is.e2 _ _ _ ((zBZ f 1 _ h.1).1 (by omega)) hc.2 ((zBZ f 1 _ h.2).1 (by omega))
   rw[zL6 hc.1]at this;exact this
 | f+1,1,t,h=>by
  refine⟨fun _=>?_,by omega⟩
  have h:zGj (gr f 1) (gr f 2) t=true:=h
  rcases zC6 zBL t with hk | ⟨k,hk,_,_⟩
  ·rw[zI7 hk]at h;exact .s1 _ ((zBZ f 2 t h).1 (by omega))
  ·rw[zI8 hk,Bool.and_eq_true]at h
   have hc:=zMQ hk
   have:=Is.s2 _ _ _ ((zBZ f 1 _ h.1).1 (by omega)) hc.2 ((zBZ f 2 _ h.2).1 (by omega))
   rw[zL6 hc.1]at this;exact this
 | f+1,2,t,h=>by
  refine⟨fun _=>?_,by omega⟩
  have h:zDs (gr f 2) (gr f 3) t=true:=h
  rcases zC6 zBh t with hk | ⟨k,hk,_,_⟩
  ·rw[zG9 hk]at h;exact .t1 _ ((zBZ f 3 t h).1 (by omega))
  ·rw[zHA hk,Bool.and_eq_true]at h
   have hc:=zMQ hk
   have:=Is.t2 _ _ _ ((zBZ f 2 _ h.1).1 (by omega)) hc.2 ((zBZ f 3 _ h.2).1 (by omega))
   rw[zL6 hc.1]at this;exact this
 | f+1,3,t,h=>by
  refine⟨fun _=>?_,by omega⟩
  have h:zBT (gr f 3) (gr f 0) (gr f 4) t=true:=h
  rw[zBT]at h
  split at h
  ·cases h
  split at h
  ·rename_i h0 h1
   match t,h1 with
   | [x],_=>
    rw[Bool.or_eq_true]at h
    rcases h with h | h
    ·exact .nam x h
    ·exact .num x h
  rename_i h0 h1
  have h2:2≤t.length:=by omega
  split at h
  ·rename_i hm
   have e:t=zD3::t.drop 1:=by
    have:=zCf hm
    match t,h2 with
    | x::r,_=>change x=_ at this;rw[this];rfl
   rw[e]
   exact .neg _ ((zBZ f 3 _ h).1 (by omega))
  split at h
  ·rename_i hm hp
   have e:=zPK h2
   rw[zCf hp.1,zCf hp.2]at e
   rw[←e]
   exact .par _ ((zBZ f 0 _ h).1 (by omega))
  ·obtain⟨x,p,e,hx,hp⟩:=(zBZ f 4 t h).2 rfl
   rw[e]
   exact .cel x p hx hp
 | f+1,r+4,t,h=>by
  refine⟨by omega,fun _=>?_⟩
  have h:zBW (gr f 0) t=true:=h
  rw[zBW]at h
  split at h
  ·cases h
  rename_i hc
  have h4:¬t.length < 4:=fun h=>hc (Or.inl h)
  have hb:((at' t 1).toList==[91])=true:=by cases hh:((at' t 1).toList==[91])with | true=>rfl | false=>exact absurd (Or.inr (Or.inl hh)) hc
  have hr:((final t).toList==[93])=true:=by cases hh:((final t).toList==[93])with | true=>rfl | false=>exact absurd (Or.inr (Or.inr hh)) hc
  rw[Bool.and_eq_true]at h
  refine⟨first t,(t.take (t.length-1)).drop 2,?_,h.1,(zBZ f 0 _ h.2).1 (by omega)⟩
  have e:=zPK (t:=t) (by omega)
  rw[show zBQ=final t from (zCf hr).symm,show zAQ=at' t 1 from (zCf hb).symm]
  conv=>lhs;rw[←e]
  congr 1
  rw[←List.cons_append]
  congr 1
  match t,h4 with
  | a::b::c::d::r,_=>simp[at']
  | [],h=>simp at h
  | [_],h=>simp at h
  | [_,_],h=>simp at h
  | [_,_,_],h=>simp at h
theorem zKO (t:List ByteArray):zAV t=true↔Is 0 t:=⟨fun h=>(zBZ _ 0 t h).1 (by omega),fun h=>(zFl h).2.2.2⟩
theorem cell_iff (t:List ByteArray):zE8 t=true↔∃x p,t=x::zAQ::(p++[zBQ])∧zi x=true∧Is 0 p:=by
 constructor
 ·intro h;exact(zBZ _ 4 t h).2 rfl
 ·rintro ⟨x,p,rfl,hx,hp⟩
  rw[zKg (zBa hp).ne hx];exact(zFl hp).2.2.2
end Rf
end Go.Proofs.YthleadfkfnnadaaGreat
