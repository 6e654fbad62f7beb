/- The document's answer: names, numbers, tokens, lines. -/
import Derived.KernelRfl
import Derived.WalkKit
import Derived.Test.YthleadfkfnnadaaGreatProg
import Derived.WalkSpells
import Derived.WalkLawsBesides
import Derived.Deep.QuietTactic
import Derived.BigQuiet
import Derived.Deep.RegionHeld3
import Derived.Deep.AppendLies
import Derived.Deep.DrawnRows
import Derived.Deep.RegionLaw
import Derived.Deep.LoopGhost
set_option maxHeartbeats 4000000
set_option maxRecDepth 100000
namespace Go.Proofs.YthleadfkfnnadaaGreat
namespace Rt
theorem ba_ext {a b:ByteArray} (h:a.toList=b.toList):a=b:=by
 rw[ByteArray.toList_eq,ByteArray.toList_eq]at h
 cases a;cases b
 simp at h
 simp[h]
theorem zL3 (a b:ByteArray):(a.toList==b.toList)=decide (a=b):=by
 rw[Bool.eq_iff_iff,beq_iff_eq,decide_eq_true_iff]
 exact⟨ba_ext,fun h=>by rw[h]⟩
theorem zCC (a:ByteArray) (l:List UInt8):(a.toList==l)=decide (a=⟨l.toArray⟩):=by
 have h:=zL3 a ⟨l.toArray⟩
 rw[show (ByteArray.mk l.toArray).toList=l from ByteArray.toList_mk l]at h
 exact h
theorem zFR {a b:ByteArray} (h:¬a=b):(a.toList==b.toList)=false:=by rw[zL3];simpa using h
theorem zDv {a b:ByteArray} (h:a=b):(a.toList==b.toList)=true:=by rw[zL3];simpa using h
def within (lo hi:Int) (b:UInt8):Bool:=decide (lo≤(b.toNat:Int)∧(b.toNat:Int)≤hi)
def cw (s:ByteArray) (lo hi:Int) (a:Nat):Nat:=((s.data.toList.drop a).takeWhile (within lo hi)).length
theorem tw_len {α:Type} (p:α→Bool):∀(l:List α) (k:Nat),k≤l.length→(∀j (h:j < l.length),j < k→p l[j]=true)→(∀h:k < l.length,p l[k]=false)→(l.takeWhile p).length=k
 | [],k,hk,_,_=>by simp at hk;simp[hk]
 | x::r,0,_,_,h3=>by
  have:=h3 (by simp)
  simp at this
  simp[this]
 | x::r,k+1,hk,h2,h3=>by
  have hx:=h2 0 (by simp) (by omega)
  simp at hx
  have ih:=tw_len p r k (by simpa using hk) (fun j h hj=>by have:=h2 (j+1) (by simpa using h) (by omega);simpa using this) (fun h=>by have:=h3 (by simpa using h);simpa using this)
  simp[hx,ih]
theorem zHo (s:ByteArray) (lo hi:Int) (a e:Nat) (hae:a≤e) (he:e≤s.size)
  (h1:∀j (h:j < s.size),a≤j→j < e→within lo hi s[j]=true) (h2:∀h:e < s.size,within lo hi s[e]=false):cw s lo hi a=e-a:=by
 have hsz:s.data.toList.length=s.size:=by simp
 refine tw_len _ _ _ (by simp;omega) (fun j h hj=>?_) (fun h=>?_)
 ·simp at h
  have:=h1 (a+j) (by omega) (by omega) (by omega)
  simp only[List.getElem_drop]
  exact this
 ·simp at h
  have:=h2 (by omega)
  have e1:a+(e-a)=e:=by omega
  simp only[List.getElem_drop,e1]
  exact this
theorem cw_le (s:ByteArray) (lo hi:Int) (a:Nat) (ha:a≤s.size):a+cw s lo hi a≤s.size:=by
 unfold cw
 have h:=List.IsPrefix.length_le (List.takeWhile_prefix (within lo hi) (l:=s.data.toList.drop a))
 simp at h
 omega
def sign (b:Int):Bool:=decide (b∈[43,45,42,47,37,60,61,40,41,91,93,44])
def zAO (s:ByteArray) (a:Nat):Int:=if h:a < s.size then (s[a].toNat:Int)else 0
theorem zAo {s:ByteArray} {a:Nat} (h:a < s.size):zAO s a=(s[a].toNat:Int):=by simp[zAO,h]
def zCs (s:ByteArray) (a:Nat):Int:=
 if 8 < cw s 97 122 a then 0 else if 0 < cw s 97 122 a then 1 else if 9 < cw s 48 57 a then 0 else if 0 < cw s 48 57 a then 2
 else if a < s.size∧sign (zAO s a)=true then 3 else 0
def zAu (s:ByteArray) (a:Nat):Nat:=
 if 8 < cw s 97 122 a then 0 else if 0 < cw s 97 122 a then cw s 97 122 a else if 9 < cw s 48 57 a then 0 else if 0 < cw s 48 57 a then cw s 48 57 a
 else if a < s.size∧sign (zAO s a)=true then 1 else 0
theorem zNK (s:ByteArray) (a:Nat) (ha:a≤s.size):a+zAu s a≤s.size:=by
 have h1:=cw_le s 97 122 a ha
 have h2:=cw_le s 48 57 a ha
 unfold zAu
 repeat' split
 all_goals omega
structure Tk where
 kind:Int
 text:ByteArray
def zI6 (t:Tk):List Value:=[.int .i64 t.kind,.string t.text]
def zAX (ts:List Tk):List Value:=ts.flatMap zI6
theorem zJW (ts:List Tk) (t:Tk):zAX (ts++[t])=zAX ts++[.int .i64 t.kind,.string t.text]:=by simp[zAX,zI6]
def toksFrom (s:ByteArray):Nat→Nat→List Tk→Option (List Tk)
 | 0,_,_=>none
 | f+1,a,acc=>
  if a < s.size then
   if zAO s a=32 then toksFrom s f (a+1) acc
   else if zAu s a=0∨24≤acc.length then none
   else toksFrom s f (a+zAu s a) (acc++[⟨zCs s a,s.extract a (a+zAu s a)⟩])
  else some acc
def zf (s:ByteArray):Option (List Tk):=toksFrom s (s.size+1) 0 []
def linesFrom (s:ByteArray):Nat→Nat→Nat→List ByteArray→List ByteArray
 | 0,_,_,acc=>acc
 | f+1,start,i,acc=>
  if i < s.size then
   if zAO s i=10 then linesFrom s f (i+1) (i+1) (acc++[s.extract start i])else linesFrom s f start (i+1) acc
  else acc++[s.extract start s.size]
def lines (s:ByteArray):List ByteArray:=linesFrom s (s.size+1) 0 0 []
def zH8:List (List UInt8):=[[118,97,114],[97,114,114,97,121],[112,114,111,99],[101,110,100],[101,108,115,101],[105,102],[119,104,105,108,101],[115,101,116],[116,111],[112,114,105,110,116],[114,101,97,100],[99,97,108,108],[114,101,116,117,114,110]]
def zHE (s:ByteArray):Bool:=zH8.any (fun l=>s.toList==l)
def zU (s:ByteArray):Int:=
 if s.toList==[43]then 5 else if s.toList==[45]then 6 else if s.toList==[42]then 7 else if s.toList==[47]then 8 else if s.toList==[37]then 9
 else if s.toList==[60]then 10 else if s.toList==[61]then 11 else 0
def nls (s:ByteArray):Nat→Nat
 | 0=>0
 | k+1=>nls s k+(if zAO s k=10 then 1 else 0)
theorem nls_le (s:ByteArray) (k:Nat):nls s k≤k:=by
 induction k with
 | zero=>simp[nls]
 | succ k ih=>simp only[nls];split <;> omega
def zCB (s:ByteArray):Bool:=decide (40000 < s.size)|| decide (100 < 1+nls s s.size)
end Rt
end Go.Proofs.YthleadfkfnnadaaGreat
namespace Go.Proofs.YthleadfkfnnadaaGreat
open Go.RowKit
theorem zBe {k:IntKind} {a b:Int} (h:a=b):Ending.returned (.int k a)=.returned (.int k b):=by rw[h]
theorem Tryz.zJE:(Tryz.prog.info? 9).map (fun i=>(i.zero,i.size,i.bytes))=some (some (.string ByteArray.empty),1,16):=by kernel_rfl
theorem zAW {B:Nat} {w wr w1:World} {o:Obj} {e:TypeId} {size:Nat} {v:Value} {n:Nat} {xs:List Value} (hnx:Below B w wr) (hB:B≤wr.heap.size)
  (hown:wr.ownsRow B e size v n xs) (hgrow:(wr.alloc o).grownBy w1 v.ownBlock):Below B w w1:=
 (hnx.alloc hB o).grown hgrow (by simp;omega) (fun j hj=>(hown.lt j hj).1)
theorem zE {w:World} {B:Nat} {e:TypeId} {size:Nat} {v:Value} {n:Nat} {xs:List Value} (h:w.ownsRow B e size v n xs):∃ad cap,v=.slice ad n cap:=by
 obtain⟨_,h⟩:=h
 rcases h with⟨rfl,rfl⟩| ⟨g,cap,cur,rfl,_⟩
 ·exact⟨_,_,rfl⟩
 ·exact⟨_,_,rfl⟩
theorem beqT {a b:Int} (h:(a==b)=true):a=b:=by simpa using h
theorem beqF {a b:Int} (h:(a==b)=false):¬a=b:=by simpa using h
theorem zB {p:Prop} (h:p):Hid p:=h
theorem zA {p:Prop} (h:Hid p):p:=h
theorem zJ {w:World} {N:Nat} {o:Obj} (h:w.heap[N]?=some o):N < w.heap.size:=by
 by_cases h':N < w.heap.size
 ·exact h'
 ·rw[Array.getElem?_eq_none (by omega)]at h;cases h
theorem zW {w:World} {B:Nat} {e:TypeId} {size n:Nat} {v:Value} {xs:List Value} (h:w.ownsRow B e size v n xs) {j:Nat} {u:Value} (hj:xs[j]?=some u) :
  ∃g cap,v=.slice (some ⟨g,0,none⟩) n cap∧B≤g∧g < w.heap.size∧w.cell? ⟨g,j,none⟩=some u:=by
 obtain⟨h1,h2⟩:=h
 rcases h2 with⟨rfl,rfl⟩| ⟨g,cap,cur,rfl,hg,hh,hn,hc,hs,ht⟩
 ·have:xs=[]:=List.eq_nil_of_length_eq_zero (by simpa using h1)
  subst this
  simp at hj
 ·refine⟨g,cap,rfl,hg,zJ hh,?_⟩
  rw[cell_of_row w g j cur e (0,0) hh]
  rw[←ht,List.getElem?_take]at hj
  split at hj
  ·simpa using hj
  ·cases hj
theorem zZ {w w':World} {B:Nat} {e:TypeId} {size n:Nat} {v:Value} {xs:List Value} (h:w.ownsRow B e size v n xs) (hb:Below w.heap.size w w'):w'.ownsRow B e size v n xs:=by
 obtain⟨h1,h2⟩:=h
 refine⟨h1,?_⟩
 rcases h2 with h2 | ⟨g,cap,cur,hv,hg,hh,r⟩
 ·exact Or.inl h2
 ·exact Or.inr ⟨g,cap,cur,hv,hg,by rw[hb.block g (zJ hh)];exact hh,r⟩
theorem zK {w w':World} {N:Nat} {o:Obj} (h:w.heap[N]?=some o) (hb:Below w.heap.size w w'):w'.heap[N]?=some o:=by rw[hb.block N (zJ h)];exact h
theorem zj {a b:Bool} (h:a=b):Ending.returned (.bool a)=.returned (.bool b):=by rw[h]
theorem beq_eq_decide (a b:Int):(a==b)=decide (a=b):=by rw[Bool.eq_iff_iff];simp
theorem par_end {ps:List ByteArray} {x:ByteArray} {k:Nat} {b:Bool} (h:(ps.drop k).any (fun y=>decide (y=x))=b) (hk:¬k < ps.length):b=false:=by
 rw[List.drop_eq_nil_of_le (by omega)]at h
 exact h.symm
theorem par_hit {ps:List ByteArray} {x:ByteArray} {k:Nat} {b:Bool} (h:(ps.drop k).any (fun y=>decide (y=x))=b) (hk:k < ps.length) (hd:ps[k]=x):b=true:=by
 rw[List.drop_eq_getElem_cons hk,List.any_cons]at h
 rw[←h]
 simp[hd]
theorem par_miss {ps:List ByteArray} {x:ByteArray} {k:Nat} {b:Bool} (h:(ps.drop k).any (fun y=>decide (y=x))=b) (hk:k < ps.length) (hd:¬ps[k]=x):(ps.drop (k+1)).any (fun y=>decide (y=x))=b:=by
 rw[List.drop_eq_getElem_cons hk,List.any_cons]at h
 rw[←h]
 simp[hd]
theorem zm {w w5:World} (h:Below w.drew.heap.size w.drew w5):Below w.heap.size w w5:=⟨h.os,h.tape,h.output,h.size,h.block⟩
theorem zS (w:World):Below w.heap.size w w.drew:=⟨rfl,rfl,rfl,Nat.le_refl _,fun _ _=>rfl⟩
theorem zC {w:World} {R:Nat} {cs:Array Value} {t:TypeId} (h:w.heap[R]?=some (.cells cs t (0,0))) (i:Nat) (hi:i < cs.size):w.cell? ⟨R,i,none⟩=some cs[i]:=by
 rw[cell_of_row w R i cs t (0,0) h];simp[hi]
theorem zI {w:World} {R:Nat} {cs:Array Value} {t:TypeId} (h:w.heap[R]?=some (.cells cs t (0,0))) (i:Nat):w.frozen? ⟨R,i,none⟩=false:=by
 simp[World.frozen?,h]
theorem zV {w:World} {N:Nat} {o:Obj} (h:w.heap[N]?=some o) (o':Obj):(w.alloc o').heap[N]?=some o:=by
 have hlt:N < w.heap.size:=by
  by_cases h':N < w.heap.size
  ·exact h'
  ·rw[Array.getElem?_eq_none (by omega)]at h;cases h
 rw[Below.heap_alloc _ _ _ hlt]
 exact h
theorem zO {w:World} {M:Nat} {cs:Array Value} {t:TypeId} (h:w.heap[M]?=some (.cells cs t (0,0))) (i:Nat) (v:Value):(w.setCell ⟨M,i,none⟩ v).heap[M]?=some (.cells (cs.setIfInBounds i v) t (0,0)):=by
 show (w.heap.modify M _)[M]?=_
 rw[Array.getElem?_modify]
 simp[h]
theorem zHP {w:World} {b b':Nat} {e:TypeId} {size:Nat} {v:Value} {n:Nat} {xs:List Value} (h:w.ownsRow b e size v n xs) (hb:∀g,v.ownBlock=some g→b'≤g):w.ownsRow b' e size v n xs:=by
 obtain⟨h1,h2⟩:=h
 refine⟨h1,?_⟩
 rcases h2 with h2 | ⟨g,cap,cur,hv,hg,r⟩
 ·exact Or.inl h2
 ·exact Or.inr ⟨g,cap,cur,hv,hb g (by rw[hv];rfl),r⟩
theorem zh {w:World} {b b':Nat} {e:TypeId} {size:Nat} {v:Value} {n:Nat} {xs:List Value} (h:w.ownsRow b e size v n xs) (hb:b'≤b):w.ownsRow b' e size v n xs:=
 zHP h (fun g hg=>Nat.le_trans hb (h.lt g hg).1)
theorem zKk (w:World) (o1 o2:Obj):((w.alloc o1).alloc o2).drew.heap[w.heap.size+1]?=some o2:=by
 show ((w.alloc o1).alloc o2).heap[w.heap.size+1]?=some o2
 have:=heap_alloc_new (w.alloc o1) o2
 simpa using this
theorem zEB {wr w1:World} {o x:Obj} {row:Option Nat} {k:Nat} (hg:(wr.alloc o).grownBy w1 row) (hk:wr.heap[k]?=some x) (hne:row≠some k):w1.heap[k]?=some x:=by
 have hlt:=zJ hk
 rw[hg.block k (by simp;omega) (Ne.symm hne),Below.heap_alloc wr o k hlt]
 exact hk
theorem zC2 {w:World} {B B':Nat} {e e':TypeId} {size size' n n':Nat} {v v':Value} {xs xs':List Value} (h:w.ownsRow B e size v n xs) (h':w.ownsRow B' e' size' v' n' xs') (hne:e≠e'):∀g,v.ownBlock=some g→v'.ownBlock≠some g:=by
 intro g hg hg'
 rcases h.2 with⟨rfl,_⟩| ⟨g1,c1,cur1,hv1,_,hh1,_⟩
 ·cases hg
 ·rcases h'.2 with⟨rfl,_⟩| ⟨g2,c2,cur2,hv2,_,hh2,_⟩
  ·cases hg'
  ·rw[hv1]at hg
   rw[hv2]at hg'
   simp[Value.ownBlock]at hg hg'
   subst hg
   subst hg'
   rw[hh1]at hh2
   simp at hh2
   exact hne hh2.2
theorem zLQ {w w1:World} {o:Obj} {row:Option Nat} {B:Nat} {e:TypeId} {size n:Nat} {v:Value} {xs:List Value} (h:w.ownsRow B e size v n xs) (hg:(w.alloc o).grownBy w1 row) (hne:∀g,v.ownBlock=some g→row≠some g):w1.ownsRow B e size v n xs:=by
 obtain⟨h1,h2⟩:=h
 refine⟨h1,?_⟩
 rcases h2 with h2 | ⟨g,cap,cur,hv,hgB,hh,r⟩
 ·exact Or.inl h2
 ·exact Or.inr ⟨g,cap,cur,hv,hgB,zEB hg hh (hne g (by rw[hv];rfl)),r⟩
namespace Rf
def zAl (b:Int):Bool:=decide (97≤b) && decide (b≤122)
def zBE (b:Int):Bool:=decide (48≤b) && decide (b≤57)
def inB (xs:List ByteArray) (x:ByteArray):Bool:=xs.any (fun y=>decide (y=x))
def zFV:List ByteArray:=[⟨#[118,97,114]⟩,⟨#[97,114,114,97,121]⟩,⟨#[112,114,111,99]⟩,⟨#[101,110,100]⟩,⟨#[101,108,115,101]⟩,⟨#[105,102]⟩,⟨#[119,104,105,108,101]⟩,⟨#[115,101,116]⟩,⟨#[116,111]⟩,⟨#[112,114,105,110,116]⟩,⟨#[114,101,97,100]⟩,⟨#[99,97,108,108]⟩,⟨#[114,101,116,117,114,110]⟩]
def zMr:List ByteArray:=[⟨#[43]⟩,⟨#[45]⟩,⟨#[42]⟩,⟨#[47]⟩,⟨#[37]⟩,⟨#[60]⟩,⟨#[61]⟩,⟨#[40]⟩,⟨#[41]⟩,⟨#[91]⟩,⟨#[93]⟩,⟨#[44]⟩]
def zi (x:ByteArray):Bool:=decide (0 < x.size) && zAl (Rt.zAO x 0) && !inB zFV x
def zAF (x:ByteArray):Bool:=decide (0 < x.size) && zBE (Rt.zAO x 0)
def zBG:List ByteArray:=[⟨#[60]⟩,⟨#[61]⟩]
def zBL:List ByteArray:=[⟨#[43]⟩,⟨#[45]⟩]
def zBh:List ByteArray:=[⟨#[42]⟩,⟨#[47]⟩,⟨#[37]⟩]
def zFg (x:ByteArray):Bool:=zi x || zAF x || (x.toList==[41])|| (x.toList==[93])
def worthTo (s:ByteArray):Nat→Int
 | 0=>0
 | k+1=>wrap64 (wrap64 (10*worthTo s k)+(Rt.zAO s k-48) % 256)
def worth (s:ByteArray):Int:=worthTo s s.size
def runN (s:ByteArray) (a:Nat):Nat:=if zAl (Rt.zAO s a)=true then Rt.cw s 97 122 a else if zBE (Rt.zAO s a)=true then Rt.cw s 48 57 a else 0
def dch (x:ByteArray):Int:=if (x.toList==[40])=true then 1 else if (x.toList==[91])=true then 1 else if (x.toList==[41])=true then -1 else if (x.toList==[93])=true then -1 else 0
def at' (t:List ByteArray) (i:Nat):ByteArray:=t.getD i ⟨#[]⟩
def depth (t:List ByteArray):Nat→Int
 | 0=>0
 | i+1=>depth t i+dch (at' t i)
def zBS (sg t:List ByteArray):Nat→Int
 | 0=>-1
 | i+1=>if inB sg (at' t i)=true∧depth t (i+1)=0∧0 < i∧zFg (at' t (i-1))=true then (i:Int)else zBS sg t i
def last (sg t:List ByteArray):Int:=zBS sg t t.length
theorem zAi {t:List ByteArray} {i:Nat} (h:i < t.length):at' t i=t[i]:=by simp[at',h]
theorem dch_b (x:ByteArray):-1≤dch x∧dch x≤1:=by unfold dch;(repeat' split) <;> omega
theorem zMc (t:List ByteArray):∀i:Nat,-(i:Int)≤depth t i∧depth t i≤i
 | 0=>by simp[depth]
 | i+1=>by
  have:=zMc t i
  have h:=dch_b (at' t i)
  rw[depth];omega
theorem zDK (sg t:List ByteArray):∀i:Nat,-1≤zBS sg t i∧zBS sg t i < (i:Int)∧(zBS sg t i=-1∨0 < zBS sg t i)
 | 0=>by simp[zBS]
 | i+1=>by
  have:=zDK sg t i
  rw[zBS];split <;> omega
theorem zIO (x:ByteArray):((x.toList==[40])=true∧dch x=1)∨((x.toList==[40])=false∧(x.toList==[91])=true∧dch x=1)∨((x.toList==[40])=false∧(x.toList==[91])=false∧(x.toList==[41])=true∧dch x=-1)∨
  ((x.toList==[40])=false∧(x.toList==[91])=false∧(x.toList==[41])=false∧(x.toList==[93])=true∧dch x=-1)∨((x.toList==[40])=false∧(x.toList==[91])=false∧(x.toList==[41])=false∧(x.toList==[93])=false∧dch x=0):=by
 unfold dch
 cases (x.toList==[40]) <;> cases (x.toList==[91]) <;> cases (x.toList==[41]) <;> cases (x.toList==[93]) <;> simp
def zEF (S:List ByteArray→Bool) (t:List ByteArray):Bool:=if last zBG t < 0 then S t else S (t.take (last zBG t).toNat) && S (t.drop ((last zBG t).toNat+1))
def zGj (S T:List ByteArray→Bool) (t:List ByteArray):Bool:=if last zBL t < 0 then T t else S (t.take (last zBL t).toNat) && T (t.drop ((last zBL t).toNat+1))
def zDs (S T:List ByteArray→Bool) (t:List ByteArray):Bool:=if last zBh t < 0 then T t else S (t.take (last zBh t).toNat) && T (t.drop ((last zBh t).toNat+1))
def first (t:List ByteArray):ByteArray:=at' t 0
def final (t:List ByteArray):ByteArray:=at' t (t.length-1)
def zBT (F E C:List ByteArray→Bool) (t:List ByteArray):Bool:=
 if t.length=0 then false else if t.length=1 then zi (first t)|| zAF (first t)
 else if ((first t).toList==[45])=true then F (t.drop 1)
 else if ((first t).toList==[40])=true∧((final t).toList==[41])=true then E ((t.take (t.length-1)).drop 1)else C t
def zBW (E:List ByteArray→Bool) (t:List ByteArray):Bool:=
 if t.length < 4∨((at' t 1).toList==[91])=false∨((final t).toList==[93])=false then false
 else zi (first t) && E ((t.take (t.length-1)).drop 2)
def gr:Nat→Nat→List ByteArray→Bool
 | 0,_,_=>false
 | f+1,0,t=>zEF (gr f 1) t
 | f+1,1,t=>zGj (gr f 1) (gr f 2) t
 | f+1,2,t=>zDs (gr f 2) (gr f 3) t
 | f+1,3,t=>zBT (gr f 3) (gr f 0) (gr f 4) t
 | f+1,_+4,t=>zBW (gr f 0) t
theorem zC6 (sg t:List ByteArray):last sg t=-1∨∃k:Nat,last sg t=k∧0 < k∧k < t.length:=by
 obtain⟨h1,h2,h3⟩:=zDK sg t t.length
 rcases h3 with h | h
 ·exact Or.inl h
 ·exact Or.inr ⟨(last sg t).toNat,by unfold last;omega,by unfold last;omega,by unfold last;omega⟩
theorem zHf {sg t:List ByteArray} {S:List ByteArray→Bool} (hs:sg=zBG) {k:Nat} (h:last sg t=k):zEF S t=(S (t.take k) && S (t.drop (k+1))):=by
 subst hs;unfold zEF;rw[h,if_neg (by omega)];rfl
theorem zHe {t:List ByteArray} {S:List ByteArray→Bool} (h:last zBG t=-1):zEF S t=S t:=by
 unfold zEF;rw[h,if_pos (by omega)]
theorem zI8 {t:List ByteArray} {S T:List ByteArray→Bool} {k:Nat} (h:last zBL t=k):zGj S T t=(S (t.take k) && T (t.drop (k+1))):=by
 unfold zGj;rw[h,if_neg (by omega)];rfl
theorem zI7 {t:List ByteArray} {S T:List ByteArray→Bool} (h:last zBL t=-1):zGj S T t=T t:=by
 unfold zGj;rw[h,if_pos (by omega)]
theorem zHA {t:List ByteArray} {S T:List ByteArray→Bool} {k:Nat} (h:last zBh t=k):zDs S T t=(S (t.take k) && T (t.drop (k+1))):=by
 unfold zDs;rw[h,if_neg (by omega)];rfl
theorem zG9 {t:List ByteArray} {S T:List ByteArray→Bool} (h:last zBh t=-1):zDs S T t=T t:=by
 unfold zDs;rw[h,if_pos (by omega)]
theorem zKM {t:List ByteArray} {F E C F' E' C':List ByteArray→Bool} (h1:2≤t.length→F (t.drop 1)=F' (t.drop 1)) (h2:2≤t.length→E ((t.take (t.length-1)).drop 1)=E' ((t.take (t.length-1)).drop 1)) (h3:C t=C' t):zBT F E C t=zBT F' E' C' t:=by
 unfold zBT
 by_cases hz:t.length=0
 ·rw[if_pos hz,if_pos hz]
 ·by_cases ho:t.length=1
  ·rw[if_neg hz,if_neg hz,if_pos ho,if_pos ho]
  ·rw[h1 (by omega),h2 (by omega),h3]
theorem zNu {t:List ByteArray} {E E':List ByteArray→Bool} (h:4≤t.length→E ((t.take (t.length-1)).drop 2)=E' ((t.take (t.length-1)).drop 2)):zBW E t=zBW E' t:=by
 unfold zBW
 by_cases hz:t.length < 4
 ·rw[if_pos (Or.inl hz),if_pos (Or.inl hz)]
 ·rw[h (by omega)]
theorem zB8:∀(f g r:Nat) (t:List ByteArray),r≤4→5*t.length+5≤f+r→5*t.length+5≤g+r→gr f r t=gr g r t
 | 0,_,_,_,hr,hf,_=>by omega
 | _+1,0,_,_,hr,_,hg=>by omega
 | f+1,g+1,0,t,hr,hf,hg=>by
  show zEF (gr f 1) t=zEF (gr g 1) t
  rcases zC6 zBG t with h | ⟨k,h,h0,hk⟩
  ·rw[zHe h,zHe h];exact zB8 f g 1 t (by omega) (by omega) (by omega)
  ·rw[zHf rfl h,zHf rfl h,zB8 f g 1 (t.take k) (by omega) (by simp;omega) (by simp;omega),zB8 f g 1 (t.drop (k+1)) (by omega) (by simp;omega) (by simp;omega)]
 | f+1,g+1,1,t,hr,hf,hg=>by
  show zGj (gr f 1) (gr f 2) t=zGj (gr g 1) (gr g 2) t
  rcases zC6 zBL t with h | ⟨k,h,h0,hk⟩
  ·rw[zI7 h,zI7 h];exact zB8 f g 2 t (by omega) (by omega) (by omega)
  ·rw[zI8 h,zI8 h,zB8 f g 1 (t.take k) (by omega) (by simp;omega) (by simp;omega),zB8 f g 2 (t.drop (k+1)) (by omega) (by simp;omega) (by simp;omega)]
 | f+1,g+1,2,t,hr,hf,hg=>by
  show zDs (gr f 2) (gr f 3) t=zDs (gr g 2) (gr g 3) t
  rcases zC6 zBh t with h | ⟨k,h,h0,hk⟩
  ·rw[zG9 h,zG9 h];exact zB8 f g 3 t (by omega) (by omega) (by omega)
  ·rw[zHA h,zHA h,zB8 f g 2 (t.take k) (by omega) (by simp;omega) (by simp;omega),zB8 f g 3 (t.drop (k+1)) (by omega) (by simp;omega) (by simp;omega)]
 | f+1,g+1,3,t,hr,hf,hg=>by
  show zBT (gr f 3) (gr f 0) (gr f 4) t=zBT (gr g 3) (gr g 0) (gr g 4) t
  exact zKM (fun _=>zB8 f g 3 _ (by omega) (by simp;omega) (by simp;omega)) (fun _=>zB8 f g 0 _ (by omega) (by simp;omega) (by simp;omega)) (zB8 f g 4 t (by omega) (by omega) (by omega))
 | f+1,g+1,_+4,t,hr,hf,hg=>by
  show zBW (gr f 0) t=zBW (gr g 0) t
  exact zNu (fun _=>zB8 f g 0 _ (by omega) (by simp;omega) (by simp;omega))
def zAV (t:List ByteArray):Bool:=gr (5*t.length+5) 0 t
def zFI (t:List ByteArray):Bool:=gr (5*t.length+4) 1 t
def isTerm (t:List ByteArray):Bool:=gr (5*t.length+3) 2 t
def zBo (t:List ByteArray):Bool:=gr (5*t.length+2) 3 t
def zE8 (t:List ByteArray):Bool:=gr (5*t.length+1) 4 t
def zBd (t:List ByteArray):Bool:=t.all zi
def behindFrom:List ByteArray→Nat→Nat
 | [],_=>0
 | x::r,i=>if (x.toList==[116,111])=true then i else behindFrom r (i+1)
def behind (t:List ByteArray):Nat:=behindFrom t 0
theorem zNy {t:List ByteArray} {k:Nat} (h:k < t.length):behindFrom (t.drop k) k=if (t[k].toList==[116,111])=true then k else behindFrom (t.drop (k+1)) (k+1):=by
 rw[List.drop_eq_getElem_cons h,behindFrom]
theorem zHv:∀(t:List ByteArray) (i:Nat),behindFrom t i=0∨behindFrom t i < i+t.length
 | [],_=>Or.inl rfl
 | x::r,i=>by
  rw[behindFrom]
  split
  ·right;simp
  ·rcases zHv r (i+1)with h | h
   ·exact Or.inl h
   ·right;simp;omega
theorem behind_b (t:List ByteArray):behind t=0∨behind t < t.length:=by
 have:=zHv t 0;unfold behind;omega
def isSet (t:List ByteArray):Bool:=
 if behind t < 2 then false else if behind t=2 then zi (at' t 1) && zAV (t.drop 3)else zE8 ((t.take (behind t)).drop 1) && zAV (t.drop (behind t+1))
def zg (t:List ByteArray):Nat→List (List ByteArray)×Nat
 | 0=>([],0)
 | i+1=>if ((at' t i).toList==[44])=true∧depth t i=0 then ((zg t i).1++[(t.take i).drop (zg t i).2],i+1)else zg t i
def parts (t:List ByteArray):List (List ByteArray):=if t.length=0 then []else (zg t t.length).1++[t.drop (zg t t.length).2]
theorem zGB (t:List ByteArray):∀i,(zg t i).2≤i∧(zg t i).1.length≤i
 | 0=>by simp[zg]
 | i+1=>by
  have:=zGB t i
  rw[zg]
  split
  ·simp;omega
  ·omega
def zEA (t:List ByteArray):Bool:=if t.length < 2 then false else (parts (t.drop 2)).all zAV && zi (at' t 1)
def zEO (t:List ByteArray):Bool:=if t.length=3 then zi (at' t 1) && zAF (at' t 2) && decide (1≤worth (at' t 2)) && decide (worth (at' t 2)≤32)else false
def isKind (t:List ByteArray) (h:List UInt8):Bool:=
 if (h==[101,110,100])=true then decide (t.length=1)else if (h==[101,108,115,101])=true then decide (t.length=1)else if (h==[114,101,116,117,114,110])=true then decide (t.length=1)else if (h==[118,97,114])=true then (decide (t.length=2) && zBd (t.drop 1))else if (h==[114,101,97,100])=true then (decide (t.length=2) && zBd (t.drop 1))else if (h==[112,114,111,99])=true then (decide (2≤t.length∧t.length≤6) && zBd (t.drop 1))else if (h==[105,102])=true then zAV (t.drop 1)else if (h==[119,104,105,108,101])=true then zAV (t.drop 1)else if (h==[112,114,105,110,116])=true then zAV (t.drop 1)else if (h==[115,101,116])=true then isSet t else if (h==[99,97,108,108])=true then zEA t else if (h==[97,114,114,97,121])=true then zEO t else false
def zx (t:List ByteArray):Bool:=if t.length=0 then true else isKind t (first t).toList
def zDb (t:List ByteArray):Bool:=((first t).toList==[118,97,114])|| ((first t).toList==[97,114,114,97,121])|| ((first t).toList==[112,114,111,99])
def zBN (t:List ByteArray):Bool:=((first t).toList==[112,114,111,99])|| ((first t).toList==[105,102])|| ((first t).toList==[119,104,105,108,101])
def zFu (t:List ByteArray) (x:ByteArray):Bool:=zDb t && ((at' t 1).toList==x.toList)
def declFrom:Nat→List (List ByteArray)→ByteArray→Nat
 | _,[],_=>0
 | n,t::r,x=>if zFu t x=true then n else declFrom (n+1) r x
def decl (ls:List (List ByteArray)) (x:ByteArray):Nat:=declFrom 1 ls x
def zAA (ls:List (List ByteArray)) (l:Nat):List ByteArray:=ls.getD l []
def home (ls:List (List ByteArray)):Nat→Nat
 | 0=>0
 | n+1=>if ((first (zAA ls n)).toList==[112,114,111,99])=true then n+1 else home ls n
theorem zr {ls:List (List ByteArray)} {l:Nat} (h:l < ls.length):zAA ls l=ls[l]:=by simp[zAA,h]
theorem zQr {t:List ByteArray} (h:t.length=0):first t=⟨#[]⟩:=by
 have:t=[]:=List.eq_nil_of_length_eq_zero h
 subst this;rfl
theorem zKJ {t:List ByteArray} (h:0 < t.length):first t=t[0]:=zAi h
theorem zKT:∀(ls:List (List ByteArray)) (n:Nat) (x:ByteArray),declFrom n ls x=0∨(n≤declFrom n ls x∧declFrom n ls x < n+ls.length)
 | [],_,_=>Or.inl rfl
 | t::r,n,x=>by
  rw[declFrom]
  split
  ·right;simp
  ·rcases zKT r (n+1) x with h | h
   ·exact Or.inl h
   ·right;simp;omega
theorem zEG (ls:List (List ByteArray)) (x:ByteArray):decl ls x≤ls.length:=by
 have:=zKT ls 1 x
 unfold decl;omega
def tx (ts:List Rt.Tk):List ByteArray:=ts.map (·.text)
end Rf
def zu (w:World) (v:Value) (xs:List ByteArray):Prop:=
 ∃ad cap,v=.slice ad xs.length cap∧xs.length≤cap∧(xs=[]∨∃b o,ad=some ⟨b,o,none⟩∧∀j (h:j < xs.length),w.cell? ⟨b,o+j,none⟩=some (.string xs[j]))
theorem zu.zH {w w':World} {v:Value} {xs:List ByteArray} (h:zu w v xs) (hb:Below w.heap.size w w'):zu w' v xs:=by
 obtain⟨ad,cap,rfl,hc,h⟩:=h
 refine⟨ad,cap,rfl,hc,?_⟩
 rcases h with h | ⟨b,o,rfl,h⟩
 ·exact Or.inl h
 ·exact Or.inr ⟨b,o,rfl,fun j hj=>cell_later hb (h j hj)⟩
theorem zDu {w:World} {B:Nat} {v:Value} {xs:List ByteArray} (h:w.ownsRow B 9 1 v xs.length (xs.map Value.string)):zu w v xs:=by
 have h0:=h
 rcases h.2 with⟨rfl,hn⟩| ⟨g,cap,cur,rfl,_,hh,hn,_⟩
 ·have:xs=[]:=List.eq_nil_of_length_eq_zero hn
  subst this
  exact⟨none,0,rfl,Nat.le_refl _,Or.inl rfl⟩
 ·refine⟨_,cap,rfl,hn,?_⟩
  by_cases hx:xs=[]
  ·exact Or.inl hx
  ·refine Or.inr ⟨g,0,rfl,fun j hj=>?_⟩
   obtain⟨g',c',he,_,_,hc⟩:=zW h0 (j:=j) (u:=.string xs[j]) (by simp[hj])
   simp at he
   rw[Nat.zero_add,he.1]
   exact hc
theorem zBO (b:Int) (w:World):Calls Tryz.prog 130 #[.int .u8 b] w fun e w'=>e=.returned (.bool (Rf.zAl b))∧w'=w:=by
 go_enter Tryz.func130,Tryz.ntmps130
 go_wp2
 all_goals (go_ret;exact⟨zj (by simp_all [Rf.zAl] <;> omega),rfl⟩)
theorem zBl (b:Int) (w:World):Calls Tryz.prog 131 #[.int .u8 b] w fun e w'=>e=.returned (.bool (Rf.zBE b))∧w'=w:=by
 go_enter Tryz.func131,Tryz.ntmps131
 go_wp2
 all_goals (go_ret;exact⟨zj (by simp_all [Rf.zBE] <;> omega),rfl⟩)
theorem zIK (w:World) (v:Value) (xs:List ByteArray) (x:ByteArray) (h:zu w v xs) (hl:xs.length≤100000) :
  Calls Tryz.prog 132 #[v,.string x] w fun e w'=>e=.returned (.bool (Rf.inB xs x))∧w'=w:=by
 obtain⟨ad,cap,rfl,_,h⟩:=h
 have HH:=zB h
 clear h
 go_enter Tryz.func132,Tryz.ntmps132
 go_wp2
 go_loop [5] (fun i=>∃k:Nat,k≤xs.length∧i=.int .i64 k∧(xs.drop k).any (fun y=>decide (y=x))=Rf.inB xs x) (fun i=>xs.length-(intOf i).toNat)
 case atStart=>exact⟨0,Nat.zero_le _,rfl,rfl⟩
 case round=>
  obtain⟨k,hk,rfl,hT⟩:=hrel
  have HT:=zB hT
  clear hT
  by_cases hlt:k < xs.length
  ·rcases zA HH with h | ⟨b,o,rfl,h⟩
   ·rw[h]at hlt;simp at hlt
   have cx:=h k hlt
   have hlt':(k:Int) < (xs.length:Int):=by omega
   clear h
   by_cases hx:xs[k]=x
   ·have HE:=zB (par_hit (zA HT) hlt hx)
    have hx':=Rt.zDv hx
    clear hx
    go_wp2
    go_ret
    exact⟨by rw[zA HE];rfl,rfl⟩
   ·have HE:=zB (par_miss (zA HT) hlt hx)
    have hx':=Rt.zFR hx
    clear hx
    go_wp2
    go_round
    case rel=>exact⟨k+1,by omega,by go_num,zA HE⟩
    case measure=>simp[intOf];omega
  ·have HE:=zB (par_end (zA HT) hlt)
   have hlt':¬(k:Int) < (xs.length:Int):=by omega
   go_wp2
   go_ret
   exact⟨by rw[zA HE];rfl,rfl⟩
theorem zMA (w:World):Calls Tryz.prog 178 #[] w fun e w'=>∃v,e=.returned v∧zu w' v Rf.zFV∧Below w.heap.size w w':=by
 go_enter Tryz.func178,Tryz.ntmps178
 go_wp2
 go_ret
 exact⟨_,rfl,zDu (World.ownsRow_lit (base:=0) w (Rf.zFV.map Value.string).toArray 13 (Nat.zero_le _) (by unfold maxLen;omega) rfl),(Below.refl _ _).alloc (Nat.le_refl _) _⟩
theorem zPw (w:World):Calls Tryz.prog 133 #[] w fun e w'=>∃v,e=.returned v∧zu w' v Rf.zMr∧Below w.heap.size w w':=by
 go_enter Tryz.func133,Tryz.ntmps133
 go_wp2
 go_ret
 exact⟨_,rfl,zDu (World.ownsRow_lit (base:=0) w (Rf.zMr.map Value.string).toArray 12 (Nat.zero_le _) (by unfold maxLen;omega) rfl),(Below.refl _ _).alloc (Nat.le_refl _) _⟩
theorem zDJ (x:ByteArray) (w:World) (hs:x.size≤maxLen):Calls Tryz.prog 138 #[.string x] w fun e w'=>e=.returned (.bool (Rf.zi x))∧Below w.heap.size w w':=by
 unfold maxLen at hs
 go_enter Tryz.func138,Tryz.ntmps138
 go_wp2_with fail
 refine(zMA _).mono ?_
 rintro e w1 ⟨v,rfl,hv,hb1⟩
 go_wp2_with fail
 refine(zIK _ _ _ x hv (by decide)).mono ?_
 rintro e w2 ⟨rfl,rfl⟩
 have HB:=zB hb1
 clear hb1 hv
 by_cases hz:0 < x.size
 ·have hz':(0:Int) < (x.size:Int):=by omega
  have HE:=zB (show Rf.zi x=(Rf.zAl (x[0].toNat:Int) && !Rf.inB Rf.zFV x) by simp[Rf.zi,hz,Rt.zAO])
  go_wp2_with (go_at_call 130;refine(zBO _ _).mono ?_;rintro e w' ⟨rfl,rfl⟩)
  all_goals
   go_ret
   exact⟨by rw[zA HE];exact zj (by simp_all),zA HB⟩
 ·have hz':¬(0:Int) < (x.size:Int):=by omega
  have HE:=zB (show Rf.zi x=false by simp[Rf.zi,hz])
  go_wp2_with fail
  go_ret
  exact⟨by rw[zA HE];rfl,zA HB⟩
theorem zC5 (x:ByteArray) (w:World) (hs:x.size≤maxLen):Calls Tryz.prog 139 #[.string x] w fun e w'=>e=.returned (.bool (Rf.zAF x))∧w'=w:=by
 unfold maxLen at hs
 by_cases hz:0 < x.size
 ·have hz':(0:Int) < (x.size:Int):=by omega
  have HE:=zB (show Rf.zAF x=Rf.zBE (x[0].toNat:Int) by simp[Rf.zAF,hz,Rt.zAO])
  go_enter Tryz.func139,Tryz.ntmps139
  go_wp2_with (go_at_call 131;refine(zBl _ _).mono ?_;rintro e w' ⟨rfl,rfl⟩)
  go_ret
  exact⟨by rw[zA HE];first | rfl | simp,rfl⟩
 ·have hz':¬(0:Int) < (x.size:Int):=by omega
  have HE:=zB (show Rf.zAF x=false by simp[Rf.zAF,hz])
  go_enter Tryz.func139,Tryz.ntmps139
  go_wp2_with fail
  go_ret
  exact⟨by rw[zA HE];rfl,rfl⟩
theorem zH2 (s:ByteArray) (w:World) (hs:s.size≤maxLen) :
  Calls Tryz.prog 93 #[.string s] w fun e w'=>e=.returned (.int .i64 (Rf.worth s))∧w'=w:=by
 unfold maxLen at hs
 go_enter Tryz.func93,Tryz.ntmps93
 go_wp2
 go_loop [3,4] (fun v i=>∃k:Nat,k≤s.size∧i=.int .i64 k∧v=.int .i64 (Rf.worthTo s k)) (fun _ i=>s.size-(intOf i).toNat)
 case atStart=>exact⟨0,Nat.zero_le _,rfl,rfl⟩
 case round=>
  obtain⟨k,hk,rfl,rfl⟩:=hrel
  by_cases hlt:k < s.size
  ·have HB:Hid (Rt.zAO s k=(s[k].toNat:Int)):=Rt.zAo hlt
   go_wp2
   go_round
   case rel=>exact⟨k+1,by omega,by go_num,by rw[Rf.worthTo,HB.out]⟩
   case measure=>simp[intOf];omega
  ·have hkk:k=s.size:=by omega
   subst hkk
   go_wp2
   go_ret
   exact⟨rfl,rfl⟩
theorem zGY (w:World):Calls Tryz.prog 175 #[] w fun e w'=>∃v,e=.returned v∧zu w' v Rf.zBG∧Below w.heap.size w w':=by
 go_enter Tryz.func175,Tryz.ntmps175
 go_wp2
 go_ret
 exact⟨_,rfl,zDu (World.ownsRow_lit (base:=0) w (Rf.zBG.map Value.string).toArray 2 (Nat.zero_le _) (by unfold maxLen;omega) rfl),(Below.refl _ _).alloc (Nat.le_refl _) _⟩
theorem zKl (w:World):Calls Tryz.prog 204 #[] w fun e w'=>∃v,e=.returned v∧zu w' v Rf.zBL∧Below w.heap.size w w':=by
 go_enter Tryz.func204,Tryz.ntmps204
 go_wp2
 go_ret
 exact⟨_,rfl,zDu (World.ownsRow_lit (base:=0) w (Rf.zBL.map Value.string).toArray 2 (Nat.zero_le _) (by unfold maxLen;omega) rfl),(Below.refl _ _).alloc (Nat.le_refl _) _⟩
theorem zHi (w:World):Calls Tryz.prog 209 #[] w fun e w'=>∃v,e=.returned v∧zu w' v Rf.zBh∧Below w.heap.size w w':=by
 go_enter Tryz.func209,Tryz.ntmps209
 go_wp2
 go_ret
 exact⟨_,rfl,zDu (World.ownsRow_lit (base:=0) w (Rf.zBh.map Value.string).toArray 3 (Nat.zero_le _) (by unfold maxLen;omega) rfl),(Below.refl _ _).alloc (Nat.le_refl _) _⟩
theorem zNA (x:ByteArray) (w:World) (hs:x.size≤maxLen):Calls Tryz.prog 203 #[.string x] w fun e w'=>e=.returned (.bool (Rf.zFg x))∧Below w.heap.size w w':=by
 go_enter Tryz.func203,Tryz.ntmps203
 go_wp2_with fail
 refine(zDJ x _ hs).mono ?_
 rintro e w1 ⟨rfl,hb1⟩
 have HB:=zB hb1
 have HE:=zB (show Rf.zFg x=(Rf.zi x || Rf.zAF x || (x.toList==[41])|| (x.toList==[93]))from rfl)
 clear hb1
 cases hn:Rf.zi x with
 | true=>
  go_wp2_with fail
  go_ret
  exact⟨by rw[zA HE,hn];rfl,zA HB⟩
 | false=>
  cases hm:Rf.zAF x with
  | true=>
   go_wp2_with (go_at_call 139;refine(zC5 x _ hs).mono ?_;rintro e w' ⟨rfl,rfl⟩;rw[hm])
   go_ret
   exact⟨by rw[zA HE,hn,hm];rfl,zA HB⟩
  | false=>
   go_wp2_with (go_at_call 139;refine(zC5 x _ hs).mono ?_;rintro e w' ⟨rfl,rfl⟩;rw[hm])
   all_goals
    go_ret
    exact⟨by rw[zA HE,hn,hm];exact zj (by simp_all),zA HB⟩
end Go.Proofs.YthleadfkfnnadaaGreat
