/- Plain facts, continued. -/
import Derived.KernelRfl
import Derived.WalkKit
import Derived.Test.YthleadfkfnnadaaGreatProg
import Derived.WalkSpells
import Derived.WalkLawsBesides
import Derived.Deep.QuietTactic
import Derived.BigQuiet
import Derived.Deep.RegionHeld3
import Derived.Deep.AppendLies
import Derived.Deep.DrawnRows
import Derived.Deep.RegionLaw
import Derived.Deep.LoopGhost
set_option maxHeartbeats 4000000
set_option maxRecDepth 100000
set_option linter.unusedSimpArgs false
namespace Go.Proofs.YthleadfkfnnadaaGreat
open Go.Proofs.Tryz
variable {cs:Array Value} {a x:ByteArray} {b:Int} {ps t:List ByteArray} {xs:List Value} {B size n N k R b':Nat} {o:Obj} {row:Option Nat} {e:TypeId} {v:Value} {w wr w1 w':World}
abbrev zA:=@if_neg
abbrev zB:=@Nat.le_refl
abbrev zE:=@if_pos
abbrev zI:=@Go.RowKit.Below.refl
abbrev zJ:=@List.getElem?_eq_getElem
abbrev zN:=@Go.heap_alloc_new
abbrev zO:=@Go.RowKit.Below.heap_setCell
abbrev zT:=@Go.bodyPost_ret
abbrev zV:=@beq_eq_false_iff_ne
abbrev zW:=@Go.World.ownsRow_nil
abbrev ze:=@List.length_append
abbrev zX:=@Nat.lt_of_lt_of_le
abbrev zY:=@List.mem_append_left
abbrev zi:=@Nat.le_trans
abbrev zZ:=@List.drop_eq_getElem_cons
abbrev zd:=@List.mem_append
abbrev zj:=@List.getElem_mem
abbrev zb:=@List.mem_append_right
abbrev zo:=@Nat.zero_le
abbrev zm:=@List.mem_cons_of_mem
abbrev zl:=@Go.IntWalk.i64_in
abbrev yC:=@Go.IntWalk.wrap64_in
abbrev zu:=@Nat.add_sub_cancel
abbrev zp:=@List.drop_eq_nil_of_le
abbrev zt:=@Go.World.block_lt_of_cell?
abbrev zv:=@List.getElem_cons_zero
abbrev zw:=@List.mem_cons
abbrev zx:=@Option.some.injEq
abbrev yB:=@List.map_append
abbrev zy:=@Bool.and_eq_true
abbrev yE:=@List.length_cons
abbrev yF:=@List.cons_append
abbrev yU:=@List.getElem?_append_right
abbrev yH:=@List.getElem_cons_succ
abbrev yl:=@List.length_singleton
abbrev yS:=@decide_eq_true_eq
abbrev yK:=@List.append_assoc
abbrev yN:=@List.mem_singleton
abbrev yQ:=@List.getElem_toArray
abbrev yL:=@Bool.eq_false_iff
abbrev yv:=@Go.IntWalk.i64_left
abbrev xj:=@List.dropLast_concat_getLast
abbrev yX:=@List.append_nil
abbrev yi:=@Go.info_parts
abbrev yZ:=@Prod.mk.injEq
abbrev xD:=@Go.World.cell?_setCell_other
abbrev xk:=@List.getLastD_eq_getLast?
abbrev yp:=@List.getElem?_append_left
abbrev yr:=@Int.eq_ofNat_of_zero_le
abbrev xB:=@List.mem_cons_self
abbrev xG:=@Go.World.cell?_of_block
abbrev yt:=@List.getElem?_map
abbrev yu:=@List.eq_nil_of_length_eq_zero
abbrev xn:=@Array.getElem?_setIfInBounds_ne
abbrev yw:=@List.take_of_length_le
abbrev xp:=@List.length_drop
abbrev xo:=@List.dropLast_concat
abbrev xN:=@List.nil_append
abbrev xK:=@Ne.symm
abbrev xI:=@List.getElem_append_left
abbrev xJ:=@Go.Value.slice.injEq
abbrev xL:=@List.getD_eq_getElem?_getD
abbrev qW:=@List.getElem?_modify
abbrev xO:=@Bool.eq_iff_iff
abbrev xW:=@Nat.zero_add
abbrev xQ:=@Go.wpList_append_own
abbrev xS:=@Int.toNat_natCast
abbrev xd:=@List.getLast?_eq_some_getLast
abbrev xm:=@List.getElem_append_right
abbrev qR:=@List.length_map
abbrev YK:=@List.length_modify
abbrev xr:=@List.mem_map
abbrev xt:=@List.getElem?_eq_none
abbrev qj:=@Array.getElem?_setIfInBounds_self_of_lt
abbrev xw:=@beq_iff_eq
abbrev qA:=@decide_eq_true
abbrev qB:=@congrArg
abbrev qO:=@Nat.add_zero
abbrev qE:=@List.pairwise_append
abbrev qF:=@List.mem_of_getElem?
abbrev qL:=@Go.RowKit.ownsRow_setCell_below
abbrev qe:=@List.set_append_right
abbrev qN:=@List.length_replicate
abbrev jW:=@List.getElem_modify
abbrev qP:=@decide_eq_false
abbrev qQ:=@List.length_nil
abbrev jw:=@List.length_take
abbrev qy:=@List.getElem?_eq_some_iff
abbrev jD:=@List.length_set
abbrev qb:=@List.not_mem_nil
abbrev qp:=@List.map_cons
abbrev qc:=@List.getElem_map
abbrev qf:=@of_decide_eq_true
abbrev jC:=@Nat.sub_self
abbrev kW:=@not_not_intro
abbrev qw:=@List.ext_getElem
abbrev kN:=@List.zipWith_append
abbrev qz:=@List.take_succ_cons
abbrev vD:=@Nat.min_eq_left
abbrev jG:=@decide_eq_true_iff
abbrev jH:=@true_and
abbrev jJ:=@and_true
abbrev jT:=@List.zipWith_cons_cons
abbrev jU:=@List.nodup_append
abbrev jX:=@List.drop_succ_cons
abbrev kt:=@List.take_append_drop
abbrev je:=@List.getElem?_zipWith
abbrev ju:=@List.mem_filterMap
abbrev jx:=@Go.RowKit.Below.heap_alloc
abbrev kG:=@List.take_append_of_le_length
abbrev vL:=@List.dropLast_subset
abbrev kH:=@decide_eq_false_iff_not
abbrev vY:=@Nat.add_sub_cancel_left
abbrev kI:=@List.take_add_one
abbrev kO:=@List.length_pos_iff
abbrev kV:=@ByteArray.size_extract
abbrev vj:=@Go.cell_of_row
abbrev kY:=@List.all_cons
abbrev ki:=@Go.heap_alloc_old
abbrev Zd:=@Array.getElem?_eq_some_iff
abbrev Zt:=@Decidable.byContradiction
abbrev vE:=@List.cons.injEq
abbrev XU:=@List.length_dropLast
abbrev vN:=@Nat.add_assoc
abbrev vT:=@List.map_congr_left
abbrev Zp:=@List.take_length
abbrev vZ:=@List.all_eq_true
abbrev vn:=@List.getElem_range
abbrev vp:=@List.getElem?_drop
abbrev YL:=@Bool.false_eq_true
abbrev vq:=@Array.getElem?_eq_none
abbrev Xf:=@Option.map_some
abbrev vw:=@List.any_cons
abbrev ZB:=@List.singleton_append
abbrev ZC:=@List.eq_nil_or_concat
abbrev ZD:=@Array.getElem?_modify
abbrev ZI:=@Go.World.ownsRow_lit
abbrev Qv:=@Option.map_eq_map
abbrev ZR:=@Go.step_end
abbrev Zb:=@List.tail_cons
abbrev Zc:=@List.tail_append_of_ne_nil
abbrev Zn:=@Option.getD_some
abbrev Ye:=@List.map_nil
abbrev Zq:=@List.getElem_set
abbrev Zr:=@List.drop_append
abbrev Zw:=@Go.ByteArray.toList_mk
abbrev Z2:=@or_false
abbrev Z6:=@Prod.ext
abbrev Z7:=@List.drop_one
abbrev Z9:=@Go.Addr.mk.injEq
abbrev YB:=@List.nodup_cons
abbrev YC:=@Bool.or_eq_true
abbrev YP:=@List.getElem?_replicate
abbrev Yf:=@List.drop_zero
abbrev Yg:=@Decidable.not_not
abbrev Yh:=@Go.DataW.trod_int
abbrev Yl:=@List.modify_succ_cons
abbrev Y7:=@Nat.le_max_right
abbrev JV:=@List.getLast_mem
abbrev XT:=@List.mem_iff_getElem
abbrev XV:=@List.getLastD_concat
abbrev J4:=@List.take_left'
abbrev Xi:=@List.getElem?_range
abbrev Xj:=@List.flatten_append
abbrev Xs:=@Nat.add_comm
abbrev QE:=@Go.run_underlying
abbrev Qu:=@Option.mem_toList
abbrev Qx:=@List.map_dropLast
abbrev Qy:=@List.length_range
abbrev Qz:=@List.flatten_cons
abbrev Q0:=@List.flatMap_cons
abbrev bj:=@Nat.lt_or_ge
abbrev Jz:=@List.map_map
abbrev J5:=@List.set_append
abbrev KV:=@or_assoc
abbrev Kn:=@Nat.mul_one
abbrev Ko:=@List.take_take
abbrev Vd:=@Bool.true_and
abbrev Ve:=@Bool.false_or
abbrev Hm:=@if_false
abbrev bk:=@List.map_set
abbrev bn:=@List.any_nil
abbrev bq:=@Go.Addr.add_lit
abbrev eY:=@eq_comm
namespace Rt
theorem GH {b:ByteArray} (h:a.toList=b.toList):a=b:=by
 rw[ByteArray.toList_eq,ByteArray.toList_eq]at h;cases a;cases b;simp at h;simp[h]
theorem me (a b:ByteArray):(a.toList==b.toList)=decide (a=b):=by
 rw[xO,xw,jG];exact⟨GH,fun h=>by rw[h]⟩
theorem ZF {l:List UInt8}:(a.toList==l)=decide (a=⟨l.toArray⟩):=by
 have h:=me a ⟨l.toArray⟩;rw[show (ByteArray.mk l.toArray).toList=l from Zw l]at h;exact h
theorem KI {b:ByteArray} (h:¬a=b):(a.toList==b.toList)=false:=by rw[me];simpa using h
theorem QB {b:ByteArray} (h:a=b):(a.toList==b.toList)=true:=by rw[me];simpa using h
def within (lo hi:Int) (b:UInt8):Bool:=decide (lo<=(b.toNat:Int)/\(b.toNat:Int)<=hi)
def cw (s:ByteArray) (lo hi:Int) (a:Nat):Nat:=((s.data.toList.drop a).takeWhile (within lo hi)).length
theorem Bp {α:Type} (p:α->Bool):∀(l:List α) (k:Nat),k<=l.length->(∀j (h:j < l.length),j < k->p l[j]=true)->(∀h:k < l.length,p l[k]=false)->(l.takeWhile p).length=k
 | [],k,hk,_,_=>by simp at hk;simp[hk]
 | x::r,0,_,_,h3=>by
  have:=h3 (by simp);simp at this;simp[this]
 | x::r,k+1,hk,h2,h3=>by
  have d:=h2 0 (by simp) (by omega);simp at d;have f:=Bp p r k (by simpa using hk) (fun j h hj=>by have:=h2 (j+1) (by simpa using h) (by omega);simpa using this) (fun h=>by have:=h3 (by simpa using h);simpa using this);simp[d,f]
theorem bJ (s:ByteArray) (d f:Int) (a e:Nat) (k:a<=e) (z:e<=s.size) (x:∀j (h:j < s.size),a<=j->j < e->within d f s[j]=true) (o:∀h:e < s.size,within d f s[e]=false):cw s d f a=e-a:=by
 have i:s.data.toList.length=s.size:=by simp
 refine Bp _ _ _ (by simp;omega) (fun j h hj=>?_) (fun h=>?_)
 ·simp at h;have:=x (a+j) (by omega) (by omega) (by omega);simp only[List.getElem_drop];exact this
 ·simp at h;have:=o (by omega);have y:a+(e-a)=e:=by omega
  simp only[List.getElem_drop,y];exact this
theorem ux (s:ByteArray) (d f:Int) (a:Nat) (i:a<=s.size):a+cw s d f a<=s.size:=by
 unfold cw;have h:=List.IsPrefix.length_le (List.takeWhile_prefix (within d f) (l:=s.data.toList.drop a));simp at h;omega
def sign (b:Int):Bool:=decide (b∈[43,45,42,47,37,60,61,40,41,91,93,44])
def qC (s:ByteArray) (a:Nat):Int:=if h:a < s.size then (s[a].toNat:Int)else 0
theorem jB {s:ByteArray} {a:Nat} (h:a < s.size):qC s a=(s[a].toNat:Int):=by simp[qC,h]
def YZ (s:ByteArray) (a:Nat):Int:=
 if 8 < cw s 97 122 a then 0 else if 0 < cw s 97 122 a then 1 else if 9 < cw s 48 57 a then 0 else if 0 < cw s 48 57 a then 2
 else if a < s.size/\sign (qC s a)=true then 3 else 0
def jL (s:ByteArray) (a:Nat):Nat:=
 if 8 < cw s 97 122 a then 0 else if 0 < cw s 97 122 a then cw s 97 122 a else if 9 < cw s 48 57 a then 0 else if 0 < cw s 48 57 a then cw s 48 57 a
 else if a < s.size/\sign (qC s a)=true then 1 else 0
theorem ou (s:ByteArray) (a:Nat) (d:a<=s.size):a+jL s a<=s.size:=by
 have h:=ux s 97 122 a d;have f:=ux s 48 57 a d;unfold jL
 repeat' split
 all_goals omega
structure Tk where
 kind:Int
 text:ByteArray
def eK (t:Tk):List Value:=[.int .i64 t.kind,.string t.text]
def qa (ts:List Tk):List Value:=ts.flatMap eK
theorem fB {ts:List Tk} {t:Tk}:qa (ts++[t])=qa ts++[.int .i64 t.kind,.string t.text]:=by simp[qa,eK]
def toksFrom (s:ByteArray):Nat->Nat->List Tk->Option (List Tk)
 | 0,_,_=>none
 | f+1,a,acc=>
  if a < s.size then
   if qC s a=32 then toksFrom s f (a+1) acc
   else if jL s a=0\/24<=acc.length then none
   else toksFrom s f (a+jL s a) (acc++[⟨YZ s a,s.extract a (a+jL s a)⟩])
  else some acc
def yY (s:ByteArray):Option (List Tk):=toksFrom s (s.size+1) 0 []
def linesFrom (s:ByteArray):Nat->Nat->Nat->List ByteArray->List ByteArray
 | 0,_,_,acc=>acc
 | f+1,start,i,acc=>
  if i < s.size then
   if qC s i=10 then linesFrom s f (i+1) (i+1) (acc++[s.extract start i])else linesFrom s f start (i+1) acc
  else acc++[s.extract start s.size]
def lines (s:ByteArray):List ByteArray:=linesFrom s (s.size+1) 0 0 []
def cJ:List (List UInt8):=[[118,97,114],[97,114,114,97,121],[112,114,111,99],[101,110,100],[101,108,115,101],[105,102],[119,104,105,108,101],[115,101,116],[116,111],[112,114,105,110,116],[114,101,97,100],[99,97,108,108],[114,101,116,117,114,110]]
def aL (s:ByteArray):Bool:=cJ.any (fun l=>s.toList==l)
def yI (s:ByteArray):Int:=
 if s.toList==[43]then 5 else if s.toList==[45]then 6 else if s.toList==[42]then 7 else if s.toList==[47]then 8 else if s.toList==[37]then 9
 else if s.toList==[60]then 10 else if s.toList==[61]then 11 else 0
def nls (s:ByteArray):Nat->Nat
 | 0=>0
 | k+1=>nls s k+(if qC s k=10 then 1 else 0)
theorem Fy (s:ByteArray) (k:Nat):nls s k<=k:=by
 induction k with
 | zero=>simp[nls]
 | succ k ih=>simp only[nls];split <;> omega
def ZE (s:ByteArray):Bool:=decide (40000 < s.size)|| decide (100 < 1+nls s s.size)
end Rt
open Rt
section
open Go.RowKit
theorem km {k:IntKind} {a:Int} (h:a=b):Ending.returned (.int k a)=.returned (.int k b):=by rw[h]
theorem eT:(Tryz.prog.info? 9).map (fun i=>(i.zero,i.size,i.bytes))=some (some (.string ByteArray.empty),1,16):=by kernel_rfl
theorem qY (h:Below B w wr) (i:B<=wr.heap.size) (f:wr.ownsRow B e size v n xs) (d:(wr.alloc o).grownBy w1 v.ownBlock):Below B w w1:=
 (h.alloc i o).grown d (by simp;omega) (fun j hj=>(f.lt j hj).1)
theorem zK (h:w.ownsRow B e size v n xs):∃ad cap,v=.slice ad n cap:=by
 obtain⟨_,h⟩:=h;rcases h with⟨rfl,rfl⟩| ⟨g,cap,cur,rfl,_⟩
 ·exact⟨_,_,rfl⟩
 ·exact⟨_,_,rfl⟩
theorem beqT {a:Int} (h:(a==b)=true):a=b:=by simpa using h
theorem beqF {a:Int} (h:(a==b)=false):¬a=b:=by simpa using h
def Hd(p:Prop):Prop:=p
theorem Hd.u {p:Prop} (h:Hd p):p:=h
theorem Hd.out {p:Prop} (h:Hd p):p:=h
theorem unhide {p:Prop} (h:Hd p):p:=h
theorem zD {p:Prop} (h:p):Hd p:=h
theorem qG {a b:Prop} (j:a) (i:b):Hd (a/\b):=⟨j,i⟩
theorem XX {a b c:Prop} (j:a) (i:b) (hc:c):Hd (a/\b/\c):=⟨j,i,hc⟩
theorem gN {a b c d:Prop} (j:a) (i:b) (hc:c) (hd:d):Hd (a/\b/\c/\d):=⟨j,i,hc,hd⟩
theorem DA {a b c d e:Prop} (j:a) (i:b) (hc:c) (hd:d) (he:e):Hd (a/\b/\c/\d/\e):=⟨j,i,hc,hd,he⟩
theorem GW {a b c d e f:Prop} (j:a) (i:b) (hc:c) (hd:d) (he:e) (hf:f):Hd (a/\b/\c/\d/\e/\f):=⟨j,i,hc,hd,he,hf⟩
theorem hd7 {a b c d e f g:Prop} (j:a) (i:b) (hc:c) (hd:d) (he:e) (hf:f) (hg:g):Hd (a/\b/\c/\d/\e/\f/\g):=⟨j,i,hc,hd,he,hf,hg⟩
theorem hd8 {a b c d e f g h:Prop} (j:a) (i:b) (hc:c) (hd:d) (he:e) (hf:f) (hg:g) (hh:h):Hd (a/\b/\c/\d/\e/\f/\g/\h):=⟨j,i,hc,hd,he,hf,hg,hh⟩
theorem zQ (h:w.heap[N]?=some o):N < w.heap.size:=by
 by_cases d:N < w.heap.size
 ·exact d
 ·rw[vq (by omega)]at h;cases h
theorem yD (h:w.ownsRow B e size v n xs) {j:Nat} {u:Value} (hj:xs[j]?=some u):∃g cap,v=.slice (some ⟨g,0,none⟩) n cap/\B<=g/\g < w.heap.size/\w.cell? ⟨g,j,none⟩=some u:=by
 obtain⟨d,h2⟩:=h;rcases h2 with⟨rfl,rfl⟩| ⟨g,cap,cur,rfl,hg,hh,hn,hc,hs,ht⟩
 ·have:xs=[]:=yu (by simpa using d);subst this;simp at hj
 ·refine⟨g,cap,rfl,hg,zQ hh,?_⟩;rw[vj w g j cur e (0,0) hh];rw[<-ht,List.getElem?_take]at hj;split at hj
  ·simpa using hj
  ·cases hj
theorem yG (h:w.ownsRow B e size v n xs) (d:Below w.heap.size w w'):w'.ownsRow B e size v n xs:=by
 obtain⟨f,h2⟩:=h;refine⟨f,?_⟩;rcases h2 with h2 | ⟨g,cap,cur,hv,hg,hh,r⟩
 ·exact Or.inl h2
 ·exact Or.inr ⟨g,cap,cur,hv,hg,by rw[d.block g (zQ hh)];exact hh,r⟩
theorem zU (h:w.heap[N]?=some o) (d:Below w.heap.size w w'):w'.heap[N]?=some o:=by rw[d.block N (zQ h)];exact h
theorem yj {a b:Bool} (h:a=b):Ending.returned (.bool a)=.returned (.bool b):=by rw[h]
theorem beq_eq_decide {a:Int}:(a==b)=decide (a=b):=by rw[xO];simp
theorem EP {b:Bool} (h:(ps.drop k).any (fun y=>decide (y=x))=b) (d:¬k < ps.length):b=false:=by
 rw[zp (by omega)]at h;exact h.symm
theorem EO {b:Bool} (h:(ps.drop k).any (fun y=>decide (y=x))=b) (d:k < ps.length) (f:ps[k]=x):b=true:=by
 rw[zZ d,vw]at h;rw[<-h];simp[f]
theorem CM {b:Bool} (h:(ps.drop k).any (fun y=>decide (y=x))=b) (d:k < ps.length) (f:¬ps[k]=x):(ps.drop (k+1)).any (fun y=>decide (y=x))=b:=by
 rw[zZ d,vw]at h;rw[<-h];simp[f]
theorem yh {w5:World} (h:Below w.drew.heap.size w.drew w5):Below w.heap.size w w5:=⟨h.os,h.tape,h.output,h.size,h.block⟩
theorem zh (w:World):Below w.heap.size w w.drew:=⟨rfl,rfl,rfl,zB _,fun _ _=>rfl⟩
theorem zC {t:TypeId} (h:w.heap[R]?=some (.cells cs t (0,0))) (i:Nat) (d:i < cs.size):w.cell? ⟨R,i,none⟩=some cs[i]:=by
 rw[vj w R i cs t (0,0) h];simp[d]
theorem zS {t:TypeId} (h:w.heap[R]?=some (.cells cs t (0,0))) (i:Nat):w.frozen? ⟨R,i,none⟩=false:=by
 simp[World.frozen?,h]
theorem yR (h:w.heap[N]?=some o) (f:Obj):(w.alloc f).heap[N]?=some o:=by
 have d:N < w.heap.size:=by
  by_cases i:N < w.heap.size
  ·exact i
  ·rw[vq (by omega)]at h;cases h
 rw[jx _ _ _ d];exact h
theorem zf {M:Nat} {t:TypeId} (h:w.heap[M]?=some (.cells cs t (0,0))) (i:Nat) (v:Value):(w.setCell ⟨M,i,none⟩ v).heap[M]?=some (.cells (cs.setIfInBounds i v) t (0,0)):=by
 show (w.heap.modify M _)[M]?=_;rw[ZD];simp[h]
theorem Je {b:Nat} (h:w.ownsRow b e size v n xs) (d:∀g,v.ownBlock=some g->b'<=g):w.ownsRow b' e size v n xs:=by
 obtain⟨f,h2⟩:=h;refine⟨f,?_⟩;rcases h2 with h2 | ⟨g,cap,cur,hv,hg,r⟩
 ·exact Or.inl h2
 ·exact Or.inr ⟨g,cap,cur,hv,d g (by rw[hv];rfl),r⟩
theorem yn {b:Nat} (h:w.ownsRow b e size v n xs) (d:b'<=b):w.ownsRow b' e size v n xs:=
 Je h (fun g hg=>zi d (h.lt g hg).1)
theorem iC (w:World) {o1 o2:Obj}:((w.alloc o1).alloc o2).drew.heap[w.heap.size+1]?=some o2:=by
 show ((w.alloc o1).alloc o2).heap[w.heap.size+1]?=some o2;have:=zN (w.alloc o1) o2;simpa using this
theorem QW {x:Obj} (i:(wr.alloc o).grownBy w1 row) (h:wr.heap[k]?=some x) (d:row≠some k):w1.heap[k]?=some x:=by
 have f:=zQ h;rw[i.block k (by simp;omega) (xK d),jx wr o k f];exact h
theorem Ys {B':Nat} {e':TypeId} {size' n':Nat} {v':Value} {xs':List Value} (h:w.ownsRow B e size v n xs) (i:w.ownsRow B' e' size' v' n' xs') (f:e≠e'):∀g,v.ownBlock=some g->v'.ownBlock≠some g:=by
 intro g hg d;rcases h.2 with⟨rfl,_⟩| ⟨g1,c1,Eu,hv1,_,hh1,_⟩
 ·cases hg
 ·rcases i.2 with⟨rfl,_⟩| ⟨g2,c2,cur2,hv2,_,hh2,_⟩
  ·cases d
  ·rw[hv1]at hg;rw[hv2]at d;simp[Value.ownBlock]at hg d;subst hg;subst d;rw[hh1]at hh2;simp at hh2;exact f hh2.2
theorem lQ (h:w.ownsRow B e size v n xs) (f:(w.alloc o).grownBy w1 row) (d:∀g,v.ownBlock=some g->row≠some g):w1.ownsRow B e size v n xs:=by
 obtain⟨i,h2⟩:=h;refine⟨i,?_⟩;rcases h2 with h2 | ⟨g,cap,cur,hv,hgB,hh,r⟩
 ·exact Or.inl h2
 ·exact Or.inr ⟨g,cap,cur,hv,hgB,QW f hh (d g (by rw[hv];rfl)),r⟩
namespace Rf
def qt (b:Int):Bool:=decide (97<=b) && decide (b<=122)
def jo (b:Int):Bool:=decide (48<=b) && decide (b<=57)
def kp (xs:List ByteArray) (x:ByteArray):Bool:=xs.any (fun y=>decide (y=x))
def KM:List ByteArray:=[⟨#[118,97,114]⟩,⟨#[97,114,114,97,121]⟩,⟨#[112,114,111,99]⟩,⟨#[101,110,100]⟩,⟨#[101,108,115,101]⟩,⟨#[105,102]⟩,⟨#[119,104,105,108,101]⟩,⟨#[115,101,116]⟩,⟨#[116,111]⟩,⟨#[112,114,105,110,116]⟩,⟨#[114,101,97,100]⟩,⟨#[99,97,108,108]⟩,⟨#[114,101,116,117,114,110]⟩]
def nu:List ByteArray:=[⟨#[43]⟩,⟨#[45]⟩,⟨#[42]⟩,⟨#[47]⟩,⟨#[37]⟩,⟨#[60]⟩,⟨#[61]⟩,⟨#[40]⟩,⟨#[41]⟩,⟨#[91]⟩,⟨#[93]⟩,⟨#[44]⟩]
def yg (x:ByteArray):Bool:=decide (0 < x.size) && qt (Rt.qC x 0) && !kp KM x
def xi (x:ByteArray):Bool:=decide (0 < x.size) && jo (Rt.qC x 0)
def kF:List ByteArray:=[⟨#[60]⟩,⟨#[61]⟩]
def kL:List ByteArray:=[⟨#[43]⟩,⟨#[45]⟩]
def vJ:List ByteArray:=[⟨#[42]⟩,⟨#[47]⟩,⟨#[37]⟩]
def KX (x:ByteArray):Bool:=yg x || xi x || (x.toList==[41])|| (x.toList==[93])
def worthTo (s:ByteArray):Nat->Int
 | 0=>0
 | k+1=>wrap64 (wrap64 (10*worthTo s k)+(Rt.qC s k-48) % 256)
def worth (s:ByteArray):Int:=worthTo s s.size
def runN (s:ByteArray) (a:Nat):Nat:=if qt (Rt.qC s a)=true then Rt.cw s 97 122 a else if jo (Rt.qC s a)=true then Rt.cw s 48 57 a else 0
def J9 (x:ByteArray):Int:=if (x.toList==[40])=true then 1 else if (x.toList==[91])=true then 1 else if (x.toList==[41])=true then -1 else if (x.toList==[93])=true then -1 else 0
def ve (t:List ByteArray) (i:Nat):ByteArray:=t.getD i ⟨#[]⟩
def depth (t:List ByteArray):Nat->Int
 | 0=>0
 | i+1=>depth t i+J9 (ve t i)
def kQ (sg t:List ByteArray):Nat->Int
 | 0=>-1
 | i+1=>if kp sg (ve t i)=true/\depth t (i+1)=0/\0 < i/\KX (ve t (i-1))=true then (i:Int)else kQ sg t i
def last (sg t:List ByteArray):Int:=kQ sg t t.length
theorem qq {i:Nat} (h:i < t.length):ve t i=t[i]:=by simp[ve,h]
theorem Gm (x:ByteArray):-1<=J9 x/\J9 x<=1:=by unfold J9;(repeat' split) <;> omega
theorem nX (t:List ByteArray):∀i:Nat,-(i:Int)<=depth t i/\depth t i<=i
 | 0=>by simp[depth]
 | i+1=>by
  have:=nX t i;have h:=Gm (ve t i);rw[depth];omega
theorem XK (d t:List ByteArray):∀i:Nat,-1<=kQ d t i/\kQ d t i < (i:Int)/\(kQ d t i=-1\/0 < kQ d t i)
 | 0=>by simp[kQ]
 | i+1=>by
  have:=XK d t i;rw[kQ];split <;> omega
theorem dF (x:ByteArray):((x.toList==[40])=true/\J9 x=1)\/((x.toList==[40])=false/\(x.toList==[91])=true/\J9 x=1)\/((x.toList==[40])=false/\(x.toList==[91])=false/\(x.toList==[41])=true/\J9 x=-1)\/
  ((x.toList==[40])=false/\(x.toList==[91])=false/\(x.toList==[41])=false/\(x.toList==[93])=true/\J9 x=-1)\/((x.toList==[40])=false/\(x.toList==[91])=false/\(x.toList==[41])=false/\(x.toList==[93])=false/\J9 x=0):=by
 unfold J9;cases (x.toList==[40]) <;> cases (x.toList==[91]) <;> cases (x.toList==[41]) <;> cases (x.toList==[93]) <;> simp
def Qa (S:List ByteArray->Bool) (t:List ByteArray):Bool:=if last kF t < 0 then S t else S (t.take (last kF t).toNat) && S (t.drop ((last kF t).toNat+1))
def Vk (S T:List ByteArray->Bool) (t:List ByteArray):Bool:=if last kL t < 0 then T t else S (t.take (last kL t).toNat) && T (t.drop ((last kL t).toNat+1))
def X8 (S T:List ByteArray->Bool) (t:List ByteArray):Bool:=if last vJ t < 0 then T t else S (t.take (last vJ t).toNat) && T (t.drop ((last vJ t).toNat+1))
def first (t:List ByteArray):ByteArray:=ve t 0
def final (t:List ByteArray):ByteArray:=ve t (t.length-1)
def kR (F E C:List ByteArray->Bool) (t:List ByteArray):Bool:=
 if t.length=0 then false else if t.length=1 then yg (first t)|| xi (first t)
 else if ((first t).toList==[45])=true then F (t.drop 1)
 else if ((first t).toList==[40])=true/\((final t).toList==[41])=true then E ((t.take (t.length-1)).drop 1)else C t
def kX (E:List ByteArray->Bool) (t:List ByteArray):Bool:=
 if t.length < 4\/((ve t 1).toList==[91])=false\/((final t).toList==[93])=false then false
 else yg (first t) && E ((t.take (t.length-1)).drop 2)
def gr:Nat->Nat->List ByteArray->Bool
 | 0,_,_=>false
 | f+1,0,t=>Qa (gr f 1) t
 | f+1,1,t=>Vk (gr f 1) (gr f 2) t
 | f+1,2,t=>X8 (gr f 2) (gr f 3) t
 | f+1,3,t=>kR (gr f 3) (gr f 0) (gr f 4) t
 | f+1,_+4,t=>kX (gr f 0) t
theorem Yx (d t:List ByteArray):last d t=-1\/∃k:Nat,last d t=k/\0 < k/\k < t.length:=by
 obtain⟨i,f,h3⟩:=XK d t t.length;rcases h3 with h | h
 ·exact Or.inl h
 ·exact Or.inr ⟨(last d t).toNat,by unfold last;omega,by unfold last;omega,by unfold last;omega⟩
theorem ar {sg:List ByteArray} {S:List ByteArray->Bool} (d:sg=kF) (h:last sg t=k):Qa S t=(S (t.take k) && S (t.drop (k+1))):=by
 subst d;unfold Qa;rw[h,zA (by omega)];rfl
theorem aq {S:List ByteArray->Bool} (h:last kF t=-1):Qa S t=S t:=by
 unfold Qa;rw[h,zE (by omega)]
theorem eM {S T:List ByteArray->Bool} (h:last kL t=k):Vk S T t=(S (t.take k) && T (t.drop (k+1))):=by
 unfold Vk;rw[h,zA (by omega)];rfl
theorem eL {S T:List ByteArray->Bool} (h:last kL t=-1):Vk S T t=T t:=by
 unfold Vk;rw[h,zE (by omega)]
theorem aG {S T:List ByteArray->Bool} (h:last vJ t=k):X8 S T t=(S (t.take k) && T (t.drop (k+1))):=by
 unfold X8;rw[h,zA (by omega)];rfl
theorem aF {S T:List ByteArray->Bool} (h:last vJ t=-1):X8 S T t=T t:=by
 unfold X8;rw[h,zE (by omega)]
theorem gX {F E C F' E' C':List ByteArray->Bool} (h:2<=t.length->F (t.drop 1)=F' (t.drop 1)) (f:2<=t.length->E ((t.take (t.length-1)).drop 1)=E' ((t.take (t.length-1)).drop 1)) (d:C t=C' t):kR F E C t=kR F' E' C' t:=by
 unfold kR;by_cases hz:t.length=0
 ·rw[zE hz,zE hz]
 ·by_cases ho:t.length=1
  ·rw[zA hz,zA hz,zE ho,zE ho]
  ·rw[h (by omega),f (by omega),d]
theorem rD {E E':List ByteArray->Bool} (h:4<=t.length->E ((t.take (t.length-1)).drop 2)=E' ((t.take (t.length-1)).drop 2)):kX E t=kX E' t:=by
 unfold kX;by_cases hz:t.length < 4
 ·rw[zE (Or.inl hz),zE (Or.inl hz)]
 ·rw[h (by omega)]
theorem vy:∀(f g r:Nat) (t:List ByteArray),r<=4->5*t.length+5<=f+r->5*t.length+5<=g+r->gr f r t=gr g r t
 | 0,_,_,_,hr,hf,_=>by omega
 | _+1,0,_,_,hr,_,hg=>by omega
 | f+1,g+1,0,t,hr,hf,hg=>by
  show Qa (gr f 1) t=Qa (gr g 1) t;rcases Yx kF t with h | ⟨k,h,h0,hk⟩
  ·rw[aq h,aq h];exact vy f g 1 t (by omega) (by omega) (by omega)
  ·rw[ar rfl h,ar rfl h,vy f g 1 (t.take k) (by omega) (by simp;omega) (by simp;omega),vy f g 1 (t.drop (k+1)) (by omega) (by simp;omega) (by simp;omega)]
 | f+1,g+1,1,t,hr,hf,hg=>by
  show Vk (gr f 1) (gr f 2) t=Vk (gr g 1) (gr g 2) t;rcases Yx kL t with h | ⟨k,h,h0,hk⟩
  ·rw[eL h,eL h];exact vy f g 2 t (by omega) (by omega) (by omega)
  ·rw[eM h,eM h,vy f g 1 (t.take k) (by omega) (by simp;omega) (by simp;omega),vy f g 2 (t.drop (k+1)) (by omega) (by simp;omega) (by simp;omega)]
 | f+1,g+1,2,t,hr,hf,hg=>by
  show X8 (gr f 2) (gr f 3) t=X8 (gr g 2) (gr g 3) t;rcases Yx vJ t with h | ⟨k,h,h0,hk⟩
  ·rw[aF h,aF h];exact vy f g 3 t (by omega) (by omega) (by omega)
  ·rw[aG h,aG h,vy f g 2 (t.take k) (by omega) (by simp;omega) (by simp;omega),vy f g 3 (t.drop (k+1)) (by omega) (by simp;omega) (by simp;omega)]
 | f+1,g+1,3,t,hr,hf,hg=>by
  show kR (gr f 3) (gr f 0) (gr f 4) t=kR (gr g 3) (gr g 0) (gr g 4) t;exact gX (fun _=>vy f g 3 _ (by omega) (by simp;omega) (by simp;omega)) (fun _=>vy f g 0 _ (by omega) (by simp;omega) (by simp;omega)) (vy f g 4 t (by omega) (by omega) (by omega))
 | f+1,g+1,_+4,t,hr,hf,hg=>by
  show kX (gr f 0) t=kX (gr g 0) t;exact rD (fun _=>vy f g 0 _ (by omega) (by simp;omega) (by simp;omega))
def qX (t:List ByteArray):Bool:=gr (5*t.length+5) 0 t
def J1 (t:List ByteArray):Bool:=gr (5*t.length+4) 1 t
def isTerm (t:List ByteArray):Bool:=gr (5*t.length+3) 2 t
def vI (t:List ByteArray):Bool:=gr (5*t.length+2) 3 t
def Jp (t:List ByteArray):Bool:=gr (5*t.length+1) 4 t
def kl (t:List ByteArray):Bool:=t.all yg
def behindFrom:List ByteArray->Nat->Nat
 | [],_=>0
 | x::r,i=>if (x.toList==[116,111])=true then i else behindFrom r (i+1)
def behind (t:List ByteArray):Nat:=behindFrom t 0
theorem rJ (h:k < t.length):behindFrom (t.drop k) k=if (t[k].toList==[116,111])=true then k else behindFrom (t.drop (k+1)) (k+1):=by
 rw[zZ h,behindFrom]
theorem bY:∀(t:List ByteArray) (i:Nat),behindFrom t i=0\/behindFrom t i < i+t.length
 | [],_=>Or.inl rfl
 | x::r,i=>by
  rw[behindFrom];split
  ·right;simp
  ·rcases bY r (i+1)with h | h
   ·exact Or.inl h
   ·right;simp;omega
theorem Dh (t:List ByteArray):behind t=0\/behind t < t.length:=by
 have:=bY t 0;unfold behind;omega
def isSet (t:List ByteArray):Bool:=
 if behind t < 2 then false else if behind t=2 then yg (ve t 1) && qX (t.drop 3)else Jp ((t.take (behind t)).drop 1) && qX (t.drop (behind t+1))
def yd (t:List ByteArray):Nat->List (List ByteArray)×Nat
 | 0=>([],0)
 | i+1=>if ((ve t i).toList==[44])=true/\depth t i=0 then ((yd t i).1++[(t.take i).drop (yd t i).2],i+1)else yd t i
def parts (t:List ByteArray):List (List ByteArray):=if t.length=0 then []else (yd t t.length).1++[t.drop (yd t t.length).2]
theorem K1 (t:List ByteArray):∀i,(yd t i).2<=i/\(yd t i).1.length<=i
 | 0=>by simp[yd]
 | i+1=>by
  have:=K1 t i;rw[yd];split
  ·simp;omega
  ·omega
def QV (t:List ByteArray):Bool:=if t.length < 2 then false else (parts (t.drop 2)).all qX && yg (ve t 1)
def Qn (t:List ByteArray):Bool:=if t.length=3 then yg (ve t 1) && xi (ve t 2) && decide (1<=worth (ve t 2)) && decide (worth (ve t 2)<=32)else false
def isKind (t:List ByteArray) (h:List UInt8):Bool:=
 if (h==[101,110,100])=true then decide (t.length=1)else if (h==[101,108,115,101])=true then decide (t.length=1)else if (h==[114,101,116,117,114,110])=true then decide (t.length=1)else if (h==[118,97,114])=true then (decide (t.length=2) && kl (t.drop 1))else if (h==[114,101,97,100])=true then (decide (t.length=2) && kl (t.drop 1))else if (h==[112,114,111,99])=true then (decide (2<=t.length/\t.length<=6) && kl (t.drop 1))else if (h==[105,102])=true then qX (t.drop 1)else if (h==[119,104,105,108,101])=true then qX (t.drop 1)else if (h==[112,114,105,110,116])=true then qX (t.drop 1)else if (h==[115,101,116])=true then isSet t else if (h==[99,97,108,108])=true then QV t else if (h==[97,114,114,97,121])=true then Qn t else false
def xM (t:List ByteArray):Bool:=if t.length=0 then true else isKind t (first t).toList
def Xl (t:List ByteArray):Bool:=((first t).toList==[118,97,114])|| ((first t).toList==[97,114,114,97,121])|| ((first t).toList==[112,114,111,99])
def kJ (t:List ByteArray):Bool:=((first t).toList==[112,114,111,99])|| ((first t).toList==[105,102])|| ((first t).toList==[119,104,105,108,101])
def Kk (t:List ByteArray) (x:ByteArray):Bool:=Xl t && ((ve t 1).toList==x.toList)
def declFrom:Nat->List (List ByteArray)->ByteArray->Nat
 | _,[],_=>0
 | n,t::r,x=>if Kk t x=true then n else declFrom (n+1) r x
def decl (ls:List (List ByteArray)) (x:ByteArray):Nat:=declFrom 1 ls x
def xU (ls:List (List ByteArray)) (l:Nat):List ByteArray:=ls.getD l []
def home (ls:List (List ByteArray)):Nat->Nat
 | 0=>0
 | n+1=>if ((first (xU ls n)).toList==[112,114,111,99])=true then n+1 else home ls n
theorem yq {ls:List (List ByteArray)} {l:Nat} (h:l < ls.length):xU ls l=ls[l]:=by simp[xU,h]
theorem A7 (h:t.length=0):first t=⟨#[]⟩:=by
 have:t=[]:=yu h;subst this;rfl
theorem gT (h:0 < t.length):first t=t[0]:=qq h
theorem gh:∀(ls:List (List ByteArray)) (n:Nat) (x:ByteArray),declFrom n ls x=0\/(n<=declFrom n ls x/\declFrom n ls x < n+ls.length)
 | [],_,_=>Or.inl rfl
 | t::r,n,x=>by
  rw[declFrom];split
  ·right;simp
  ·rcases gh r (n+1) x with h | h
   ·exact Or.inl h
   ·right;simp;omega
theorem Qb (ls:List (List ByteArray)) (x:ByteArray):decl ls x<=ls.length:=by
 have:=gh ls 1 x;unfold decl;omega
def tx (ts:List Rt.Tk):List ByteArray:=ts.map (·.text)
end Rf
open Rf
def xA (w:World) (v:Value) (xs:List ByteArray):Prop:=
 ∃ad cap,v=.slice ad xs.length cap/\xs.length<=cap/\(xs=[]\/∃b o,ad=some ⟨b,o,none⟩/\∀j (h:j < xs.length),w.cell? ⟨b,o+j,none⟩=some (.string xs[j]))
theorem xA.zP {xs:List ByteArray} (h:xA w v xs) (f:Below w.heap.size w w'):xA w' v xs:=by
 obtain⟨i,cap,rfl,d,h⟩:=h;refine⟨i,cap,rfl,d,?_⟩;rcases h with h | ⟨b,o,rfl,h⟩
 ·exact Or.inl h
 ·exact Or.inr ⟨b,o,rfl,fun j hj=>cell_later f (h j hj)⟩
theorem QA {xs:List ByteArray} (h:w.ownsRow B 9 1 v xs.length (xs.map Value.string)):xA w v xs:=by
 have i:=h;rcases h.2 with⟨rfl,hn⟩| ⟨g,cap,cur,rfl,_,hh,hn,_⟩
 ·have:xs=[]:=yu hn;subst this;exact⟨none,0,rfl,zB _,Or.inl rfl⟩
 ·refine⟨_,cap,rfl,hn,?_⟩;by_cases hx:xs=[]
  ·exact Or.inl hx
  ·refine Or.inr ⟨g,0,rfl,fun j hj=>?_⟩;obtain⟨g',k,d,_,_,f⟩:=yD i (j:=j) (u:=.string xs[j]) (by simp[hj]);simp at d;rw[xW,d.1];exact f
theorem kK:Calls Tryz.prog 130 #[.int .u8 b] w fun e w'=>e=.returned (.bool (qt b))/\w'=w:=by
 go_enter func130,ntmps130;go_wp2
 all_goals (go_ret;exact⟨yj (by simp_all [qt] <;> omega),rfl⟩)
theorem vB:Calls Tryz.prog 131 #[.int .u8 b] w fun e w'=>e=.returned (.bool (jo b))/\w'=w:=by
 go_enter func131,ntmps131;go_wp2
 all_goals (go_ret;exact⟨yj (by simp_all [jo] <;> omega),rfl⟩)
theorem cr {xs:List ByteArray} (x:ByteArray) (h:xA w v xs) (A:xs.length<=100000):Calls Tryz.prog 132 #[v,.string x] w fun e w'=>e=.returned (.bool (kp xs x))/\w'=w:=by
 obtain⟨G,cap,rfl,_,h⟩:=h;have HH:=zD h;clear h;go_enter func132,ntmps132;go_wp2;go_loop [5] (fun i=>∃k:Nat,k<=xs.length/\i=.int .i64 k/\(xs.drop k).any (fun y=>decide (y=x))=kp xs x) (fun i=>xs.length-(intOf i).toNat)
 case atStart=>exact⟨0,zo _,rfl,rfl⟩
 case round=>
  obtain⟨k,D,rfl,z⟩:=hrel;have j:=zD z;clear z;by_cases hlt:k < xs.length
  ·rcases HH.u with h | ⟨b,o,rfl,h⟩
   ·rw[h]at hlt;simp at hlt
   have F:=h k hlt;have d:(k:Int) < (xs.length:Int):=by omega
   clear h;by_cases hx:xs[k]=x
   ·have HE:=zD (EO j.u hlt hx);have f:=QB hx;clear hx;go_wp2;go_ret;exact⟨by rw[HE.u];rfl,rfl⟩
   ·have HE:=zD (CM j.u hlt hx);have f:=KI hx;clear hx;go_wp2;go_round
    case rel=>exact⟨k+1,by omega,by go_num,HE.u⟩
    case measure=>simp[intOf];omega
  ·have HE:=zD (EP j.u hlt);have d:¬(k:Int) < (xs.length:Int):=by omega
   go_wp2;go_ret;exact⟨by rw[HE.u];rfl,rfl⟩
theorem mq:Calls Tryz.prog 178 #[] w fun e w'=>∃v,e=.returned v/\xA w' v KM/\Below w.heap.size w w':=by
 go_enter func178,ntmps178;go_wp2;go_ret;exact⟨_,rfl,QA (ZI (base:=0) w (KM.map Value.string).toArray 13 (zo _) (by unfold maxLen;omega) rfl),(zI _ _).alloc (zB _) _⟩
theorem wW:Calls Tryz.prog 133 #[] w fun e w'=>∃v,e=.returned v/\xA w' v nu/\Below w.heap.size w w':=by
 go_enter func133,ntmps133;go_wp2;go_ret;exact⟨_,rfl,QA (ZI (base:=0) w (nu.map Value.string).toArray 12 (zo _) (by unfold maxLen;omega) rfl),(zI _ _).alloc (zB _) _⟩
theorem XJ (x:ByteArray) (k:x.size<=maxLen):Calls Tryz.prog 138 #[.string x] w fun e w'=>e=.returned (.bool (Rf.yg x))/\Below w.heap.size w w':=by
 unfold maxLen at k;go_enter func138,ntmps138;go_wp2_with fail;refine(mq).mono ?_;rintro e w1 ⟨v,rfl,i,d⟩;go_wp2_with fail;refine(cr x i (by decide)).mono ?_;rintro e w2 ⟨rfl,rfl⟩;have j:=zD d;clear d i;by_cases hz:0 < x.size
 ·have f:(0:Int) < (x.size:Int):=by omega
  have h:=zD (show Rf.yg x=(qt (x[0].toNat:Int) && !kp KM x) by simp[Rf.yg,hz,Rt.qC]);go_wp2_with (go_at_call 130;refine(kK).mono ?_;rintro e w' ⟨rfl,rfl⟩)
  all_goals
   go_ret;exact⟨by rw[h.u];exact yj (by simp_all),j.u⟩
 ·have f:¬(0:Int) < (x.size:Int):=by omega
  have h:=zD (show Rf.yg x=false by simp[Rf.yg,hz]);go_wp2;go_ret;exact⟨by rw[h.u];rfl,j.u⟩
theorem Yv (x:ByteArray) (h:x.size<=maxLen):Calls Tryz.prog 139 #[.string x] w fun e w'=>e=.returned (.bool (xi x))/\w'=w:=by
 unfold maxLen at h;by_cases hz:0 < x.size
 ·have d:(0:Int) < (x.size:Int):=by omega
  have f:=zD (show xi x=jo (x[0].toNat:Int) by simp[xi,hz,Rt.qC]);go_enter func139,ntmps139;go_wp2_with (go_at_call 131;refine(vB).mono ?_;rintro e w' ⟨rfl,rfl⟩);go_ret;exact⟨by rw[f.u];first | rfl | simp,rfl⟩
 ·have d:¬(0:Int) < (x.size:Int):=by omega
  have f:=zD (show xi x=false by simp[xi,hz]);go_enter func139,ntmps139;go_wp2;go_ret;exact⟨by rw[f.u];rfl,rfl⟩
theorem bx (s:ByteArray) (f:s.size<=maxLen):Calls Tryz.prog 93 #[.string s] w fun e w'=>e=.returned (.int .i64 (Rf.worth s))/\w'=w:=by
 unfold maxLen at f;go_enter func93,ntmps93;go_wp2;go_loop [3,4] (fun v i=>∃k:Nat,k<=s.size/\i=.int .i64 k/\v=.int .i64 (Rf.worthTo s k)) (fun _ i=>s.size-(intOf i).toNat)
 case atStart=>exact⟨0,zo _,rfl,rfl⟩
 case round=>
  obtain⟨k,h,rfl,rfl⟩:=hrel;by_cases hlt:k < s.size
  ·have HB:Hd (Rt.qC s k=(s[k].toNat:Int)):=Rt.jB hlt;go_wp2;go_round
   case rel=>exact⟨k+1,by omega,by go_num,by rw[Rf.worthTo,HB.out]⟩
   case measure=>simp[intOf];omega
  ·have d:k=s.size:=by omega
   subst d;go_wp2;go_ret;exact⟨rfl,rfl⟩
theorem VW:Calls Tryz.prog 175 #[] w fun e w'=>∃v,e=.returned v/\xA w' v kF/\Below w.heap.size w w':=by
 go_enter func175,ntmps175;go_wp2;go_ret;exact⟨_,rfl,QA (ZI (base:=0) w (kF.map Value.string).toArray 2 (zo _) (by unfold maxLen;omega) rfl),(zI _ _).alloc (zB _) _⟩
theorem iD:Calls Tryz.prog 204 #[] w fun e w'=>∃v,e=.returned v/\xA w' v kL/\Below w.heap.size w w':=by
 go_enter func204,ntmps204;go_wp2;go_ret;exact⟨_,rfl,QA (ZI (base:=0) w (kL.map Value.string).toArray 2 (zo _) (by unfold maxLen;omega) rfl),(zI _ _).alloc (zB _) _⟩
theorem ax:Calls Tryz.prog 209 #[] w fun e w'=>∃v,e=.returned v/\xA w' v vJ/\Below w.heap.size w w':=by
 go_enter func209,ntmps209;go_wp2;go_ret;exact⟨_,rfl,QA (ZI (base:=0) w (vJ.map Value.string).toArray 3 (zo _) (by unfold maxLen;omega) rfl),(zI _ _).alloc (zB _) _⟩
theorem oW (x:ByteArray) (f:x.size<=maxLen):Calls Tryz.prog 203 #[.string x] w fun e w'=>e=.returned (.bool (KX x))/\Below w.heap.size w w':=by
 go_enter func203,ntmps203;go_wp2_with fail;refine(XJ x f).mono ?_;rintro e w1 ⟨rfl,d⟩;have i:=zD d;have h:=zD (show KX x=(Rf.yg x || xi x || (x.toList==[41])|| (x.toList==[93]))from rfl);clear d;cases hn:Rf.yg x with
 | true=>
  go_wp2;go_ret;exact⟨by rw[h.u,hn];rfl,i.u⟩
 | false=>
  cases hm:xi x with
  | true=>
   go_wp2_with (go_at_call 139;refine(Yv x f).mono ?_;rintro e w' ⟨rfl,rfl⟩;rw[hm]);go_ret;exact⟨by rw[h.u,hn,hm];rfl,i.u⟩
  | false=>
   go_wp2_with (go_at_call 139;refine(Yv x f).mono ?_;rintro e w' ⟨rfl,rfl⟩;rw[hm])
   all_goals
    go_ret;exact⟨by rw[h.u,hn,hm];exact yj (by simp_all),i.u⟩
theorem Zy {b:UInt8}:Rt.within 97 122 b=qt (b.toNat:Int):=by
 rw[xO];simp[Rt.within,qt]
theorem Xk {b:UInt8}:Rt.within 48 57 b=jo (b.toNat:Int):=by
 rw[xO];simp[Rt.within,jo]
theorem JJ (h:qt b=true):jo b=false:=by
 rw[yL];simp[qt,jo]at h ⊢;omega
theorem K0 (s:ByteArray) (a:Nat) (F:s.size<=maxLen) (G:a < s.size):Calls Tryz.prog 129 #[.string s,.int .i64 a] w fun e w'=>e=.returned (.int .i64 (Rf.runN s a))/\w'=w:=by
 unfold maxLen at F;have D:=zD (Rt.jB G);cases hl:qt (s[a].toNat:Int)with
 | true=>
  have hd:=JJ hl;have x:=zD (show Rf.runN s a=Rt.cw s 97 122 a by unfold Rf.runN;rw[D.u,zE hl]);go_enter func129,ntmps129;go_wp2;go_loop [5] (fun i=>∃k:Nat,a+k<=s.size/\i=.int .i64 k/\∀j (h:j < s.size),a<=j->j < a+k->Rt.within 97 122 s[j]=true) (fun i=>s.size-(intOf i).toNat)
  case atStart=>exact⟨0,by omega,rfl,fun j h h1 h2=>by omega⟩
  case round=>
   obtain⟨k,A,rfl,d⟩:=hrel;have z:=zD d;clear d;by_cases hlt:a+k < s.size
   ·have f:(a:Int)+(k:Int) < (s.size:Int):=by omega
    cases hx:qt (s[a+k].toNat:Int)with
    | true=>
     go_wp2_with (first | (go_at_call 130;refine(kK).mono ?_;rintro e w' ⟨rfl,rfl⟩)| (go_at_call 131;refine(vB).mono ?_;rintro e w' ⟨rfl,rfl⟩))

     go_round
     case rel=>
      refine⟨k+1,by omega,by go_num,fun j h h1 h2=>?_⟩;by_cases hj:j=a+k
      ·subst hj;rw[Zy];exact hx
      ·exact z.u j h h1 (by omega)
     case measure=>simp[intOf];omega
    | false=>
     go_wp2_with (first | (go_at_call 130;refine(kK).mono ?_;rintro e w' ⟨rfl,rfl⟩)| (go_at_call 131;refine(vB).mono ?_;rintro e w' ⟨rfl,rfl⟩))

     have o:=Rt.bJ s 97 122 a (a+k) (by omega) A z.u (fun h=>by rw[Zy];exact hx);have y:=zD o;clear o;go_ret;exact⟨km (by rw[x.u,y.u];omega),rfl⟩
   ·have f:¬(a:Int)+(k:Int) < (s.size:Int):=by omega
    have o:=Rt.bJ s 97 122 a (a+k) (by omega) A z.u (fun h=>absurd h hlt);have y:=zD o;clear o;go_wp2;go_ret;exact⟨km (by rw[x.u,y.u];omega),rfl⟩
 | false=>
  cases hd:jo (s[a].toNat:Int)with
  | true=>
   have x:=zD (show Rf.runN s a=Rt.cw s 48 57 a by unfold Rf.runN;rw[D.u,zA (by rw[hl];simp),zE hd]);go_enter func129,ntmps129;go_wp2;go_loop [5] (fun i=>∃k:Nat,a+k<=s.size/\i=.int .i64 k/\∀j (h:j < s.size),a<=j->j < a+k->Rt.within 48 57 s[j]=true) (fun i=>s.size-(intOf i).toNat)
   case atStart=>exact⟨0,by omega,rfl,fun j h h1 h2=>by omega⟩
   case round=>
    obtain⟨k,A,rfl,d⟩:=hrel;have z:=zD d;clear d;by_cases hlt:a+k < s.size
    ·have f:(a:Int)+(k:Int) < (s.size:Int):=by omega
     cases hx:jo (s[a+k].toNat:Int)with
     | true=>
      go_wp2_with (first | (go_at_call 130;refine(kK).mono ?_;rintro e w' ⟨rfl,rfl⟩)| (go_at_call 131;refine(vB).mono ?_;rintro e w' ⟨rfl,rfl⟩))

      go_round
      case rel=>
       refine⟨k+1,by omega,by go_num,fun j h h1 h2=>?_⟩;by_cases hj:j=a+k
       ·subst hj;rw[Xk];exact hx
       ·exact z.u j h h1 (by omega)
      case measure=>simp[intOf];omega
     | false=>
      go_wp2_with (first | (go_at_call 130;refine(kK).mono ?_;rintro e w' ⟨rfl,rfl⟩)| (go_at_call 131;refine(vB).mono ?_;rintro e w' ⟨rfl,rfl⟩))

      have o:=Rt.bJ s 48 57 a (a+k) (by omega) A z.u (fun h=>by rw[Xk];exact hx);have y:=zD o;clear o;go_ret;exact⟨km (by rw[x.u,y.u];omega),rfl⟩
    ·have f:¬(a:Int)+(k:Int) < (s.size:Int):=by omega
     have o:=Rt.bJ s 48 57 a (a+k) (by omega) A z.u (fun h=>absurd h hlt);have y:=zD o;clear o;go_wp2;go_ret;exact⟨km (by rw[x.u,y.u];omega),rfl⟩
  | false=>
   have x:=zD (show Rf.runN s a=0 by unfold Rf.runN;rw[D.u,zA (by rw[hl];simp),zA (by rw[hd];simp)]);go_enter func129,ntmps129;go_wp2;go_loop [5] (fun i=>i=.int .i64 (0:Nat)) (fun i=>s.size-(intOf i).toNat)
   case atStart=>rfl
   case round=>
    subst hrel;have f:(a:Int)+((0:Nat):Int) < (s.size:Int):=by omega
    go_wp2_with (first | (go_at_call 130;refine(kK).mono ?_;rintro e w' ⟨rfl,rfl⟩)| (go_at_call 131;refine(vB).mono ?_;rintro e w' ⟨rfl,rfl⟩))
    all_goals (go_ret;exact⟨km (by rw[x.u];rfl),rfl⟩)
end
namespace Rt
open Go.RowKit
def valTo (s:ByteArray):Nat->Int
 | 0=>0
 | k+1=>wrap64 (wrap64 (valTo s k*10)+(qC s k-48) % 256)
def val (s:ByteArray):Int:=valTo s s.size
end Rt
end Go.Proofs.YthleadfkfnnadaaGreat
