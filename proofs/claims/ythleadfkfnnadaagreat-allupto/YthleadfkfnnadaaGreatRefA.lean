/- The document's answer: lines that call. -/
import Derived.KernelRfl
import Derived.WalkKit
import Derived.Test.YthleadfkfnnadaaGreatProg
import Derived.WalkSpells
import Derived.WalkLawsBesides
import Derived.Deep.QuietTactic
import Derived.BigQuiet
import Derived.Deep.RegionHeld3
import Derived.Deep.AppendLies
import Derived.Deep.DrawnRows
import Derived.Deep.RegionLaw
import Derived.Deep.LoopGhost
set_option maxHeartbeats 4000000
set_option maxRecDepth 100000
set_option linter.all false
namespace Go.Proofs.YthleadfkfnnadaaGreat
open Value renaming int->J,slice->I,string->O,bool->A,tuple->E
open IntKind renaming i64->U
open Option renaming none->Z,some->Q
open Bool renaming false->W,true->D
open List renaming length->G
open Ending renaming returned->T
open Obj renaming cells->V
open Go.Proofs.Tryz
abbrev Ia:=ByteArray
abbrev Ib:=List ByteArray
abbrev zA:=@if_neg
abbrev zB:=@Nat.le_refl
abbrev zE:=@if_pos
abbrev zI:=@Go.RowKit.Below.refl
abbrev zJ:=@List.getElem?_eq_getElem
abbrev zN:=@Go.heap_alloc_new
abbrev zO:=@Go.RowKit.Below.heap_setCell
abbrev zT:=@Go.bodyPost_ret
abbrev zW:=@Go.World.ownsRow_nil
abbrev ze:=@List.length_append
abbrev zX:=@Nat.lt_of_lt_of_le
abbrev zj:=@List.getElem_mem
abbrev zZ:=@List.drop_eq_getElem_cons
abbrev zi:=@Nat.le_trans
abbrev zY:=@List.mem_append_left
abbrev zd:=@List.mem_append
abbrev zb:=@List.mem_append_right
abbrev zu:=@Nat.add_sub_cancel
abbrev zv:=@List.getElem_cons_zero
abbrev zV:=@beq_eq_false_iff_ne
abbrev zo:=@Nat.zero_le
abbrev zm:=@List.mem_cons_of_mem
abbrev zp:=@List.drop_eq_nil_of_le
abbrev yB:=@List.map_append
abbrev zx:=@Option.some.injEq
abbrev zw:=@List.mem_cons
abbrev yH:=@List.getElem_cons_succ
abbrev yQ:=@List.getElem_toArray
abbrev zy:=@Bool.and_eq_true
abbrev zt:=@Go.World.block_lt_of_cell?
abbrev yE:=@List.length_cons
abbrev yF:=@List.cons_append
abbrev yl:=@List.length_singleton
abbrev yC:=@Go.IntWalk.wrap64_in
abbrev yN:=@List.mem_singleton
abbrev yU:=@List.getElem?_append_right
abbrev yK:=@List.append_assoc
abbrev yS:=@decide_eq_true_eq
abbrev yL:=@Bool.eq_false_iff
abbrev yi:=@Go.info_parts
abbrev yu:=@List.eq_nil_of_length_eq_zero
abbrev yZ:=@Prod.mk.injEq
abbrev xj:=@List.dropLast_concat_getLast
abbrev yX:=@List.append_nil
abbrev zl:=@Go.IntWalk.i64_in
abbrev xQ:=@Go.wpList_append_own
abbrev xL:=@List.getD_eq_getElem?_getD
abbrev xJ:=@Go.Value.slice.injEq
abbrev xK:=@Ne.symm
abbrev yw:=@List.take_of_length_le
abbrev yt:=@List.getElem?_map
abbrev xD:=@Go.World.cell?_setCell_other
abbrev xB:=@List.mem_cons_self
abbrev xI:=@List.getElem_append_left
abbrev xk:=@List.getLastD_eq_getLast?
abbrev yr:=@Int.eq_ofNat_of_zero_le
abbrev xG:=@Go.World.cell?_of_block
abbrev xW:=@Nat.zero_add
abbrev xS:=@Int.toNat_natCast
abbrev xp:=@List.length_drop
abbrev xn:=@Array.getElem?_setIfInBounds_ne
abbrev xN:=@List.nil_append
abbrev xm:=@List.getElem_append_right
abbrev yp:=@List.getElem?_append_left
abbrev xo:=@List.dropLast_concat
abbrev qW:=@List.getElem?_modify
abbrev xO:=@Bool.eq_iff_iff
abbrev qR:=@List.length_map
abbrev xd:=@List.getLast?_eq_some_getLast
abbrev yv:=@Go.IntWalk.i64_left
abbrev qF:=@List.mem_of_getElem?
abbrev qA:=@decide_eq_true
abbrev YK:=@List.length_modify
abbrev qO:=@Nat.add_zero
abbrev xr:=@List.mem_map
abbrev xt:=@List.getElem?_eq_none
abbrev kW:=@not_not_intro
abbrev qB:=@congrArg
abbrev qj:=@Array.getElem?_setIfInBounds_self_of_lt
abbrev qy:=@List.getElem?_eq_some_iff
abbrev jw:=@List.length_take
abbrev qE:=@List.pairwise_append
abbrev qL:=@Go.RowKit.ownsRow_setCell_below
abbrev qe:=@List.set_append_right
abbrev qN:=@List.length_replicate
abbrev jW:=@List.getElem_modify
abbrev qP:=@decide_eq_false
abbrev qQ:=@List.length_nil
abbrev jH:=@true_and
abbrev qp:=@List.map_cons
abbrev jC:=@Nat.sub_self
abbrev jD:=@List.length_set
abbrev qb:=@List.not_mem_nil
abbrev qc:=@List.getElem_map
abbrev kO:=@List.length_pos_iff
abbrev qf:=@of_decide_eq_true
abbrev qw:=@List.ext_getElem
abbrev jJ:=@and_true
abbrev kN:=@List.zipWith_append
abbrev qz:=@List.take_succ_cons
abbrev kI:=@List.take_add_one
abbrev vD:=@Nat.min_eq_left
abbrev jG:=@decide_eq_true_iff
abbrev xw:=@beq_iff_eq
abbrev jT:=@List.zipWith_cons_cons
abbrev jU:=@List.nodup_append
abbrev Zd:=@Array.getElem?_eq_some_iff
abbrev jX:=@List.drop_succ_cons
abbrev kt:=@List.take_append_drop
abbrev je:=@List.getElem?_zipWith
abbrev ju:=@List.mem_filterMap
abbrev vp:=@List.getElem?_drop
abbrev jx:=@Go.RowKit.Below.heap_alloc
abbrev G4:=@Go.heap_alloc_old
abbrev kG:=@List.take_append_of_le_length
abbrev vL:=@List.dropLast_subset
abbrev kH:=@decide_eq_false_iff_not
abbrev kV:=@ByteArray.size_extract
abbrev vj:=@Go.cell_of_row
abbrev vw:=@List.any_cons
abbrev kY:=@List.all_cons
abbrev QE:=@Go.run_underlying
abbrev YL:=@Bool.false_eq_true
abbrev Zt:=@Decidable.byContradiction
abbrev Xf:=@Option.map_some
abbrev vE:=@List.cons.injEq
abbrev XU:=@List.length_dropLast
abbrev vN:=@Nat.add_assoc
abbrev Z9:=@Go.Addr.mk.injEq
abbrev vT:=@List.map_congr_left
abbrev Zn:=@Option.getD_some
abbrev vY:=@Nat.add_sub_cancel_left
abbrev Zp:=@List.take_length
abbrev vZ:=@List.all_eq_true
abbrev Ye:=@List.map_nil
abbrev vn:=@List.getElem_range
abbrev vq:=@Array.getElem?_eq_none
abbrev ZB:=@List.singleton_append
abbrev ZC:=@List.eq_nil_or_concat
abbrev ZD:=@Array.getElem?_modify
abbrev ZI:=@Go.World.ownsRow_lit
abbrev Qv:=@Option.map_eq_map
abbrev Yg:=@Decidable.not_not
abbrev ZR:=@Go.step_end
abbrev Zb:=@List.tail_cons
abbrev Zc:=@List.tail_append_of_ne_nil
abbrev Yf:=@List.drop_zero
abbrev Zq:=@List.getElem_set
abbrev Zr:=@List.drop_append
abbrev Zw:=@Go.ByteArray.toList_mk
abbrev Z2:=@or_false
abbrev Z6:=@Prod.ext
abbrev Z7:=@List.drop_one
abbrev YB:=@List.nodup_cons
abbrev YP:=@List.getElem?_replicate
abbrev Yh:=@Go.DataW.trod_int
abbrev Yl:=@List.modify_succ_cons
abbrev Y7:=@Nat.le_max_right
abbrev JV:=@List.getLast_mem
abbrev Kn:=@Nat.mul_one
abbrev XT:=@List.mem_iff_getElem
abbrev XV:=@List.getLastD_concat
abbrev J4:=@List.take_left'
abbrev YC:=@Bool.or_eq_true
abbrev Xi:=@List.getElem?_range
abbrev Xs:=@Nat.add_comm
abbrev Qu:=@Option.mem_toList
abbrev Qx:=@List.map_dropLast
abbrev Qy:=@List.length_range
abbrev Q0:=@List.flatMap_cons
abbrev bj:=@Nat.lt_or_ge
abbrev Jz:=@List.map_map
abbrev bq:=@Go.Addr.add_lit
abbrev J5:=@List.set_append
abbrev KV:=@or_assoc
abbrev ID:=@if_false
abbrev Ko:=@List.take_take
abbrev Vd:=@Bool.true_and
abbrev Ve:=@Bool.false_or
abbrev bk:=@List.map_set
abbrev bn:=@List.any_nil
abbrev eY:=@eq_comm
variable {cs:Array Value} {a s x:Ia} {b:Int} {us:List Ib} {ps t sg:Ib} {xs vs:List Value} {B size n N j k R b' f cap:Nat} {o:Obj} {ad:Option Addr} {row:Option Nat} {e:TypeId} {v tv:Value} {w wr w1 w':World}
namespace Rt
theorem GH {b:Ia} (h:a.toList=b.toList):a=b:=by
 rw[ByteArray.toList_eq,ByteArray.toList_eq]at h;cases a;cases b;simp at h;simp[h]
theorem me (a b:Ia):(a.toList==b.toList)=decide (a=b):=by
 rw[xO,xw,jG];exact⟨GH,fun h=>by rw[h]⟩
theorem ZF {l:List UInt8}:(a.toList==l)=decide (a=⟨l.toArray⟩):=by
 have h:=me a ⟨l.toArray⟩;rw[show (ByteArray.mk l.toArray).toList=l from Zw l]at h;exact h
theorem KI {b:Ia} (h:¬a=b):(a.toList==b.toList)=W:=by rw[me];simpa using h
theorem QB {b:Ia} (h:a=b):(a.toList==b.toList)=D:=by rw[me];simpa using h
def within (lo hi:Int) (b:UInt8):Bool:=decide (lo<=(b.toNat:Int)/\(b.toNat:Int)<=hi)
def cw (s:Ia) (lo hi:Int) (a:Nat):Nat:=((s.data.toList.drop a).takeWhile (within lo hi)).length
theorem Bp {α:Type} (p:α->Bool):∀(l:List α) (k:Nat),k<=G l->(∀j (h:j < G l),j < k->p l[j]=D)->(∀h:k < G l,p l[k]=W)->(l.takeWhile p).length=k
 | [],k,hk,_,_=>by simp at hk;simp[hk]
 | x::r,0,_,_,h3=>by
  have:=h3 (by simp);simp at this;simp[this]
 | x::r,k+1,hk,h2,h3=>by
  have d:=h2 0 (by simp) (by omega);simp at d;have f:=Bp p r k (by simpa using hk) (fun j h hj=>by have:=h2 (j+1) (by simpa using h) (by omega);simpa using this) (fun h=>by have:=h3 (by simpa using h);simpa using this);simp[d,f]
theorem bJ (s:Ia) (d f:Int) (a e:Nat) (k:a<=e) (z:e<=s.size) (x:∀j (h:j < s.size),a<=j->j < e->within d f s[j]=D) (o:∀h:e < s.size,within d f s[e]=W):cw s d f a=e-a:=by
 have i:G s.data.toList=s.size:=by simp
 refine Bp _ _ _ (by simp;omega) (fun j h hj=>?_) (fun h=>?_)
 ·simp at h;have:=x (a+j) (by omega) (by omega) (by omega);simp only[List.getElem_drop];exact this
 ·simp at h;have:=o (by omega);have y:a+(e-a)=e:=by omega
  simp only[List.getElem_drop,y];exact this
theorem ux (s:Ia) (d f:Int) (a:Nat) (i:a<=s.size):a+cw s d f a<=s.size:=by
 unfold cw;have h:=List.IsPrefix.length_le (List.takeWhile_prefix (within d f) (l:=s.data.toList.drop a));simp at h;omega
def sign (b:Int):Bool:=decide (b∈[43,45,42,47,37,60,61,40,41,91,93,44])
def qC (s:Ia) (a:Nat):Int:=if h:a < s.size then (s[a].toNat:Int)else 0
theorem jB {a:Nat} (h:a < s.size):qC s a=(s[a].toNat:Int):=by simp[qC,h]
def YZ (s:Ia) (a:Nat):Int:=
 if 8 < cw s 97 122 a then 0 else if 0 < cw s 97 122 a then 1 else if 9 < cw s 48 57 a then 0 else if 0 < cw s 48 57 a then 2
 else if a < s.size/\sign (qC s a)=D then 3 else 0
def jL (s:Ia) (a:Nat):Nat:=
 if 8 < cw s 97 122 a then 0 else if 0 < cw s 97 122 a then cw s 97 122 a else if 9 < cw s 48 57 a then 0 else if 0 < cw s 48 57 a then cw s 48 57 a
 else if a < s.size/\sign (qC s a)=D then 1 else 0
theorem ou (s:Ia) (a:Nat) (d:a<=s.size):a+jL s a<=s.size:=by
 have h:=ux s 97 122 a d;have f:=ux s 48 57 a d;unfold jL
 repeat' split
 all_goals omega
structure Tk where
 kind:Int
 text:Ia
def eK (t:Tk):List Value:=[J U t.kind,O t.text]
def qa (ts:List Tk):List Value:=ts.flatMap eK
theorem fB {ts:List Tk} {t:Tk}:qa (ts++[t])=qa ts++[J U t.kind,O t.text]:=by simp[qa,eK]
def toksFrom (s:Ia):Nat->Nat->List Tk->Option (List Tk)
 | 0,_,_=>none
 | f+1,a,acc=>
  if a < s.size then
   if qC s a=32 then toksFrom s f (a+1) acc
   else if jL s a=0\/24<=acc.length then none
   else toksFrom s f (a+jL s a) (acc++[⟨YZ s a,s.extract a (a+jL s a)⟩])
  else some acc
def yY (s:Ia):Option (List Tk):=toksFrom s (s.size+1) 0 []
def linesFrom (s:Ia):Nat->Nat->Nat->Ib->Ib
 | 0,_,_,acc=>acc
 | f+1,start,i,acc=>
  if i < s.size then
   if qC s i=10 then linesFrom s f (i+1) (i+1) (acc++[s.extract start i])else linesFrom s f start (i+1) acc
  else acc++[s.extract start s.size]
def lines (s:Ia):Ib:=linesFrom s (s.size+1) 0 0 []
def resvWords:List (List UInt8):=[[118,97,114],[97,114,114,97,121],[112,114,111,99],[101,110,100],[101,108,115,101],[105,102],[119,104,105,108,101],[115,101,116],[116,111],[112,114,105,110,116],[114,101,97,100],[99,97,108,108],[114,101,116,117,114,110]]
def aL (s:Ia):Bool:=resvWords.any (fun l=>s.toList==l)
def yI (s:Ia):Int:=
 if s.toList==[43]then 5 else if s.toList==[45]then 6 else if s.toList==[42]then 7 else if s.toList==[47]then 8 else if s.toList==[37]then 9
 else if s.toList==[60]then 10 else if s.toList==[61]then 11 else 0
def nls (s:Ia):Nat->Nat
 | 0=>0
 | k+1=>nls s k+(if qC s k=10 then 1 else 0)
theorem Fy (s:Ia) (k:Nat):nls s k<=k:=by
 induction k with
 | zero=>simp[nls]
 | succ k ih=>simp only[nls];split <;> omega
def ZE (s:Ia):Bool:=decide (40000 < s.size)|| decide (100 < 1+nls s s.size)
end Rt
open Rt
section
open Go.RowKit
theorem km {k:IntKind} {a:Int} (h:a=b):Ending.returned (J k a)=T (J k b):=by rw[h]
theorem eT:(Tryz.prog.info? 9).map (fun i=>(i.zero,i.size,i.bytes))=Q (Q (O ByteArray.empty),1,16):=by kernel_rfl
theorem qY (h:Below B w wr) (i:B<=wr.heap.size) (f:wr.ownsRow B e size v n xs) (d:(wr.alloc o).grownBy w1 v.ownBlock):Below B w w1:=
 (h.alloc i o).grown d (by simp;omega) (fun j hj=>(f.lt j hj).1)
theorem zK (h:w.ownsRow B e size v n xs):∃ad cap,v=I ad n cap:=by
 obtain⟨_,h⟩:=h;rcases h with⟨rfl,rfl⟩| ⟨g,cap,cur,rfl,_⟩
 ·exact⟨_,_,rfl⟩
 ·exact⟨_,_,rfl⟩
theorem beqT {a:Int} (h:(a==b)=D):a=b:=by simpa using h
theorem beqF {a:Int} (h:(a==b)=W):¬a=b:=by simpa using h
def Hd(p:Prop):Prop:=p
theorem Hd.u {p:Prop} (h:Hd p):p:=h
theorem Hd.out {p:Prop} (h:Hd p):p:=h
theorem unhide {p:Prop} (h:Hd p):p:=h
theorem zD {p:Prop} (h:p):Hd p:=h
theorem qG {a b:Prop} (j:a) (i:b):Hd (a/\b):=⟨j,i⟩
theorem XX {a b c:Prop} (j:a) (i:b) (hc:c):Hd (a/\b/\c):=⟨j,i,hc⟩
theorem gN {a b c d:Prop} (j:a) (i:b) (hc:c) (hd:d):Hd (a/\b/\c/\d):=⟨j,i,hc,hd⟩
theorem DA {a b c d e:Prop} (j:a) (i:b) (hc:c) (hd:d) (he:e):Hd (a/\b/\c/\d/\e):=⟨j,i,hc,hd,he⟩
theorem GW {a b c d e f:Prop} (j:a) (i:b) (hc:c) (hd:d) (he:e) (hf:f):Hd (a/\b/\c/\d/\e/\f):=⟨j,i,hc,hd,he,hf⟩
theorem hd7 {a b c d e f g:Prop} (j:a) (i:b) (hc:c) (hd:d) (he:e) (hf:f) (hg:g):Hd (a/\b/\c/\d/\e/\f/\g):=⟨j,i,hc,hd,he,hf,hg⟩
theorem hd8 {a b c d e f g h:Prop} (j:a) (i:b) (hc:c) (hd:d) (he:e) (hf:f) (hg:g) (hh:h):Hd (a/\b/\c/\d/\e/\f/\g/\h):=⟨j,i,hc,hd,he,hf,hg,hh⟩
theorem zQ (h:w.heap[N]?=Q o):N < w.heap.size:=by
 by_cases d:N < w.heap.size
 ·exact d
 ·rw[vq (by omega)]at h;cases h
theorem yD (h:w.ownsRow B e size v n xs) {u:Value} (hj:xs[j]?=Q u):∃g cap,v=I (Q ⟨g,0,Z⟩) n cap/\B<=g/\g < w.heap.size/\w.cell? ⟨g,j,Z⟩=Q u:=by
 obtain⟨d,h2⟩:=h;rcases h2 with⟨rfl,rfl⟩| ⟨g,cap,cur,rfl,hg,hh,hn,hc,hs,ht⟩
 ·have:xs=[]:=yu (by simpa using d);subst this;simp at hj
 ·refine⟨g,cap,rfl,hg,zQ hh,?_⟩;rw[vj w g j cur e (0,0) hh];rw[<-ht,List.getElem?_take]at hj;split at hj
  ·simpa using hj
  ·cases hj
theorem yG (h:w.ownsRow B e size v n xs) (d:Below w.heap.size w w'):w'.ownsRow B e size v n xs:=by
 obtain⟨f,h2⟩:=h;refine⟨f,?_⟩;rcases h2 with h2 | ⟨g,cap,cur,hv,hg,hh,r⟩
 ·exact Or.inl h2
 ·exact Or.inr ⟨g,cap,cur,hv,hg,by rw[d.block g (zQ hh)];exact hh,r⟩
theorem zU (h:w.heap[N]?=Q o) (d:Below w.heap.size w w'):w'.heap[N]?=Q o:=by rw[d.block N (zQ h)];exact h
theorem yj {a b:Bool} (h:a=b):Ending.returned (A a)=T (A b):=by rw[h]
theorem beq_eq_decide {a:Int}:(a==b)=decide (a=b):=by rw[xO];simp
theorem EP {b:Bool} (h:(ps.drop k).any (fun y=>decide (y=x))=b) (d:¬k < G ps):b=W:=by
 rw[zp (by omega)]at h;exact h.symm
theorem EO {b:Bool} (h:(ps.drop k).any (fun y=>decide (y=x))=b) (d:k < G ps) (f:ps[k]=x):b=D:=by
 rw[zZ d,vw]at h;rw[<-h];simp[f]
theorem CM {b:Bool} (h:(ps.drop k).any (fun y=>decide (y=x))=b) (d:k < G ps) (f:¬ps[k]=x):(ps.drop (k+1)).any (fun y=>decide (y=x))=b:=by
 rw[zZ d,vw]at h;rw[<-h];simp[f]
theorem yh {w5:World} (h:Below w.drew.heap.size w.drew w5):Below w.heap.size w w5:=⟨h.os,h.tape,h.output,h.size,h.block⟩
theorem zh (w:World):Below w.heap.size w w.drew:=⟨rfl,rfl,rfl,zB _,fun _ _=>rfl⟩
theorem zC {t:TypeId} (h:w.heap[R]?=Q (V cs t (0,0))) (i:Nat) (d:i < cs.size):w.cell? ⟨R,i,Z⟩=Q cs[i]:=by
 rw[vj w R i cs t (0,0) h];simp[d]
theorem zS {t:TypeId} (h:w.heap[R]?=Q (V cs t (0,0))) (i:Nat):w.frozen? ⟨R,i,Z⟩=W:=by
 simp[World.frozen?,h]
theorem yR (h:w.heap[N]?=Q o) (f:Obj):(w.alloc f).heap[N]?=Q o:=by
 have d:N < w.heap.size:=by
  by_cases i:N < w.heap.size
  ·exact i
  ·rw[vq (by omega)]at h;cases h
 rw[jx _ _ _ d];exact h
theorem zf {M:Nat} {t:TypeId} (h:w.heap[M]?=Q (V cs t (0,0))) (i:Nat) (v:Value):(w.setCell ⟨M,i,Z⟩ v).heap[M]?=Q (V (cs.setIfInBounds i v) t (0,0)):=by
 show (w.heap.modify M _)[M]?=_;rw[ZD];simp[h]
theorem Je {b:Nat} (h:w.ownsRow b e size v n xs) (d:∀g,v.ownBlock=Q g->b'<=g):w.ownsRow b' e size v n xs:=by
 obtain⟨f,h2⟩:=h;refine⟨f,?_⟩;rcases h2 with h2 | ⟨g,cap,cur,hv,hg,r⟩
 ·exact Or.inl h2
 ·exact Or.inr ⟨g,cap,cur,hv,d g (by rw[hv];rfl),r⟩
theorem yn {b:Nat} (h:w.ownsRow b e size v n xs) (d:b'<=b):w.ownsRow b' e size v n xs:=
 Je h (fun g hg=>zi d (h.lt g hg).1)
theorem iC (w:World) {o1 o2:Obj}:((w.alloc o1).alloc o2).drew.heap[w.heap.size+1]?=Q o2:=by
 show ((w.alloc o1).alloc o2).heap[w.heap.size+1]?=Q o2;have:=zN (w.alloc o1) o2;simpa using this
theorem QW {x:Obj} (i:(wr.alloc o).grownBy w1 row) (h:wr.heap[k]?=Q x) (d:row≠Q k):w1.heap[k]?=Q x:=by
 have f:=zQ h;rw[i.block k (by simp;omega) (xK d),jx wr o k f];exact h
theorem Ys {B':Nat} {e':TypeId} {size' n':Nat} {v':Value} {xs':List Value} (h:w.ownsRow B e size v n xs) (i:w.ownsRow B' e' size' v' n' xs') (f:e≠e'):∀g,v.ownBlock=Q g->v'.ownBlock≠Q g:=by
 intro g hg d;rcases h.2 with⟨rfl,_⟩| ⟨g1,c1,Eu,hv1,_,hh1,_⟩
 ·cases hg
 ·rcases i.2 with⟨rfl,_⟩| ⟨g2,c2,cur2,hv2,_,hh2,_⟩
  ·cases d
  ·rw[hv1]at hg;rw[hv2]at d;simp[Value.ownBlock]at hg d;subst hg;subst d;rw[hh1]at hh2;simp at hh2;exact f hh2.2
theorem lQ (h:w.ownsRow B e size v n xs) (f:(w.alloc o).grownBy w1 row) (d:∀g,v.ownBlock=Q g->row≠Q g):w1.ownsRow B e size v n xs:=by
 obtain⟨i,h2⟩:=h;refine⟨i,?_⟩;rcases h2 with h2 | ⟨g,cap,cur,hv,hgB,hh,r⟩
 ·exact Or.inl h2
 ·exact Or.inr ⟨g,cap,cur,hv,hgB,QW f hh (d g (by rw[hv];rfl)),r⟩
namespace Rf
def qt (b:Int):Bool:=decide (97<=b) && decide (b<=122)
def jo (b:Int):Bool:=decide (48<=b) && decide (b<=57)
def kp (xs:Ib) (x:Ia):Bool:=xs.any (fun y=>decide (y=x))
def KM:Ib:=[⟨#[118,97,114]⟩,⟨#[97,114,114,97,121]⟩,⟨#[112,114,111,99]⟩,⟨#[101,110,100]⟩,⟨#[101,108,115,101]⟩,⟨#[105,102]⟩,⟨#[119,104,105,108,101]⟩,⟨#[115,101,116]⟩,⟨#[116,111]⟩,⟨#[112,114,105,110,116]⟩,⟨#[114,101,97,100]⟩,⟨#[99,97,108,108]⟩,⟨#[114,101,116,117,114,110]⟩]
def nu:Ib:=[⟨#[43]⟩,⟨#[45]⟩,⟨#[42]⟩,⟨#[47]⟩,⟨#[37]⟩,⟨#[60]⟩,⟨#[61]⟩,⟨#[40]⟩,⟨#[41]⟩,⟨#[91]⟩,⟨#[93]⟩,⟨#[44]⟩]
def yg (x:Ia):Bool:=decide (0 < x.size) && qt (Rt.qC x 0) && !kp KM x
def xi (x:Ia):Bool:=decide (0 < x.size) && jo (Rt.qC x 0)
def kF:Ib:=[⟨#[60]⟩,⟨#[61]⟩]
def kL:Ib:=[⟨#[43]⟩,⟨#[45]⟩]
def vJ:Ib:=[⟨#[42]⟩,⟨#[47]⟩,⟨#[37]⟩]
def KX (x:Ia):Bool:=yg x || xi x || (x.toList==[41])|| (x.toList==[93])
def worthTo (s:Ia):Nat->Int
 | 0=>0
 | k+1=>wrap64 (wrap64 (10*worthTo s k)+(Rt.qC s k-48) % 256)
def worth (s:Ia):Int:=worthTo s s.size
def runN (s:Ia) (a:Nat):Nat:=if qt (Rt.qC s a)=D then Rt.cw s 97 122 a else if jo (Rt.qC s a)=D then Rt.cw s 48 57 a else 0
def J9 (x:Ia):Int:=if (x.toList==[40])=D then 1 else if (x.toList==[91])=D then 1 else if (x.toList==[41])=D then -1 else if (x.toList==[93])=D then -1 else 0
def ve (t:Ib) (i:Nat):Ia:=t.getD i ⟨#[]⟩
def depth (t:Ib):Nat->Int
 | 0=>0
 | i+1=>depth t i+J9 (ve t i)
def kQ (sg t:Ib):Nat->Int
 | 0=>-1
 | i+1=>if kp sg (ve t i)=true/\depth t (i+1)=0/\0 < i/\KX (ve t (i-1))=true then (i:Int)else kQ sg t i
def last (sg t:Ib):Int:=kQ sg t (G t)
theorem qq {i:Nat} (h:i < G t):ve t i=t[i]:=by simp[ve,h]
theorem Gm (x:Ia):-1<=J9 x/\J9 x<=1:=by unfold J9;(repeat' split) <;> omega
theorem nX (t:Ib):∀i:Nat,-(i:Int)<=depth t i/\depth t i<=i
 | 0=>by simp[depth]
 | i+1=>by
  have:=nX t i;have h:=Gm (ve t i);rw[depth];omega
theorem XK (d t:Ib):∀i:Nat,-1<=kQ d t i/\kQ d t i < (i:Int)/\(kQ d t i=-1\/0 < kQ d t i)
 | 0=>by simp[kQ]
 | i+1=>by
  have:=XK d t i;rw[kQ];split <;> omega
theorem dF (x:Ia):((x.toList==[40])=D/\J9 x=1)\/((x.toList==[40])=W/\(x.toList==[91])=D/\J9 x=1)\/((x.toList==[40])=W/\(x.toList==[91])=W/\(x.toList==[41])=D/\J9 x=-1)\/
  ((x.toList==[40])=W/\(x.toList==[91])=W/\(x.toList==[41])=W/\(x.toList==[93])=D/\J9 x=-1)\/((x.toList==[40])=W/\(x.toList==[91])=W/\(x.toList==[41])=W/\(x.toList==[93])=W/\J9 x=0):=by
 unfold J9;cases (x.toList==[40]) <;> cases (x.toList==[91]) <;> cases (x.toList==[41]) <;> cases (x.toList==[93]) <;> simp
def Qa (S:Ib->Bool) (t:Ib):Bool:=if last kF t < 0 then S t else S (t.take (last kF t).toNat) && S (t.drop ((last kF t).toNat+1))
def Vk (S T:Ib->Bool) (t:Ib):Bool:=if last kL t < 0 then T t else S (t.take (last kL t).toNat) && T (t.drop ((last kL t).toNat+1))
def X8 (S T:Ib->Bool) (t:Ib):Bool:=if last vJ t < 0 then T t else S (t.take (last vJ t).toNat) && T (t.drop ((last vJ t).toNat+1))
def first (t:Ib):Ia:=ve t 0
def final (t:Ib):Ia:=ve t (G t-1)
def kR (F E C:Ib->Bool) (t:Ib):Bool:=
 if G t=0 then W else if G t=1 then yg (first t)|| xi (first t)
 else if ((first t).toList==[45])=D then F (t.drop 1)
 else if ((first t).toList==[40])=D/\((final t).toList==[41])=D then E ((t.take (G t-1)).drop 1)else C t
def kX (E:Ib->Bool) (t:Ib):Bool:=
 if G t < 4\/((ve t 1).toList==[91])=W\/((final t).toList==[93])=W then W
 else yg (first t) && E ((t.take (G t-1)).drop 2)
def gr:Nat->Nat->Ib->Bool
 | 0,_,_=>false
 | f+1,0,t=>Qa (gr f 1) t
 | f+1,1,t=>Vk (gr f 1) (gr f 2) t
 | f+1,2,t=>X8 (gr f 2) (gr f 3) t
 | f+1,3,t=>kR (gr f 3) (gr f 0) (gr f 4) t
 | f+1,_+4,t=>kX (gr f 0) t
theorem Yx (d t:Ib):last d t=-1\/∃k:Nat,last d t=k/\0 < k/\k < G t:=by
 obtain⟨i,f,h3⟩:=XK d t (G t);rcases h3 with h | h
 ·exact Or.inl h
 ·exact Or.inr ⟨(last d t).toNat,by unfold last;omega,by unfold last;omega,by unfold last;omega⟩
theorem ar {S:Ib->Bool} (d:sg=kF) (h:last sg t=k):Qa S t=(S (t.take k) && S (t.drop (k+1))):=by
 subst d;unfold Qa;rw[h,zA (by omega)];rfl
theorem aq {S:Ib->Bool} (h:last kF t=-1):Qa S t=S t:=by
 unfold Qa;rw[h,zE (by omega)]
theorem eM {S T:Ib->Bool} (h:last kL t=k):Vk S T t=(S (t.take k) && T (t.drop (k+1))):=by
 unfold Vk;rw[h,zA (by omega)];rfl
theorem eL {S T:Ib->Bool} (h:last kL t=-1):Vk S T t=T t:=by
 unfold Vk;rw[h,zE (by omega)]
theorem aG {S T:Ib->Bool} (h:last vJ t=k):X8 S T t=(S (t.take k) && T (t.drop (k+1))):=by
 unfold X8;rw[h,zA (by omega)];rfl
theorem aF {S T:Ib->Bool} (h:last vJ t=-1):X8 S T t=T t:=by
 unfold X8;rw[h,zE (by omega)]
theorem gX {F E C F' E' C':Ib->Bool} (h:2<=G t->F (t.drop 1)=F' (t.drop 1)) (f:2<=G t->E ((t.take (G t-1)).drop 1)=E' ((t.take (G t-1)).drop 1)) (d:C t=C' t):kR F E C t=kR F' E' C' t:=by
 unfold kR;by_cases hz:G t=0
 ·rw[zE hz,zE hz]
 ·by_cases ho:G t=1
  ·rw[zA hz,zA hz,zE ho,zE ho]
  ·rw[h (by omega),f (by omega),d]
theorem rD {E E':Ib->Bool} (h:4<=G t->E ((t.take (G t-1)).drop 2)=E' ((t.take (G t-1)).drop 2)):kX E t=kX E' t:=by
 unfold kX;by_cases hz:G t < 4
 ·rw[zE (Or.inl hz),zE (Or.inl hz)]
 ·rw[h (by omega)]
theorem vy:∀(f g r:Nat) (t:Ib),r<=4->5*G t+5<=f+r->5*G t+5<=g+r->gr f r t=gr g r t
 | 0,_,_,_,hr,hf,_=>by omega
 | _+1,0,_,_,hr,_,hg=>by omega
 | f+1,g+1,0,t,hr,hf,hg=>by
  show Qa (gr f 1) t=Qa (gr g 1) t;rcases Yx kF t with h | ⟨k,h,h0,hk⟩
  ·rw[aq h,aq h];exact vy f g 1 t (by omega) (by omega) (by omega)
  ·rw[ar rfl h,ar rfl h,vy f g 1 (t.take k) (by omega) (by simp;omega) (by simp;omega),vy f g 1 (t.drop (k+1)) (by omega) (by simp;omega) (by simp;omega)]
 | f+1,g+1,1,t,hr,hf,hg=>by
  show Vk (gr f 1) (gr f 2) t=Vk (gr g 1) (gr g 2) t;rcases Yx kL t with h | ⟨k,h,h0,hk⟩
  ·rw[eL h,eL h];exact vy f g 2 t (by omega) (by omega) (by omega)
  ·rw[eM h,eM h,vy f g 1 (t.take k) (by omega) (by simp;omega) (by simp;omega),vy f g 2 (t.drop (k+1)) (by omega) (by simp;omega) (by simp;omega)]
 | f+1,g+1,2,t,hr,hf,hg=>by
  show X8 (gr f 2) (gr f 3) t=X8 (gr g 2) (gr g 3) t;rcases Yx vJ t with h | ⟨k,h,h0,hk⟩
  ·rw[aF h,aF h];exact vy f g 3 t (by omega) (by omega) (by omega)
  ·rw[aG h,aG h,vy f g 2 (t.take k) (by omega) (by simp;omega) (by simp;omega),vy f g 3 (t.drop (k+1)) (by omega) (by simp;omega) (by simp;omega)]
 | f+1,g+1,3,t,hr,hf,hg=>by
  show kR (gr f 3) (gr f 0) (gr f 4) t=kR (gr g 3) (gr g 0) (gr g 4) t;exact gX (fun _=>vy f g 3 _ (by omega) (by simp;omega) (by simp;omega)) (fun _=>vy f g 0 _ (by omega) (by simp;omega) (by simp;omega)) (vy f g 4 t (by omega) (by omega) (by omega))
 | f+1,g+1,_+4,t,hr,hf,hg=>by
  show kX (gr f 0) t=kX (gr g 0) t;exact rD (fun _=>vy f g 0 _ (by omega) (by simp;omega) (by simp;omega))
def qX (t:Ib):Bool:=gr (5*G t+5) 0 t
def J1 (t:Ib):Bool:=gr (5*G t+4) 1 t
def isTerm (t:Ib):Bool:=gr (5*G t+3) 2 t
def vI (t:Ib):Bool:=gr (5*G t+2) 3 t
def Jp (t:Ib):Bool:=gr (5*G t+1) 4 t
def kl (t:Ib):Bool:=t.all yg
def behindFrom:Ib->Nat->Nat
 | [],_=>0
 | x::r,i=>if (x.toList==[116,111])=true then i else behindFrom r (i+1)
def behind (t:Ib):Nat:=behindFrom t 0
theorem rJ (h:k < G t):behindFrom (t.drop k) k=if (t[k].toList==[116,111])=D then k else behindFrom (t.drop (k+1)) (k+1):=by
 rw[zZ h,behindFrom]
theorem bY:∀(t:Ib) (i:Nat),behindFrom t i=0\/behindFrom t i < i+G t
 | [],_=>Or.inl rfl
 | x::r,i=>by
  rw[behindFrom];split
  ·right;simp
  ·rcases bY r (i+1)with h | h
   ·exact Or.inl h
   ·right;simp;omega
theorem Dh (t:Ib):behind t=0\/behind t < G t:=by
 have:=bY t 0;unfold behind;omega
def isSet (t:Ib):Bool:=
 if behind t < 2 then W else if behind t=2 then yg (ve t 1) && qX (t.drop 3)else Jp ((t.take (behind t)).drop 1) && qX (t.drop (behind t+1))
def yd (t:Ib):Nat->List Ib×Nat
 | 0=>([],0)
 | i+1=>if ((ve t i).toList==[44])=true/\depth t i=0 then ((yd t i).1++[(t.take i).drop (yd t i).2],i+1)else yd t i
def parts (t:Ib):List Ib:=if (G t)=0 then []else (yd t (G t)).1++[t.drop (yd t (G t)).2]
theorem K1 (t:Ib):∀i,(yd t i).2<=i/\(yd t i).1.length<=i
 | 0=>by simp[yd]
 | i+1=>by
  have:=K1 t i;rw[yd];split
  ·simp;omega
  ·omega
def QV (t:Ib):Bool:=if (G t) < 2 then W else (parts (t.drop 2)).all qX && yg (ve t 1)
def Qn (t:Ib):Bool:=if (G t)=3 then yg (ve t 1) && xi (ve t 2) && decide (1<=worth (ve t 2)) && decide (worth (ve t 2)<=32)else W
def isKind (t:Ib) (h:List UInt8):Bool:=
 if (h==[101,110,100])=D then decide (G t=1)else if (h==[101,108,115,101])=D then decide (G t=1)else if (h==[114,101,116,117,114,110])=D then decide (G t=1)else if (h==[118,97,114])=D then (decide (G t=2) && kl (t.drop 1))else if (h==[114,101,97,100])=D then (decide (G t=2) && kl (t.drop 1))else if (h==[112,114,111,99])=D then (decide (2<=G t/\G t<=6) && kl (t.drop 1))else if (h==[105,102])=D then qX (t.drop 1)else if (h==[119,104,105,108,101])=D then qX (t.drop 1)else if (h==[112,114,105,110,116])=D then qX (t.drop 1)else if (h==[115,101,116])=D then isSet t else if (h==[99,97,108,108])=D then QV t else if (h==[97,114,114,97,121])=D then Qn t else W
def xM (t:Ib):Bool:=if (G t)=0 then D else isKind t (first t).toList
def Xl (t:Ib):Bool:=((first t).toList==[118,97,114])|| ((first t).toList==[97,114,114,97,121])|| ((first t).toList==[112,114,111,99])
def kJ (t:Ib):Bool:=((first t).toList==[112,114,111,99])|| ((first t).toList==[105,102])|| ((first t).toList==[119,104,105,108,101])
def Kk (t:Ib) (x:Ia):Bool:=Xl t && ((ve t 1).toList==x.toList)
def declFrom:Nat->List Ib->Ia->Nat
 | _,[],_=>0
 | n,t::r,x=>if Kk t x=true then n else declFrom (n+1) r x
def decl (ls:List Ib) (x:Ia):Nat:=declFrom 1 ls x
def xU (ls:List Ib) (l:Nat):Ib:=ls.getD l []
def home (ls:List Ib):Nat->Nat
 | 0=>0
 | n+1=>if ((first (xU ls n)).toList==[112,114,111,99])=true then n+1 else home ls n
theorem yq {ls:List Ib} {l:Nat} (h:l < G ls):xU ls l=ls[l]:=by simp[xU,h]
theorem A7 (h:G t=0):first t=⟨#[]⟩:=by
 have:t=[]:=yu h;subst this;rfl
theorem gT (h:0 < G t):first t=t[0]:=qq h
theorem gh:∀(ls:List Ib) (n:Nat) (x:Ia),declFrom n ls x=0\/(n<=declFrom n ls x/\declFrom n ls x < n+G ls)
 | [],_,_=>Or.inl rfl
 | t::r,n,x=>by
  rw[declFrom];split
  ·right;simp
  ·rcases gh r (n+1) x with h | h
   ·exact Or.inl h
   ·right;simp;omega
theorem Qb (ls:List Ib) (x:Ia):decl ls x<=G ls:=by
 have:=gh ls 1 x;unfold decl;omega
def tx (ts:List Rt.Tk):Ib:=ts.map (·.text)
end Rf
open Rf
def xA (w:World) (v:Value) (xs:Ib):Prop:=
 ∃ad cap,v=I ad (G xs) cap/\G xs<=cap/\(xs=[]\/∃b o,ad=Q ⟨b,o,Z⟩/\∀j (h:j < G xs),w.cell? ⟨b,o+j,Z⟩=Q (O xs[j]))
theorem xA.zP {xs:Ib} (h:xA w v xs) (f:Below w.heap.size w w'):xA w' v xs:=by
 obtain⟨i,cap,rfl,d,h⟩:=h;refine⟨i,cap,rfl,d,?_⟩;rcases h with h | ⟨b,o,rfl,h⟩
 ·exact Or.inl h
 ·exact Or.inr ⟨b,o,rfl,fun j hj=>cell_later f (h j hj)⟩
theorem QA {xs:Ib} (h:w.ownsRow B 9 1 v (G xs) (xs.map Value.string)):xA w v xs:=by
 have i:=h;rcases h.2 with⟨rfl,hn⟩| ⟨g,cap,cur,rfl,_,hh,hn,_⟩
 ·have:xs=[]:=yu hn;subst this;exact⟨Z,0,rfl,zB _,Or.inl rfl⟩
 ·refine⟨_,cap,rfl,hn,?_⟩;by_cases hx:xs=[]
  ·exact Or.inl hx
  ·refine Or.inr ⟨g,0,rfl,fun j hj=>?_⟩;obtain⟨g',k,d,_,_,f⟩:=yD i (j:=j) (u:=O xs[j]) (by simp[hj]);simp at d;rw[xW,d.1];exact f
theorem kK:Calls Tryz.prog 130 #[J .u8 b] w fun e w'=>e=T (A (qt b))/\w'=w:=by
 go_enter func130,ntmps130;go_wp2
 all_goals (go_ret;exact⟨yj (by simp_all [qt] <;> omega),rfl⟩)
theorem vB:Calls Tryz.prog 131 #[J .u8 b] w fun e w'=>e=T (A (jo b))/\w'=w:=by
 go_enter func131,ntmps131;go_wp2
 all_goals (go_ret;exact⟨yj (by simp_all [jo] <;> omega),rfl⟩)
theorem cr {xs:Ib} (x:Ia) (h:xA w v xs) (D:G xs<=100000):Calls Tryz.prog 132 #[v,O x] w fun e w'=>e=T (A (kp xs x))/\w'=w:=by
 obtain⟨I,cap,rfl,_,h⟩:=h;have HH:=zD h;clear h;go_enter func132,ntmps132;go_wp2;go_loop [5] (fun i=>∃k:Nat,k<=G xs/\i=J U k/\(xs.drop k).any (fun y=>decide (y=x))=kp xs x) (fun i=>G xs-(intOf i).toNat)
 case atStart=>exact⟨0,zo _,rfl,rfl⟩
 case round=>
  obtain⟨k,F,rfl,z⟩:=hrel;have j:=zD z;clear z;by_cases hlt:k < G xs
  ·rcases HH.u with h | ⟨b,o,rfl,h⟩
   ·rw[h]at hlt;simp at hlt
   have H:=h k hlt;have d:(k:Int) < (G xs:Int):=by omega
   clear h;by_cases hx:xs[k]=x
   ·have HE:=zD (EO j.u hlt hx);have f:=QB hx;clear hx;go_wp2;go_ret;exact⟨by rw[HE.u];rfl,rfl⟩
   ·have HE:=zD (CM j.u hlt hx);have f:=KI hx;clear hx;go_wp2;go_round
    ·exact⟨k+1,by omega,by go_num,HE.u⟩
    ·simp[intOf];omega
  ·have HE:=zD (EP j.u hlt);have d:¬(k:Int) < (G xs:Int):=by omega
   go_wp2;go_ret;exact⟨by rw[HE.u];rfl,rfl⟩
theorem mq:Calls Tryz.prog 178 #[] w fun e w'=>∃v,e=T v/\xA w' v KM/\Below w.heap.size w w':=by
 go_enter func178,ntmps178;go_wp2;go_ret;exact⟨_,rfl,QA (ZI (base:=0) w (KM.map Value.string).toArray 13 (zo _) (by unfold maxLen;omega) rfl),(zI _ _).alloc (zB _) _⟩
theorem wW:Calls Tryz.prog 133 #[] w fun e w'=>∃v,e=T v/\xA w' v nu/\Below w.heap.size w w':=by
 go_enter func133,ntmps133;go_wp2;go_ret;exact⟨_,rfl,QA (ZI (base:=0) w (nu.map Value.string).toArray 12 (zo _) (by unfold maxLen;omega) rfl),(zI _ _).alloc (zB _) _⟩
theorem XJ (x:Ia) (k:x.size<=maxLen):Calls Tryz.prog 138 #[O x] w fun e w'=>e=T (A (Rf.yg x))/\Below w.heap.size w w':=by
 unfold maxLen at k;go_enter func138,ntmps138;go_wp2_with fail;refine(mq).mono ?_;rintro e w1 ⟨v,rfl,i,d⟩;go_wp2_with fail;refine(cr x i (by decide)).mono ?_;rintro e w2 ⟨rfl,rfl⟩;have j:=zD d;clear d i;by_cases hz:0 < x.size
 ·have f:(0:Int) < (x.size:Int):=by omega
  have h:=zD (show Rf.yg x=(qt (x[0].toNat:Int) && !kp KM x) by simp[Rf.yg,hz,Rt.qC]);go_wp2_with (go_at_call 130;refine(kK).mono ?_;rintro e w' ⟨rfl,rfl⟩)
  all_goals
   go_ret;exact⟨by rw[h.u];exact yj (by simp_all),j.u⟩
 ·have f:¬(0:Int) < (x.size:Int):=by omega
  have h:=zD (show Rf.yg x=W by simp[Rf.yg,hz]);go_wp2;go_ret;exact⟨by rw[h.u];rfl,j.u⟩
theorem Yv (x:Ia) (h:x.size<=maxLen):Calls Tryz.prog 139 #[O x] w fun e w'=>e=T (A (xi x))/\w'=w:=by
 unfold maxLen at h;by_cases hz:0 < x.size
 ·have d:(0:Int) < (x.size:Int):=by omega
  have f:=zD (show xi x=jo (x[0].toNat:Int) by simp[xi,hz,Rt.qC]);go_enter func139,ntmps139;go_wp2_with (go_at_call 131;refine(vB).mono ?_;rintro e w' ⟨rfl,rfl⟩);go_ret;exact⟨by rw[f.u];first | rfl | simp,rfl⟩
 ·have d:¬(0:Int) < (x.size:Int):=by omega
  have f:=zD (show xi x=W by simp[xi,hz]);go_enter func139,ntmps139;go_wp2;go_ret;exact⟨by rw[f.u];rfl,rfl⟩
theorem bx (s:Ia) (f:s.size<=maxLen):Calls Tryz.prog 93 #[O s] w fun e w'=>e=T (J U (Rf.worth s))/\w'=w:=by
 unfold maxLen at f;go_enter func93,ntmps93;go_wp2;go_loop [3,4] (fun v i=>∃k:Nat,k<=s.size/\i=J U k/\v=J U (Rf.worthTo s k)) (fun _ i=>s.size-(intOf i).toNat)
 case atStart=>exact⟨0,zo _,rfl,rfl⟩
 case round=>
  obtain⟨k,h,rfl,rfl⟩:=hrel;by_cases hlt:k < s.size
  ·have HB:Hd (Rt.qC s k=(s[k].toNat:Int)):=Rt.jB hlt;go_wp2;go_round
   ·exact⟨k+1,by omega,by go_num,by rw[Rf.worthTo,HB.out]⟩
   ·simp[intOf];omega
  ·have d:k=s.size:=by omega
   subst d;go_wp2;go_ret;exact⟨rfl,rfl⟩
theorem VW:Calls Tryz.prog 175 #[] w fun e w'=>∃v,e=T v/\xA w' v kF/\Below w.heap.size w w':=by
 go_enter func175,ntmps175;go_wp2;go_ret;exact⟨_,rfl,QA (ZI (base:=0) w (kF.map Value.string).toArray 2 (zo _) (by unfold maxLen;omega) rfl),(zI _ _).alloc (zB _) _⟩
theorem iD:Calls Tryz.prog 204 #[] w fun e w'=>∃v,e=T v/\xA w' v kL/\Below w.heap.size w w':=by
 go_enter func204,ntmps204;go_wp2;go_ret;exact⟨_,rfl,QA (ZI (base:=0) w (kL.map Value.string).toArray 2 (zo _) (by unfold maxLen;omega) rfl),(zI _ _).alloc (zB _) _⟩
theorem ax:Calls Tryz.prog 209 #[] w fun e w'=>∃v,e=T v/\xA w' v vJ/\Below w.heap.size w w':=by
 go_enter func209,ntmps209;go_wp2;go_ret;exact⟨_,rfl,QA (ZI (base:=0) w (vJ.map Value.string).toArray 3 (zo _) (by unfold maxLen;omega) rfl),(zI _ _).alloc (zB _) _⟩
theorem oW (x:Ia) (f:x.size<=maxLen):Calls Tryz.prog 203 #[O x] w fun e w'=>e=T (A (KX x))/\Below w.heap.size w w':=by
 go_enter func203,ntmps203;go_wp2_with fail;refine(XJ x f).mono ?_;rintro e w1 ⟨rfl,d⟩;have i:=zD d;have h:=zD (show KX x=(Rf.yg x || xi x || (x.toList==[41])|| (x.toList==[93]))from rfl);clear d;cases hn:Rf.yg x with
 | true=>
  go_wp2;go_ret;exact⟨by rw[h.u,hn];rfl,i.u⟩
 | false=>
  cases hm:xi x with
  | true=>
   go_wp2_with (go_at_call 139;refine(Yv x f).mono ?_;rintro e w' ⟨rfl,rfl⟩;rw[hm]);go_ret;exact⟨by rw[h.u,hn,hm];rfl,i.u⟩
  | false=>
   go_wp2_with (go_at_call 139;refine(Yv x f).mono ?_;rintro e w' ⟨rfl,rfl⟩;rw[hm])
   all_goals
    go_ret;exact⟨by rw[h.u,hn,hm];exact yj (by simp_all),i.u⟩
theorem Zy {b:UInt8}:Rt.within 97 122 b=qt (b.toNat:Int):=by
 rw[xO];simp[Rt.within,qt]
theorem Xk {b:UInt8}:Rt.within 48 57 b=jo (b.toNat:Int):=by
 rw[xO];simp[Rt.within,jo]
theorem JJ (h:qt b=D):jo b=W:=by
 rw[yL];simp[qt,jo]at h ⊢;omega
theorem K0 (s:Ia) (a:Nat) (G:s.size<=maxLen) (H:a < s.size):Calls Tryz.prog 129 #[O s,J U a] w fun e w'=>e=T (J U (Rf.runN s a))/\w'=w:=by
 unfold maxLen at G;have F:=zD (Rt.jB H);cases hl:qt (s[a].toNat:Int)with
 | true=>
  have hd:=JJ hl;have x:=zD (show Rf.runN s a=Rt.cw s 97 122 a by unfold Rf.runN;rw[F.u,zE hl]);go_enter func129,ntmps129;go_wp2;go_loop [5] (fun i=>∃k:Nat,a+k<=s.size/\i=J U k/\∀j (h:j < s.size),a<=j->j < a+k->Rt.within 97 122 s[j]=D) (fun i=>s.size-(intOf i).toNat)
  case atStart=>exact⟨0,by omega,rfl,fun j h h1 h2=>by omega⟩
  case round=>
   obtain⟨k,A,rfl,d⟩:=hrel;have z:=zD d;clear d;by_cases hlt:a+k < s.size
   ·have f:(a:Int)+(k:Int) < (s.size:Int):=by omega
    cases hx:qt (s[a+k].toNat:Int)with
    | true=>
     go_wp2_with (first | (go_at_call 130;refine(kK).mono ?_;rintro e w' ⟨rfl,rfl⟩)| (go_at_call 131;refine(vB).mono ?_;rintro e w' ⟨rfl,rfl⟩))

     go_round
     ·refine⟨k+1,by omega,by go_num,fun j h h1 h2=>?_⟩;by_cases hj:j=a+k
      ·subst hj;rw[Zy];exact hx
      ·exact z.u j h h1 (by omega)
     ·simp[intOf];omega
    | false=>
     go_wp2_with (first | (go_at_call 130;refine(kK).mono ?_;rintro e w' ⟨rfl,rfl⟩)| (go_at_call 131;refine(vB).mono ?_;rintro e w' ⟨rfl,rfl⟩))

     have o:=Rt.bJ s 97 122 a (a+k) (by omega) A z.u (fun h=>by rw[Zy];exact hx);have y:=zD o;clear o;go_ret;exact⟨km (by rw[x.u,y.u];omega),rfl⟩
   ·have f:¬(a:Int)+(k:Int) < (s.size:Int):=by omega
    have o:=Rt.bJ s 97 122 a (a+k) (by omega) A z.u (fun h=>absurd h hlt);have y:=zD o;clear o;go_wp2;go_ret;exact⟨km (by rw[x.u,y.u];omega),rfl⟩
 | false=>
  cases hd:jo (s[a].toNat:Int)with
  | true=>
   have x:=zD (show Rf.runN s a=Rt.cw s 48 57 a by unfold Rf.runN;rw[F.u,zA (by rw[hl];simp),zE hd]);go_enter func129,ntmps129;go_wp2;go_loop [5] (fun i=>∃k:Nat,a+k<=s.size/\i=J U k/\∀j (h:j < s.size),a<=j->j < a+k->Rt.within 48 57 s[j]=D) (fun i=>s.size-(intOf i).toNat)
   case atStart=>exact⟨0,by omega,rfl,fun j h h1 h2=>by omega⟩
   case round=>
    obtain⟨k,A,rfl,d⟩:=hrel;have z:=zD d;clear d;by_cases hlt:a+k < s.size
    ·have f:(a:Int)+(k:Int) < (s.size:Int):=by omega
     cases hx:jo (s[a+k].toNat:Int)with
     | true=>
      go_wp2_with (first | (go_at_call 130;refine(kK).mono ?_;rintro e w' ⟨rfl,rfl⟩)| (go_at_call 131;refine(vB).mono ?_;rintro e w' ⟨rfl,rfl⟩))

      go_round
      ·refine⟨k+1,by omega,by go_num,fun j h h1 h2=>?_⟩;by_cases hj:j=a+k
       ·subst hj;rw[Xk];exact hx
       ·exact z.u j h h1 (by omega)
      ·simp[intOf];omega
     | false=>
      go_wp2_with (first | (go_at_call 130;refine(kK).mono ?_;rintro e w' ⟨rfl,rfl⟩)| (go_at_call 131;refine(vB).mono ?_;rintro e w' ⟨rfl,rfl⟩))

      have o:=Rt.bJ s 48 57 a (a+k) (by omega) A z.u (fun h=>by rw[Xk];exact hx);have y:=zD o;clear o;go_ret;exact⟨km (by rw[x.u,y.u];omega),rfl⟩
    ·have f:¬(a:Int)+(k:Int) < (s.size:Int):=by omega
     have o:=Rt.bJ s 48 57 a (a+k) (by omega) A z.u (fun h=>absurd h hlt);have y:=zD o;clear o;go_wp2;go_ret;exact⟨km (by rw[x.u,y.u];omega),rfl⟩
  | false=>
   have x:=zD (show Rf.runN s a=0 by unfold Rf.runN;rw[F.u,zA (by rw[hl];simp),zA (by rw[hd];simp)]);go_enter func129,ntmps129;go_wp2;go_loop [5] (fun i=>i=J U (0:Nat)) (fun i=>s.size-(intOf i).toNat)
   case atStart=>rfl
   case round=>
    subst hrel;have f:(a:Int)+((0:Nat):Int) < (s.size:Int):=by omega
    go_wp2_with (first | (go_at_call 130;refine(kK).mono ?_;rintro e w' ⟨rfl,rfl⟩)| (go_at_call 131;refine(vB).mono ?_;rintro e w' ⟨rfl,rfl⟩))
    all_goals (go_ret;exact⟨km (by rw[x.u];rfl),rfl⟩)
theorem Ak (s:Ia) (hs:s.size<=40000):Calls Tryz.prog 79 #[O s] w fun e w'=>Below w.heap.size w w'/\
   ∃v,e=T v/\w'.ownsRow w.heap.size 9 1 v (Rt.lines s).length ((Rt.lines s).map Value.string):=by
 obtain⟨M,N,z,y,x⟩:=yi eT;go_enter func79,ntmps79;go_wp2;go_loopw [3,4,5] (fun v st i wr=>∃(k a f:Nat) (acc:Ib),a<=k/\k<=s.size/\i=J U k/\st=J U a/\s.size < f+k/\G acc<=k/\Rt.linesFrom s f a k acc=Rt.lines s/\wr.ownsRow w.heap.size 9 1 v (G acc) (acc.map Value.string)/\Below w.heap.size w wr)
  (fun _ _ i _=>s.size-(intOf i).toNat)
 case atStart=>exact⟨0,0,s.size+1,[],zB _,zo _,rfl,rfl,by omega,by simp,rfl,zW _ _ _ _,zI _ _⟩
 case round=>
  obtain⟨k,a,f,acc,a0,hk,rfl,rfl,hf,R,F,hown,hnx⟩:=hrel;have L:Hd (Rt.linesFrom s f a k acc=Rt.lines s):=F;clear F;have A:=hnx.size;obtain⟨f,rfl⟩:∃g,f=g+1:=⟨f-1,by omega⟩;obtain⟨ad,cap,rfl⟩:=zK hown;by_cases hlt:k < s.size
  ·have H:=Rt.jB hlt;by_cases hb:s[k].toNat=10
   ·have HR:Hd (Rt.linesFrom s f (k+1) (k+1) (acc++[s.extract a k])=Rt.lines s):=by
     have h:=L.out;rw[Rt.linesFrom,zE hlt,zE (by rw[H,hb];rfl)]at h;exact h
    clear H;have I:((s[k].toNat:Int)==10)=D:=by simp[hb]
    clear hb;go_wp2_with (at_builtin;refine xQ _ rfl _ _ 87 rfl w.heap.size 9 M _ 1 16 underlying87 N z y x rfl (by decide) _ _ _ rfl (hown.alloc _) ⟨_,0,Z⟩ 1 1 [O (s.extract a k)] rfl rfl (cell_one_new _ _ _) ?c2 ?c3 ?c4 ?c5 ?_)
    case c2=>intro u hu;simp at hu;rcases hu with rfl;rfl
    case c3=>unfold maxLen;omega
    case c4=>omega
    case c5=>simp;omega
    intro V w1 j d _;have o:=qY hnx A hown d;clear d hown hnx;go_wp2;go_roundw
    ·exact⟨k+1,k+1,f,_,by omega,by omega,by go_num,by go_num,by omega,by simp;omega,HR.out,by simpa using j,o⟩
    ·simp[intOf];omega
   ·have HR:Hd (Rt.linesFrom s f a (k+1) acc=Rt.lines s):=by
     have h:=L.out;rw[Rt.linesFrom,zE hlt,zA (by rw[H];omega)]at h;exact h
    clear H;have I:((s[k].toNat:Int)==10)=W:=by simp;omega
    go_wp2;go_roundw
    ·exact⟨k+1,a,f,acc,by omega,by omega,by go_num,rfl,by omega,by omega,HR.out,hown,hnx⟩
    ·simp[intOf];omega
  ·have HR:Hd (acc++[s.extract a s.size]=Rt.lines s):=by
    have h:=L.out;rw[Rt.linesFrom,zA hlt]at h;exact h
   go_wp2_with (at_builtin;refine xQ _ rfl _ _ 87 rfl w.heap.size 9 M _ 1 16 underlying87 N z y x rfl (by decide) _ _ _ rfl (hown.alloc _) ⟨_,0,Z⟩ 1 1 [O (s.extract a s.size)] rfl rfl (cell_one_new _ _ _) ?d2 ?d3 ?d4 ?d5 ?_)
   case d2=>intro u hu;simp at hu;rcases hu with rfl;rfl
   case d3=>unfold maxLen;omega
   case d4=>omega
   case d5=>simp;omega
   intro V w1 j d _;have o:=qY hnx A hown d;clear d hown hnx;go_wp2;go_ret;exact⟨o,_,rfl,by rw[<-HR.out];simpa using j⟩
namespace Rt
theorem nY (s:Ia) (d f:Int) (a:Nat) (i:a < s.size) (h:within d f s[a]=W):cw s d f a=0:=by
 rw[bJ s d f a a (zB _) (by omega) (fun j h h1 h2=>by omega) (fun _=>h)];omega
theorem DR (s:Ia) (d f:Int) (a:Nat) (i:a < s.size) (h:within d f s[a]=D):0 < cw s d f a:=by
 unfold cw;rw[zZ (by simpa using i),List.takeWhile_cons_of_pos]
 ·simp
 ·exact h
theorem CT (s:Ia) (a:Nat) (j:a < s.size):s.extract a (a+1)=⟨#[s[a]]⟩:=by
 apply ByteArray.ext;rw[ByteArray.data_extract];have h:s.data.size=s.size:=rfl;apply Array.ext
 ·rw[Array.size_extract];show _=1;omega
 ·intro i k f;have d:i=0:=by simpa using f
  subst d;simp[ByteArray.getElem_eq_getElem_data]
theorem EX {b c:UInt8}:((⟨#[b]⟩:Ia)=⟨#[c]⟩)↔(c.toNat:Int)=b.toNat:=by
 constructor
 ·intro h;injection h with h;simp at h;rw[h]
 ·intro h;have:c=b:=UInt8.toNat_inj.mp (by omega);rw[this]
theorem EC (b:UInt8):kp nu ⟨#[b]⟩=sign (b.toNat:Int):=by
 rw[xO];simp only[kp,nu,sign,vw,bn,EX,YC,yS,zw,qb,Z2,Bool.or_false];rfl
end Rt
def iG (s:Ia) (f k:Nat) (acc:List Rt.Tk):Prop:=(G acc<=24/\Rt.toksFrom s f k acc=Rt.yY s)\/(24 < G acc/\Rt.yY s=Z)
theorem iG.skip {acc:List Rt.Tk} (h:iG s (f+1) k acc) (d:k < s.size) (i:Rt.qC s k=32):iG s f (k+1) acc:=by
 rcases h with⟨h1,h2⟩| h
 ·rw[Rt.toksFrom,zE d,zE i]at h2;exact Or.inl ⟨h1,h2⟩
 ·exact Or.inr h
theorem iG.stop {acc:List Rt.Tk} (h:iG s (f+1) k acc) (d:k < s.size) (j:¬Rt.qC s k=32) (i:Rt.jL s k=0):Rt.yY s=Z:=by
 rcases h with⟨h1,h2⟩| h
 ·rw[Rt.toksFrom,zE d,zA j,zE (Or.inl i)]at h2;exact h2.symm
 ·exact h.2
theorem iG.next {acc:List Rt.Tk} (h:iG s (f+1) k acc) (hlt:k < s.size) (hb:¬Rt.qC s k=32) (hz:0 < Rt.jL s k):iG s f (k+Rt.jL s k) (acc++[⟨Rt.YZ s k,s.extract k (k+Rt.jL s k)⟩]):=by
 rcases h with⟨h1,h2⟩| h
 ·rw[Rt.toksFrom,zE hlt,zA hb]at h2;by_cases h24:24<=G acc
  ·rw[zE (Or.inr h24)]at h2;exact Or.inr ⟨by simp;omega,h2.symm⟩
  ·rw[zA (by omega)]at h2;exact Or.inl ⟨by simp;omega,h2⟩
 ·exact Or.inr ⟨by simp;omega,h.2⟩
theorem iG.fin {acc:List Rt.Tk} (h:iG s (f+1) k acc) (d:¬k < s.size):(G acc<=24/\Rt.yY s=Q acc)\/(24 < G acc/\Rt.yY s=Z):=by
 rcases h with⟨h1,h2⟩| h
 ·rw[Rt.toksFrom,zA d]at h2;exact Or.inl ⟨h1,h2.symm⟩
 ·exact Or.inr h
def fC (t:Rt.Tk):Value:=O t.text
theorem tokens_ref (s:Ia) (hs:s.size<=40000):Calls Tryz.prog 80 #[O s] w fun e w'=>Below w.heap.size w w'/\
      ((Rt.yY s=Z/\∃v,e=T (E #[v,A W]))\/
       ∃ts v,Rt.yY s=Q ts/\e=T (E #[v,A D])/\w'.ownsRow w.heap.size 9 1 v (G ts) (ts.map fC)):=by
  have V:s.size<=maxLen:=by unfold maxLen;omega
  obtain⟨i0,hi,R,N,M⟩:=yi eT;go_enter func80,ntmps80;go_wp2;go_loopw [4,5] (fun v i wr=>∃(k f:Nat) (acc:List Rt.Tk),k<=s.size/\i=J U k/\s.size < f+k/\G acc<=k/\iG s f k acc/\wr.ownsRow w.heap.size 9 1 v (G acc) (acc.map fC)/\Below w.heap.size w wr)
    (fun _ i _=>s.size-(intOf i).toNat)
  case atStart=>exact⟨0,s.size+1,[],zo _,rfl,by omega,by simp,Or.inl ⟨by simp,rfl⟩,zW _ _ _ _,zI _ _⟩
  case round=>
    obtain⟨k,f,acc,hk,rfl,hf,a7,a2,hown,hnx⟩:=hrel;have HQ:=zD a2;clear a2;have F:=hnx.size;obtain⟨f,rfl⟩:∃g,f=g+1:=⟨f-1,by omega⟩;obtain⟨ad,cap,rfl⟩:=zK hown;by_cases hlt:k < s.size
    · have H:=Rt.jB hlt;by_cases hb:s[k].toNat=32
      · have HR:=zD (HQ.u.skip hlt (by rw[H,hb];rfl));clear H;have a6:((s[k].toNat:Int)==32)=D:=by simp[hb]
        clear hb;go_wp2;go_roundw
        ·exact⟨k+1,f,acc,by omega,by go_num,by omega,by omega,HR.u,hown,hnx⟩
        ·simp[intOf];omega
      · have a6:((s[k].toNat:Int)==32)=W:=by simp;omega
        have a1:¬Rt.qC s k=32:=by rw[H];omega
        have HN:=zD a1;have HB:=zD H;clear a1;cases hl:qt (s[k].toNat:Int)with
        | true=>
          have hd:=JJ hl;have hp:=DR s 97 122 k hlt (by rw[Zy];exact hl);have a5:=ux s 97 122 k (by omega);have L:=zD (show Rf.runN s k=Rt.cw s 97 122 k by unfold Rf.runN;rw[HB.u,zE hl]);by_cases h8:8 < Rt.cw s 97 122 k
          · have HR:=zD (HQ.u.stop hlt HN.u (by unfold Rt.jL;rw[zE h8]));clear H;go_wp2_with (first | (go_at_call 129;refine(K0 s k V hlt).mono ?_;rintro e w' ⟨rfl,rfl⟩;rw[L.u])| (go_at_call 130;refine(kK).mono ?_;rintro e w' ⟨rfl,rfl⟩)| (go_at_call 131;refine(vB).mono ?_;rintro e w' ⟨rfl,rfl⟩));go_ret2;exact⟨hnx,Or.inl ⟨HR.u,_,rfl⟩⟩
          · have hM:Rt.jL s k=Rt.cw s 97 122 k:=by unfold Rt.jL;rw[zA h8,zE hp]
            have h:=HQ.u.next hlt HN.u (by rw[hM];exact hp);rw[hM]at h;have HR:=zD h;have a4:((Rt.cw s 97 122 k:Int)==0)=W:=by simp;omega
            clear H h hM;go_wp2_with (first
              | (at_builtin;refine xQ _ rfl _ _ 87 rfl w.heap.size 9 i0 _ 1 16 underlying87 hi R N M rfl (by decide) _ _ _ rfl (hown.alloc _) ⟨_,0,Z⟩ 1 1 [O (s.extract k (k+Rt.cw s 97 122 k))] rfl rfl (cell_one_new _ _ _) ?c2 ?c3 ?c4 ?c5 ?_)
              | (go_at_call 129;refine(K0 s k V hlt).mono ?_;rintro e w' ⟨rfl,rfl⟩;rw[L.u])| (go_at_call 130;refine(kK).mono ?_;rintro e w' ⟨rfl,rfl⟩)| (go_at_call 131;refine(vB).mono ?_;rintro e w' ⟨rfl,rfl⟩))
            case c2=>intro u hu;simp at hu;rcases hu with rfl;rfl
            case c3=>unfold maxLen;omega
            case c4=>omega
            case c5=>simp;omega
            intro v' w1 j d _;have y:=qY hnx F hown d;clear d hown hnx;go_wp2;go_roundw
            ·exact⟨k+Rt.cw s 97 122 k,f,_,by omega,by go_num,by omega,by simp;omega,HR.u,by rw[yB];simpa[fC] using j,y⟩
            ·simp[intOf];omega
        | false=>
          cases hd:jo (s[k].toNat:Int)with
          | true=>
            have h0:=nY s 97 122 k hlt (by rw[Zy];exact hl);have hp:=DR s 48 57 k hlt (by rw[Xk];exact hd);have a5:=ux s 48 57 k (by omega);have L:=zD (show Rf.runN s k=Rt.cw s 48 57 k by unfold Rf.runN;rw[HB.u,zA (by rw[hl];simp),zE hd]);by_cases h8:9 < Rt.cw s 48 57 k
            · have HR:=zD (HQ.u.stop hlt HN.u (by unfold Rt.jL;rw[h0,zA (by omega),zA (by omega),zE h8]));clear H;go_wp2_with (first | (go_at_call 129;refine(K0 s k V hlt).mono ?_;rintro e w' ⟨rfl,rfl⟩;rw[L.u])| (go_at_call 130;refine(kK).mono ?_;rintro e w' ⟨rfl,rfl⟩)| (go_at_call 131;refine(vB).mono ?_;rintro e w' ⟨rfl,rfl⟩));go_ret2;exact⟨hnx,Or.inl ⟨HR.u,_,rfl⟩⟩
            · have hM:Rt.jL s k=Rt.cw s 48 57 k:=by unfold Rt.jL;rw[h0,zA (by omega),zA (by omega),zA h8,zE hp]
              have h:=HQ.u.next hlt HN.u (by rw[hM];exact hp);rw[hM]at h;have HR:=zD h;have a4:((Rt.cw s 48 57 k:Int)==0)=W:=by simp;omega
              clear H h hM;go_wp2_with (first
                | (at_builtin;refine xQ _ rfl _ _ 87 rfl w.heap.size 9 i0 _ 1 16 underlying87 hi R N M rfl (by decide) _ _ _ rfl (hown.alloc _) ⟨_,0,Z⟩ 1 1 [O (s.extract k (k+Rt.cw s 48 57 k))] rfl rfl (cell_one_new _ _ _) ?c2 ?c3 ?c4 ?c5 ?_)
                | (go_at_call 129;refine(K0 s k V hlt).mono ?_;rintro e w' ⟨rfl,rfl⟩;rw[L.u])| (go_at_call 130;refine(kK).mono ?_;rintro e w' ⟨rfl,rfl⟩)| (go_at_call 131;refine(vB).mono ?_;rintro e w' ⟨rfl,rfl⟩))
              case c2=>intro u hu;simp at hu;rcases hu with rfl;rfl
              case c3=>unfold maxLen;omega
              case c4=>omega
              case c5=>simp;omega
              intro v' w1 j d _;have y:=qY hnx F hown d;clear d hown hnx;go_wp2;go_roundw
              ·exact⟨k+Rt.cw s 48 57 k,f,_,by omega,by go_num,by omega,by simp;omega,HR.u,by rw[yB];simpa[fC] using j,y⟩
              ·simp[intOf];omega
          | false=>
            have h0:=nY s 97 122 k hlt (by rw[Zy];exact hl);have h1:=nY s 48 57 k hlt (by rw[Xk];exact hd);have L:=zD (show Rf.runN s k=0 by unfold Rf.runN;rw[HB.u,zA (by rw[hl];simp),zA (by rw[hd];simp)]);have hM:Rt.jL s k=if Rt.sign (s[k].toNat:Int)=D then 1 else 0:=by
              unfold Rt.jL;rw[h0,h1,zA (by omega),zA (by omega),zA (by omega),zA (by omega),HB.u];simp[hlt]
            have HM:=zD hM;have HG:=zD ((qB (kp nu) (CT s k hlt)).trans (EC s[k]));clear H h0 h1 hM;go_wp2_with (first | (go_at_call 129;refine(K0 s k V hlt).mono ?_;rintro e w' ⟨rfl,rfl⟩;rw[L.u])| (go_at_call 130;refine(kK).mono ?_;rintro e w' ⟨rfl,rfl⟩)| (go_at_call 131;refine(vB).mono ?_;rintro e w' ⟨rfl,rfl⟩));have g1:(k:Int)+1<=(s.size:Int):=by omega
            have g2:(0:Int)<=(k:Int):=by omega
            have g3:(k:Int)<=(k:Int)+1:=by omega
            have g4:(0:Int)<=(k:Int)+1:=by omega
            have g5:IntKind.i64.wrap ((k:Int)+1)=(k:Int)+1:=zl _ (by omega);go_region_held3 (fun _=>True) (trivial) (first | (go_at_call 133;refine(wW).mono ?_;rintro e w1 ⟨v,rfl,hv,a3⟩)| (go_at_call 132;refine(cr (s.extract k (k+1)) (by first | exact hv | exact hv.zP (zh _)) (by decide)).mono ?_;rintro e w2 ⟨rfl,rfl⟩;rw[HG.u]));have z:=yh a3;have o:=yG hown z;have x:=hnx.trans (z.mono (B':=w.heap.size) F);have a0:=x.size;clear hown a3 z hnx F hv;cases hg:Rt.sign (s[k].toNat:Int)with
            | false=>
              have HR:=zD (HQ.u.stop hlt HN.u (by rw[HM.u,hg];rfl));go_wp2;go_ret2;exact⟨x,Or.inl ⟨HR.u,_,rfl⟩⟩
            | true=>
              have hM:Rt.jL s k=1:=by rw[HM.u,hg];rfl
              have h:=HQ.u.next hlt HN.u (by rw[hM];omega);rw[hM]at h;have HR:=zD h;clear h hM;go_wp2_with (first
                | (at_builtin;refine xQ _ rfl _ _ 87 rfl w.heap.size 9 i0 _ 1 16 underlying87 hi R N M rfl (by decide) _ _ _ rfl (o.alloc _) ⟨_,0,Z⟩ 1 1 [O (s.extract k (k+1))] rfl rfl (cell_one_new _ _ _) ?c2 ?c3 ?c4 ?c5 ?_)
                | (go_at_call 129;refine(K0 s k V hlt).mono ?_;rintro e w' ⟨rfl,rfl⟩;rw[L.u])| (go_at_call 130;refine(kK).mono ?_;rintro e w' ⟨rfl,rfl⟩)| (go_at_call 131;refine(vB).mono ?_;rintro e w' ⟨rfl,rfl⟩))
              case c2=>intro u hu;simp at hu;rcases hu with rfl;rfl
              case c3=>unfold maxLen;omega
              case c4=>omega
              case c5=>simp;omega
              intro v' w1 j d _;have y:=qY x a0 o d;clear d o x;go_wp2;go_roundw
              ·exact⟨k+1,f,_,by omega,by go_num,by omega,by simp;omega,HR.u,by rw[yB];simpa[fC] using j,y⟩
              ·simp[intOf];omega
    · rcases HQ.u.fin hlt with⟨h24,hT⟩| ⟨h24,hT⟩
      · go_wp2;go_ret2;exact⟨hnx,Or.inr ⟨acc,_,hT,qB (fun b=>Ending.returned (E #[I ad (G acc) cap,A b])) (qA (by omega)),hown⟩⟩
      · go_wp2;go_ret2;exact⟨hnx,Or.inl ⟨hT,_,qB (fun b=>Ending.returned (E #[I ad (G acc) cap,A b])) (qP (by omega))⟩⟩
theorem xA.form {xs:Ib} (h:xA w v xs):∃ad cap,v=I ad (G xs) cap/\G xs<=cap:=by
 obtain⟨ad,cap,f,d,_⟩:=h;exact⟨ad,cap,f,d⟩
theorem xA.cell {w:World} {v:Value} {xs:Ib} (h:xA w v xs) {j:Nat} (d:j < G xs):∃b o cap,v=I (Q ⟨b,o,Z⟩) (G xs) cap/\w.cell? ⟨b,o+j,Z⟩=Q (O xs[j]):=by
 obtain⟨k,cap,f,i,h⟩:=h;rcases h with rfl | ⟨b,o,rfl,h⟩
 ·simp at d
 ·exact⟨b,o,cap,f,h j d⟩
theorem JK {sv:Value} (ht:xA w tv t) (hsg:xA w sv sg) (hl:G t<=1000) (a8:G sg<=100) (a1:∀x∈t,x.size<=40000):Calls Tryz.prog 174 #[tv,sv] w fun e w'=>e=T (J U (Rf.last sg t))/\Below w.heap.size w w':=by
 obtain⟨ad,cap,rfl,a7⟩:=ht.form;obtain⟨a6,O,rfl,a4⟩:=hsg.form;go_enter func174,ntmps174;go_wp2;go_loopw [5,6,7] (fun a d i wr=>∃k:Nat,k<=G t/\i=J U k/\a=J U (kQ sg t k)/\d=J U (Rf.depth t k)/\xA wr (I ad (G t) cap) t/\xA wr (I a6 (G sg) O) sg/\Below w.heap.size w wr)
  (fun _ _ i _=>G t-(intOf i).toNat)
 case atStart=>exact⟨0,zo _,rfl,rfl,rfl,ht,hsg,zI _ _⟩
 case round=>
  obtain⟨k,hk,rfl,rfl,rfl,F,a2,M⟩:=hrel;by_cases hlt:k < G t
  ·obtain⟨b,o,cap',L,cx⟩:=F.cell hlt;simp at L;obtain⟨rfl,rfl⟩:=L;have a9:=nX t k;have hD:Rf.depth t (k+1)=Rf.depth t k+J9 t[k]:=by rw[Rf.depth,qq hlt]
   have j:=zD hD;have V:=zD (show kQ sg t (k+1)=if kp sg t[k]=D/\Rf.depth t (k+1)=0/\0 < k/\KX (ve t (k-1))=D then (k:Int)else kQ sg t k by rw[kQ,qq hlt]);have f:=XX F a2 M;have H:(k:Int) < (G t:Int):=by omega
   clear hD;generalize hx:t[k]=x at *;generalize Rf.depth t k=d at *;generalize kQ sg t k=a at *;by_cases hk0:0 < k
   ·have z:k-1 < G t:=by omega
    obtain⟨b',o',a5,L,cy⟩:=f.u.1.cell z;simp at L;obtain⟨⟨rfl,rfl⟩,rfl⟩:=L;have hy:=a1 _ (zj z);have R:=zD (qq z);have a0:t[k-1].size<=maxLen:=by unfold maxLen;omega
    clear hy;generalize t[k-1]=y at *;rcases dF x with⟨h1,hd⟩| ⟨h1,h2,hd⟩| ⟨h1,h2,h3,hd⟩| ⟨h1,h2,h3,h4,hd⟩| ⟨h1,h2,h3,h4,hd⟩
    all_goals
     rw[hd]at j;clear hd;go_wp2_with (first | (go_at_call 132;refine(cr x f.u.2.1 (by omega)).mono ?_;rintro e w1 ⟨rfl,rfl⟩)| (go_at_call 203;refine(oW y a0).mono ?_;rintro e w2 ⟨rfl,N⟩;have h:=zD N;clear N))
    all_goals
     go_roundw
     ·refine⟨k+1,by omega,by go_num,qB _ ?_,qB _ ?_,?_,?_,?_⟩
      ·first
       | (rw[V.u,zE ⟨by assumption,by rw[j.u];omega,by omega,by rw[R.u];assumption⟩])
       | (rw[V.u,zA (by rintro ⟨q1,Z,q3,A⟩;rw[j.u]at Z;first | contradiction | omega | (rw[R.u,‹KX y=W›]at A;exact absurd A (by decide)))])
      ·have:=j.u;omega
      ·first | exact f.u.1 | exact f.u.1.zP h.u
      ·first | exact f.u.2.1 | exact f.u.2.1.zP h.u
      ·first | exact f.u.2.2 | exact f.u.2.2.trans (h.u.mono f.u.2.2.size)
     ·simp[intOf];omega
   ·rcases dF x with⟨h1,hd⟩| ⟨h1,h2,hd⟩| ⟨h1,h2,h3,hd⟩| ⟨h1,h2,h3,h4,hd⟩| ⟨h1,h2,h3,h4,hd⟩
    all_goals
     rw[hd]at j;clear hd;go_wp2_with (first | (go_at_call 132;refine(cr x f.u.2.1 (by omega)).mono ?_;rintro e w1 ⟨rfl,rfl⟩))
    all_goals
     go_roundw
     ·refine⟨k+1,by omega,by go_num,qB _ ?_,qB _ ?_,?_,?_,?_⟩
      ·first
       | (rw[V.u,zE ⟨by assumption,by rw[j.u];omega,by omega,by rw[R.u];assumption⟩])
       | (rw[V.u,zA (by rintro ⟨q1,Z,q3,A⟩;rw[j.u]at Z;first | contradiction | omega | (rw[R.u,‹KX y=W›]at A;exact absurd A (by decide)))])
      ·have:=j.u;omega
      ·first | exact f.u.1 | exact f.u.1.zP h.u
      ·first | exact f.u.2.1 | exact f.u.2.1.zP h.u
      ·first | exact f.u.2.2 | exact f.u.2.2.trans (h.u.mono f.u.2.2.size)
     ·simp[intOf];omega
  ·have H:¬(k:Int) < (G t:Int):=by omega
   have a3:k=G t:=by omega
   subst a3;go_wp2;go_ret;exact⟨rfl,M⟩
def kv (fn:Nat) (F:Ib->Bool) (t:Ib):Prop:=
 ∀(w:World) (v:Value),xA w v t->Calls Tryz.prog fn #[v] w fun e w'=>e=T (A (F t))/\Below w.heap.size w w'
def Y8 (t:Ib):Prop:=G t<=1000/\∀x∈t,x.size<=40000
theorem Y8.take {t:Ib} (h:Y8 t) (k:Nat):Y8 (t.take k):=⟨by have:=h.1;simp;omega,fun x hx=>h.2 x (List.mem_of_mem_take hx)⟩
theorem Y8.drop {t:Ib} (h:Y8 t) (k:Nat):Y8 (t.drop k):=⟨by have:=h.1;simp;omega,fun x hx=>h.2 x (List.mem_of_mem_drop hx)⟩
theorem xA.take {w:World} {b o cap:Nat} {t:Ib} (h:xA w (I (Q ⟨b,o,Z⟩) (G t) cap) t) (k c:Nat) (f:k<=G t) (x:k<=c):xA w (I (Q ⟨b,o,Z⟩) k c) (t.take k):=by
 obtain⟨y,cap',d,_,h2⟩:=h;refine⟨Q ⟨b,o,Z⟩,c,by simp[vD f],by simp;omega,?_⟩;rcases h2 with rfl | ⟨b',i,rfl,h2⟩
 ·left;simp
 ·simp at d;obtain⟨⟨rfl,rfl⟩,rfl⟩:=d;refine Or.inr ⟨b,o,rfl,fun j hj=>?_⟩;simp at hj;rw[h2 j (by omega)];simp
theorem xA.drop {w:World} {b o cap:Nat} {t:Ib} (h:xA w (I (Q ⟨b,o,Z⟩) (G t) cap) t) (k n c:Nat) (f:n=G t-k) (x:n<=c):xA w (I (Q ⟨b,o+k,Z⟩) n c) (t.drop k):=by
 obtain⟨y,cap',d,_,h2⟩:=h;refine⟨Q ⟨b,o+k,Z⟩,c,by simp[f],by simp;omega,?_⟩;rcases h2 with rfl | ⟨b',i,rfl,h2⟩
 ·left;simp
 ·simp at d;obtain⟨⟨rfl,rfl⟩,rfl⟩:=d;refine Or.inr ⟨b,o+k,rfl,fun j hj=>?_⟩;simp at hj;rw[show o+k+j=o+(k+j) by omega,h2 (k+j) (by omega)];simp
theorem xA.gone {c:Nat} (h:G t<=k) (d:n=G t-k):xA w (I ad n c) (t.drop k):=by
 refine⟨ad,c,by simp[d],by simp;omega,Or.inl ?_⟩;simp;omega
theorem xA.qZ (h:xA w (I ad n cap) t) (d:t≠[]):∃b o,ad=Q ⟨b,o,Z⟩:=by
 obtain⟨j,cap',f,_,h2⟩:=h;rcases h2 with h2 | ⟨b',i,h2,_⟩
 ·exact absurd h2 d
 ·simp at f;exact⟨b',i,by rw[f.1,h2]⟩
theorem pT (R:Y8 t) (S:Ib->Bool) (h0:Rf.last kF t < 0->kv 176 S t) (h1:∀k:Nat,Rf.last kF t=k->kv 176 S (t.take k)/\kv 176 S (t.drop (k+1))):kv 135 (Qa S) t:=by
 intro w v D;have hl:=R.1;have HF:=zD R;have V:=qG h0 h1;obtain⟨ad,cap,rfl,T⟩:=D.form;go_enter func135,ntmps135;go_wp2_with fail;refine(VW).mono ?_;rintro e w1 ⟨sv,rfl,F,j⟩;have x:=D.zP j;have y:=D.qZ;go_wp2_with fail;refine(JK x F (by omega) (by decide) HF.u.2).mono ?_;rintro e w2 ⟨rfl,z⟩;have A:=zD (j.trans (z.mono (B':=w.heap.size) j.size));have M:=zD (x.zP z);have H:=XK kF t (G t);have d:-1<=Rf.last kF t/\Rf.last kF t < (G t:Int)/\(Rf.last kF t=-1\/0 < Rf.last kF t):=H;by_cases hneg:Rf.last kF t < 0
 ·have N:=zD (show Qa S t=S t by rw[Qa,zE hneg]);go_wp2_with fail;refine(V.u.1 hneg _ _ M.u).mono ?_;rintro e W ⟨rfl,f⟩;have i:=zD (A.u.trans (f.mono (B':=w.heap.size) A.u.size));go_wp2;go_ret;exact⟨by rw[N.u];rfl,i.u⟩
 ·obtain⟨k,I⟩:∃k:Nat,Rf.last kF t=k:=⟨(Rf.last kF t).toNat,by omega⟩;have N:=zD (show Qa S t=(S (t.take k) && S (t.drop (k+1))) by rw[Qa,zA hneg,I];rfl);obtain⟨ha,Z⟩:=V.u.2 k I;rw[I]at d hneg ⊢;obtain⟨b,o,rfl⟩:=y (by intro h;rw[h]at d;simp at d;omega);have U:=qG ha Z;go_wp2_with fail;refine(U.u.1 _ _ (M.u.take k _ (by omega) (by omega))).mono ?_;rintro e W ⟨rfl,f⟩;have L:=zD (M.u.zP f);have i:=zD (A.u.trans (f.mono (B':=w.heap.size) A.u.size));go_wp2_with fail
  all_goals
   refine(U.u.2 _ _ (by first | exact xA.gone (by omega) rfl | exact L.u.drop (k+1) _ _ rfl (by omega))).mono ?_;rintro e w4 ⟨rfl,J⟩;have O:=zD (i.u.trans (J.mono (B':=w.heap.size) i.u.size));go_wp2_with fail
   all_goals
    go_ret;exact⟨by rw[N.u];exact yj (by simp_all),O.u⟩
theorem tI (R:Y8 t) (S T:Ib->Bool) (h0:Rf.last kL t < 0->kv 205 T t) (h1:∀k:Nat,Rf.last kL t=k->kv 176 S (t.take k)/\kv 205 T (t.drop (k+1))):kv 176 (Vk S T) t:=by
 intro w v D;have hl:=R.1;have HF:=zD R;have W:=qG h0 h1;obtain⟨ad,cap,rfl,U⟩:=D.form;go_enter func176,ntmps176;go_wp2_with fail;refine(iD).mono ?_;rintro e w1 ⟨sv,rfl,F,j⟩;have x:=D.zP j;have y:=D.qZ;go_wp2_with fail;refine(JK x F (by omega) (by decide) HF.u.2).mono ?_;rintro e w2 ⟨rfl,z⟩;have A:=zD (j.trans (z.mono (B':=w.heap.size) j.size));have M:=zD (x.zP z);have H:=XK kL t (G t);have d:-1<=Rf.last kL t/\Rf.last kL t < (G t:Int)/\(Rf.last kL t=-1\/0 < Rf.last kL t):=H;by_cases hneg:Rf.last kL t < 0
 ·have N:=zD (show Vk S T t=T t by rw[Vk,zE hneg]);go_wp2_with fail;refine(W.u.1 hneg _ _ M.u).mono ?_;rintro e Z ⟨rfl,f⟩;have i:=zD (A.u.trans (f.mono (B':=w.heap.size) A.u.size));go_wp2;go_ret;exact⟨by rw[N.u];rfl,i.u⟩
 ·obtain⟨k,I⟩:∃k:Nat,Rf.last kL t=k:=⟨(Rf.last kL t).toNat,by omega⟩;have N:=zD (show Vk S T t=(S (t.take k) && T (t.drop (k+1))) by rw[Vk,zA hneg,I];rfl);obtain⟨ha,hb⟩:=W.u.2 k I;rw[I]at d hneg ⊢;obtain⟨b,o,rfl⟩:=y (by intro h;rw[h]at d;simp at d;omega);have V:=qG ha hb;go_wp2_with fail;refine(V.u.1 _ _ (M.u.take k _ (by omega) (by omega))).mono ?_;rintro e Z ⟨rfl,f⟩;have L:=zD (M.u.zP f);have i:=zD (A.u.trans (f.mono (B':=w.heap.size) A.u.size));go_wp2_with fail
  all_goals
   refine(V.u.2 _ _ (by first | exact xA.gone (by omega) rfl | exact L.u.drop (k+1) _ _ rfl (by omega))).mono ?_;rintro e w4 ⟨rfl,J⟩;have O:=zD (i.u.trans (J.mono (B':=w.heap.size) i.u.size));go_wp2_with fail
   all_goals
    go_ret;exact⟨by rw[N.u];exact yj (by simp_all),O.u⟩
theorem pP (R:Y8 t) (S T:Ib->Bool) (h0:Rf.last vJ t < 0->kv 217 T t) (h1:∀k:Nat,Rf.last vJ t=k->kv 205 S (t.take k)/\kv 217 T (t.drop (k+1))):kv 205 (X8 S T) t:=by
 intro w v D;have hl:=R.1;have HF:=zD R;have W:=qG h0 h1;obtain⟨ad,cap,rfl,U⟩:=D.form;go_enter func205,ntmps205;go_wp2_with fail;refine(ax).mono ?_;rintro e w1 ⟨sv,rfl,F,j⟩;have x:=D.zP j;have y:=D.qZ;go_wp2_with fail;refine(JK x F (by omega) (by decide) HF.u.2).mono ?_;rintro e w2 ⟨rfl,z⟩;have A:=zD (j.trans (z.mono (B':=w.heap.size) j.size));have M:=zD (x.zP z);have H:=XK vJ t (G t);have d:-1<=Rf.last vJ t/\Rf.last vJ t < (G t:Int)/\(Rf.last vJ t=-1\/0 < Rf.last vJ t):=H;by_cases hneg:Rf.last vJ t < 0
 ·have N:=zD (show X8 S T t=T t by rw[X8,zE hneg]);go_wp2_with fail;refine(W.u.1 hneg _ _ M.u).mono ?_;rintro e Z ⟨rfl,f⟩;have i:=zD (A.u.trans (f.mono (B':=w.heap.size) A.u.size));go_wp2;go_ret;exact⟨by rw[N.u];rfl,i.u⟩
 ·obtain⟨k,I⟩:∃k:Nat,Rf.last vJ t=k:=⟨(Rf.last vJ t).toNat,by omega⟩;have N:=zD (show X8 S T t=(S (t.take k) && T (t.drop (k+1))) by rw[X8,zA hneg,I];rfl);obtain⟨ha,hb⟩:=W.u.2 k I;rw[I]at d hneg ⊢;obtain⟨b,o,rfl⟩:=y (by intro h;rw[h]at d;simp at d;omega);have V:=qG ha hb;go_wp2_with fail;refine(V.u.1 _ _ (M.u.take k _ (by omega) (by omega))).mono ?_;rintro e Z ⟨rfl,f⟩;have L:=zD (M.u.zP f);have i:=zD (A.u.trans (f.mono (B':=w.heap.size) A.u.size));go_wp2_with fail
  all_goals
   refine(V.u.2 _ _ (by first | exact xA.gone (by omega) rfl | exact L.u.drop (k+1) _ _ rfl (by omega))).mono ?_;rintro e w4 ⟨rfl,J⟩;have O:=zD (i.u.trans (J.mono (B':=w.heap.size) i.u.size));go_wp2_with fail
   all_goals
    go_ret;exact⟨by rw[N.u];exact yj (by simp_all),O.u⟩
theorem xA.Ad {b o:Nat} (h:xA w (I (Q ⟨b,o,Z⟩) (G t) cap) t) (i j n c:Nat) (d:j<=G t) (f:n=j-i) (k:n<=c):xA w (I (Q ⟨b,o+i,Z⟩) n c) ((t.take j).drop i):=by
 have y:=h.take j j d (zB _);have x:xA w (I (Q ⟨b,o,Z⟩) (t.take j).length j) (t.take j):=by rw[jw,vD d];exact y
 exact x.drop i n c (by rw[jw,vD d];exact f) k
theorem il (hf:Y8 t) (F E C:Ib->Bool) (h0:2<=G t->kv 217 F (t.drop 1)) (h1:2<=G t->kv 135 E ((t.take (G t-1)).drop 1)) (h2:kv 177 C t):kv 217 (kR F E C) t:=by
 intro w v J;have hl:=hf.1;have N:=XX h0 h1 h2;clear h0 h1 h2;obtain⟨ad,cap,rfl,a0⟩:=J.form;by_cases hz:G t=0
 ·have k:=zD (show kR F E C t=W by rw[kR,zE hz]);have R:(G t:Int)=0:=by omega
  go_enter func217,ntmps217;go_wp2;go_ret;exact⟨by rw[k.u];rfl,zI _ _⟩
 ·obtain⟨b,o,rfl⟩:=J.qZ (by intro h;rw[h]at hz;simp at hz);have H:0 < G t:=by omega
  have M:G t-1 < G t:=by omega
  have T:=hf.2 _ (zj H);have HV:=zD J;have cells:∀w',xA w' (I (Q ⟨b,o,Z⟩) (G t) cap) t->w'.cell? ⟨b,o,Z⟩=Q (O t[0])/\w'.cell? ⟨b,o+(G t-1),Z⟩=Q (O t[G t-1]):=by
   intro w' h;obtain⟨b',o',cap',he,c0⟩:=h.cell H;obtain⟨b2,o2,a1,L,V⟩:=h.cell M;simp at he L;obtain⟨⟨rfl,rfl⟩,rfl⟩:=he;obtain⟨⟨rfl,rfl⟩,rfl⟩:=L;exact⟨c0,V⟩
  obtain⟨c0,V⟩:=cells _ J;have HC:=zD cells;clear cells J;have F0:=zD (qq H);have F1:=zD (qq M);have z:t[0].size<=maxLen:=by unfold maxLen;omega
  have k:=zD (show kR F E C t=if (G t)=1 then Rf.yg t[0] || xi t[0]else if (t[0].toList==[45])=D then F (t.drop 1)else if (t[0].toList==[40])=D/\(t[G t-1].toList==[41])=D then E ((t.take (G t-1)).drop 1)else C t by
   rw[kR,zA hz,Rf.first,Rf.final,F0.u,F1.u])
  clear T;generalize t[0]=x at *;generalize t[G t-1]=y at *;have R:¬(G t:Int)=0:=by omega
  go_enter func217,ntmps217;go_wp2_with fail;refine(XJ x z).mono ?_;rintro e w1 ⟨rfl,A⟩;have j:=zD (HV.u.zP A);have f:=zD A;obtain⟨d0,d1⟩:=HC.u _ j.u;clear A c0 V;by_cases h1:G t=1
  ·have U:(G t:Int)=1:=by omega
   rw[zE h1]at k;go_wp2_with (go_at_call 139;refine(Yv x z).mono ?_;rintro e w' ⟨rfl,rfl⟩)
   all_goals
    go_ret;exact⟨by rw[k.u];exact yj (by simp_all),f.u⟩
  ·have U:¬(G t:Int)=1:=by omega
   rw[zA h1]at k;cases hm:(x.toList==[45])with
   | true=>
    rw[zE hm]at k;go_wp2_with fail
    all_goals
     refine(N.u.1 (by omega) _ _ (by first | exact xA.gone (by omega) rfl | exact j.u.drop 1 _ _ rfl (by omega))).mono ?_;rintro e w2 ⟨rfl,d⟩;have i:=zD (f.u.trans (d.mono (B':=w.heap.size) f.u.size));clear d;go_wp2;go_ret;exact⟨by rw[k.u];first | rfl | exact yj (by simp),i.u⟩
   | false=>
    rw[zA (by rw[hm];decide)]at k;by_cases hp:(x.toList==[40])=D/\(y.toList==[41])=D
    ·rw[zE hp]at k;obtain⟨p1,p2⟩:=hp;go_wp2_with fail
     all_goals
      refine(N.u.2.1 (by omega) _ _ (by first | exact j.u.Ad 1 (G t-1) _ _ (by omega) rfl (by omega)| exact j.u.Ad 1 (G t-1) _ _ (by omega) (by omega) (by omega))).mono ?_;rintro e w2 ⟨rfl,d⟩;have i:=zD (f.u.trans (d.mono (B':=w.heap.size) f.u.size));clear d;go_wp2;go_ret;exact⟨by rw[k.u];first | rfl | exact yj (by simp),i.u⟩
    ·rw[zA hp]at k;cases p1:(x.toList==[40])
     ·go_wp2_with fail;refine(N.u.2.2 _ _ j.u).mono ?_;rintro e w2 ⟨rfl,d⟩;have i:=zD (f.u.trans (d.mono (B':=w.heap.size) f.u.size));clear d;go_wp2;go_ret;exact⟨by rw[k.u];first | rfl | exact yj (by simp),i.u⟩
     ·have p2:(y.toList==[41])=false:=by cases h:(y.toList==[41])with | false=>rfl | true=>exact absurd ⟨p1,h⟩ hp
      go_wp2_with fail;refine(N.u.2.2 _ _ j.u).mono ?_;rintro e w2 ⟨rfl,d⟩;have i:=zD (f.u.trans (d.mono (B':=w.heap.size) f.u.size));clear d;go_wp2;go_ret;exact⟨by rw[k.u];first | rfl | exact yj (by simp),i.u⟩
theorem pU (hf:Y8 t) (E:Ib->Bool) (h1:4<=G t->kv 135 E ((t.take (G t-1)).drop 2)):kv 177 (Rf.kX E) t:=by
 intro w v k;have hl:=hf.1;have HA:=zD h1;clear h1;obtain⟨ad,cap,rfl,a1⟩:=k.form;by_cases hz:G t < 4
 ·have d:=zD (show Rf.kX E t=W by rw[Rf.kX,zE (Or.inl hz)]);have N:(G t:Int) < 4:=by omega
  go_enter func177,ntmps177;go_wp2;go_ret;exact⟨by rw[d.u];rfl,zI _ _⟩
 ·obtain⟨b,o,rfl⟩:=k.qZ (by intro h;rw[h]at hz;simp at hz);have i:0 < G t:=by omega
  have J:1 < G t:=by omega
  have H:G t-1 < G t:=by omega
  have R:=hf.2 _ (zj i);have HV:=zD k;have cells:∀w',xA w' (I (Q ⟨b,o,Z⟩) (G t) cap) t->w'.cell? ⟨b,o,Z⟩=Q (O t[0])/\w'.cell? ⟨b,o+1,Z⟩=Q (O t[1])/\w'.cell? ⟨b,o+(G t-1),Z⟩=Q (O t[G t-1]):=by
   intro w' h;obtain⟨b',o',cap',he,c0⟩:=h.cell i;obtain⟨b2,o2,a3,D,V⟩:=h.cell J;obtain⟨b3,o3,a2,A,U⟩:=h.cell H;simp at he D A;obtain⟨⟨rfl,rfl⟩,rfl⟩:=he;obtain⟨⟨rfl,rfl⟩,rfl⟩:=D;obtain⟨⟨rfl,rfl⟩,rfl⟩:=A;exact⟨c0,V,U⟩
  obtain⟨c0,V,U⟩:=cells _ k;clear cells k;have F0:=zD (qq i);have F1:=zD (qq J);have F2:=zD (qq H);have j:t[0].size<=maxLen:=by unfold maxLen;omega
  have d:=zD (show Rf.kX E t=if (t[1].toList==[91])=W\/(t[G t-1].toList==[93])=W then W else Rf.yg t[0] && E ((t.take (G t-1)).drop 2) by
   rw[Rf.kX,Rf.first,Rf.final,F0.u,F1.u,F2.u];by_cases h:(t[1].toList==[91])=W\/(t[G t-1].toList==[93])=W
   ·rw[zE h,zE (Or.inr h)]
   ·rw[zA h,zA (by rintro (T | T);exact hz T;exact h T)])
  clear R;generalize t[0]=x at *;generalize t[1]=z at *;generalize t[G t-1]=y at *;have N:¬(G t:Int) < 4:=by omega
  cases q1:(z.toList==[91])with
  | false=>
   rw[zE (Or.inl q1)]at d;go_enter func177,ntmps177;go_wp2;go_ret;exact⟨by rw[d.u];rfl,zI _ _⟩
  | true=>
   cases q2:(y.toList==[93])with
   | false=>
    rw[zE (Or.inr q2)]at d;go_enter func177,ntmps177;go_wp2;go_ret;exact⟨by rw[d.u];rfl,zI _ _⟩
   | true=>
    rw[zA (by simp[q1,q2])]at d;go_enter func177,ntmps177;go_wp2_with fail;refine(XJ x j).mono ?_;rintro e w1 ⟨rfl,f⟩;have L:=zD (HV.u.zP f);have M:=zD f;clear f c0 V U;go_wp2_with fail;refine(HA.u (by omega) _ _ (by first | exact L.u.Ad 2 (G t-1) _ _ (by omega) rfl (by omega)| exact L.u.Ad 2 (G t-1) _ _ (by omega) (by omega) (by omega))).mono ?_;rintro e w2 ⟨rfl,F⟩;have a0:=zD (M.u.trans (F.mono (B':=w.heap.size) M.u.size));clear F;go_wp2_with fail
    all_goals
     go_ret;exact⟨by rw[d.u];exact yj (by simp_all),a0.u⟩
theorem jn:∀(f:Nat) (t:Ib),Y8 t->
  (5*G t+5<=f->kv 135 (Rf.gr f 0) t)/\(5*G t+4<=f->kv 176 (Rf.gr f 1) t)/\(5*G t+3<=f->kv 205 (Rf.gr f 2) t)/\
  (5*G t+2<=f->kv 217 (Rf.gr f 3) t)/\(5*G t+1<=f->kv 177 (Rf.gr f 4) t)
 | 0,t,_=>⟨by omega,by omega,by omega,by omega,by omega⟩
 | f+1,t,hf=>by
  refine⟨fun h=>?_,fun h=>?_,fun h=>?_,fun h=>?_,fun h=>?_⟩
  ·refine pT hf (Rf.gr f 1) (fun _=>(jn f t hf).2.1 (by omega)) (fun k hk=>?_);have d:=XK kF t (G t);have i:kQ kF t (G t)=k:=hk;exact⟨(jn f _ (hf.take k)).2.1 (by simp;omega),(jn f _ (hf.drop (k+1))).2.1 (by simp;omega)⟩
  ·refine tI hf (Rf.gr f 1) (Rf.gr f 2) (fun _=>(jn f t hf).2.2.1 (by omega)) (fun k hk=>?_);have d:=XK kL t (G t);have i:kQ kL t (G t)=k:=hk;exact⟨(jn f _ (hf.take k)).2.1 (by simp;omega),(jn f _ (hf.drop (k+1))).2.2.1 (by simp;omega)⟩
  ·refine pP hf (Rf.gr f 2) (Rf.gr f 3) (fun _=>(jn f t hf).2.2.2.1 (by omega)) (fun k hk=>?_);have d:=XK vJ t (G t);have i:kQ vJ t (G t)=k:=hk;exact⟨(jn f _ (hf.take k)).2.2.1 (by simp;omega),(jn f _ (hf.drop (k+1))).2.2.2.1 (by simp;omega)⟩
  ·exact il hf (Rf.gr f 3) (Rf.gr f 0) (Rf.gr f 4) (fun _=>(jn f _ (hf.drop 1)).2.2.2.1 (by simp;omega)) (fun _=>(jn f _ ((hf.take _).drop 1)).1 (by simp;omega)) ((jn f t hf).2.2.2.2 (by omega))
  ·exact pU hf (Rf.gr f 0) (fun _=>(jn f _ ((hf.take _).drop 2)).1 (by simp;omega))
theorem kv.of {fn:Nat} {F G:Ib->Bool} (h:kv fn F t) (e:G t=F t):kv fn G t:=by
 unfold kv at h ⊢;rw[e];exact h
theorem QU (d:Y8 t):kv 135 qX t:=((jn (5*G t+5) t d).1 (zB _)).of (by unfold qX;rfl)
theorem tL (d:Y8 t):kv 177 Jp t:=((jn (5*G t+1) t d).2.2.2.2 (zB _)).of (by unfold Jp;rfl)
theorem qv (ht:xA w tv t) (L:Y8 t):Calls Tryz.prog 134 #[tv] w fun e w'=>e=T (A (kl t))/\Below w.heap.size w w':=by
 have V:=L.1;obtain⟨O,cap,rfl,N⟩:=ht.form;go_enter func134,ntmps134;go_wp2;go_loopw [3] (fun i wr=>∃k:Nat,k<=G t/\i=J U k/\(t.drop k).all Rf.yg=kl t/\xA wr (I O (G t) cap) t/\Below w.heap.size w wr) (fun i _=>G t-(intOf i).toNat)
 case atStart=>exact⟨0,zo _,rfl,rfl,ht,zI _ _⟩
 case round=>
  obtain⟨k,W,rfl,z,d,j⟩:=hrel;by_cases hlt:k < G t
  ·obtain⟨b,o,cap',M,Z⟩:=d.cell hlt;simp at M;obtain⟨rfl,rfl⟩:=M;have R:=L.2 _ (zj hlt);rw[zZ hlt,kY]at z;have HT:=zD z;have y:=qG d j;have D:t[k].size<=maxLen:=by unfold maxLen;omega
   have f:(k:Int) < (G t:Int):=by omega
   generalize t[k]=x at *;go_wp2_with fail;refine(XJ x D).mono ?_;rintro e w1 ⟨rfl,F⟩;have H:=zD F;cases hn:Rf.yg x with
   | true=>
    go_wp2;go_roundw
    ·exact⟨k+1,by omega,by go_num,by have h:=HT.u;rw[hn]at h;simpa using h,y.u.1.zP H.u,y.u.2.trans (H.u.mono y.u.2.size)⟩
    ·simp[intOf];omega
   | false=>
    go_wp2;go_ret;exact⟨by rw[<-HT.u,hn];rfl,y.u.2.trans (H.u.mono y.u.2.size)⟩
  ·have f:¬(k:Int) < (G t:Int):=by omega
   rw[zp (by omega)]at z;go_wp2;go_ret;exact⟨by rw[<-z];rfl,j⟩
theorem Jw (h:xA w tv t) (z:Y8 t):Calls Tryz.prog 153 #[tv] w fun e w'=>e=T (J U (Rf.behind t))/\w'=w:=by
 have D:=z.1;obtain⟨I,cap,rfl,y⟩:=h.form;have A:=zD h;go_enter func153,ntmps153;go_wp2;go_loop [3] (fun i=>∃k:Nat,k<=G t/\i=J U k/\Rf.behindFrom (t.drop k) k=Rf.behind t) (fun i=>G t-(intOf i).toNat)
 case atStart=>exact⟨0,zo _,rfl,rfl⟩
 case round=>
  obtain⟨k,F,rfl,f⟩:=hrel;by_cases hlt:k < G t
  ·obtain⟨b,o,cap',j,H⟩:=A.u.cell hlt;simp at j;obtain⟨rfl,rfl⟩:=j;rw[rJ hlt]at f;have HT:=zD f;have d:(k:Int) < (G t:Int):=by omega
   generalize t[k]=x at *;cases hn:(x.toList==[116,111])with
   | true=>
    rw[hn,zE rfl]at HT;go_wp2;go_ret;exact⟨by rw[<-HT.u];rfl,rfl⟩
   | false=>
    rw[hn,zA (by decide)]at HT;go_wp2_with fail;go_round
    ·exact⟨k+1,by omega,by go_num,HT.u⟩
    ·simp[intOf];omega
  ·have d:¬(k:Int) < (G t:Int):=by omega
   rw[zp (by omega)]at f;go_wp2;go_ret;exact⟨by rw[<-f];rfl,rfl⟩
theorem Av (M:Y8 t):kv 136 Rf.isSet t:=by
 intro w v L;have hl:=M.1;have H:=zD M;obtain⟨ad,cap,rfl,R⟩:=L.form;have J:=zD L;have D:=Dh t;have i:=zD (show Rf.isSet t=if Rf.behind t < 2 then W else if Rf.behind t=2 then Rf.yg (ve t 1) && qX (t.drop 3)else Jp ((t.take (Rf.behind t)).drop 1) && qX (t.drop (Rf.behind t+1))from rfl);by_cases h2:Rf.behind t < 2
 ·rw[zE h2]at i;go_enter func136,ntmps136;go_wp2_with (go_at_call 153;refine(Jw J.u H.u).mono ?_;rintro e w' ⟨rfl,rfl⟩);go_ret;exact⟨by rw[i.u];rfl,zI _ _⟩
 ·rw[zA h2]at i;obtain⟨b,o,rfl⟩:=L.qZ (by intro h;rw[h]at D;simp at D;rw[h]at h2;omega);have j:1 < G t:=by omega
  have T:=H.u.2 _ (zj j);have z:t[1].size<=maxLen:=by unfold maxLen;omega
  have F1:=zD (qq j);rw[F1.u]at i;have V:Hd (∀w',xA w' (I (Q ⟨b,o,Z⟩) (G t) cap) t->w'.cell? ⟨b,o+1,Z⟩=Q (O t[1])):=zD (by
   intro w' h;obtain⟨b',o',cap',N,U⟩:=h.cell j;simp at N;obtain⟨⟨rfl,rfl⟩,rfl⟩:=N;exact U)
  generalize t[1]=x at *;have hk:Rf.behind t < G t:=by omega
  go_enter func136,ntmps136;go_wp2_with (go_at_call 153;refine(Jw J.u H.u).mono ?_;rintro e w' ⟨rfl,rfl⟩)
  all_goals
   refine(QU (H.u.drop (Rf.behind t+1)) _ _ (by first | exact xA.gone (by omega) rfl | exact J.u.drop (Rf.behind t+1) _ _ rfl (by omega))).mono ?_;rintro e w1 ⟨rfl,F⟩;have k:=zD (J.u.zP F);have f:=zD F;have cx:=V.u _ k.u;by_cases hk2:Rf.behind t=2
   ·have A:(Rf.behind t:Int)=2:=by omega
    rw[zE hk2]at i;go_wp2_with (go_at_call 138;refine(XJ x z).mono ?_;rintro e w2 ⟨rfl,d⟩;have y:=zD (f.u.trans (d.mono (B':=w'.heap.size) f.u.size));clear d)
    all_goals
     go_ret;exact⟨by rw[i.u];exact yj (by simp_all),y.u⟩
   ·have A:¬(Rf.behind t:Int)=2:=by omega
    rw[zA hk2]at i;go_wp2_with fail
    all_goals
     refine(tL ((H.u.take (Rf.behind t)).drop 1) _ _ (by first | exact k.u.Ad 1 (Rf.behind t) _ _ (by omega) rfl (by omega)| exact k.u.Ad 1 (Rf.behind t) _ _ (by omega) (by omega) (by omega))).mono ?_;rintro e w2 ⟨rfl,d⟩;have y:=zD (f.u.trans (d.mono (B':=w'.heap.size) f.u.size));go_wp2_with fail
     all_goals
      go_ret;exact⟨by rw[i.u];exact yj (by simp_all),y.u⟩
theorem pV:(Tryz.prog.info? 87).map (fun i=>(i.zero,i.size,i.bytes))=Q (Q (I Z 0 0),1,24):=by kernel_rfl
def Jy (w:World) (vs:List Value) (us:List Ib):Prop:=G vs=G us/\∀j (h:j < G us),∃v,vs[j]?=Q v/\xA w v us[j]
theorem Jy.zP {w w':World} {vs:List Value} {us:List Ib} (h:Jy w vs us) (d:Below w.heap.size w w'):Jy w' vs us:=
 ⟨h.1,fun j hj=>let ⟨v,h1,h2⟩:=h.2 j hj;⟨v,h1,h2.zP d⟩⟩
theorem Jy.snoc (h:Jy w vs us) {u:Ib} (k:xA w v u):Jy w (vs++[v]) (us++[u]):=by
 refine⟨by simp[h.1],fun j hj=>?_⟩;by_cases d:j < G us
 ·obtain⟨i,x,o⟩:=h.2 j d;exact⟨i,by rw[yp (by rw[h.1];exact d)];exact x,by rw[xI d];exact o⟩
 ·have f:j=G us:=by simp at hj;omega
  subst f;exact⟨v,by rw[yU (by rw[h.1];exact zB _),h.1];simp,by simpa using k⟩
theorem cY (ht:xA w tv t) (hf:Y8 t):Calls Tryz.prog 156 #[tv] w fun e w'=>Below w.heap.size w w'/\∃v vs,e=T v/\w'.ownsRow w.heap.size 87 1 v (Rf.parts t).length vs/\Jy w' vs (Rf.parts t):=by
 have hl:=hf.1;obtain⟨i0,hi,N,M,L⟩:=yi pV;obtain⟨ad,cap,rfl,a6⟩:=ht.form;by_cases hz:G t=0
 ·have a3:(G t:Int)=0:=by omega
  have HE:=zD (show Rf.parts t=[] by rw[Rf.parts,zE hz]);go_enter func156,ntmps156;go_wp2;go_ret;exact⟨zI _ _,_,[],rfl,by rw[HE.u];exact zW _ _ _ _,by rw[HE.u];exact⟨rfl,fun j h=>by simp at h⟩⟩
 ·have a3:((G t:Int)==0)=W:=by rw[zV];omega
  obtain⟨b,o,rfl⟩:=ht.qZ (by intro h;rw[h]at hz;simp at hz);have HE:=zD (show Rf.parts t=(yd t (G t)).1++[t.drop (yd t (G t)).2] by rw[Rf.parts,zA hz]);go_enter func156,ntmps156;go_wp2_with fail;have HV:=zD ht;clear ht;go_loopw [3,4,5,6] (fun v d fr i wr=>∃(k:Nat) (vs:List Value),k<=G t/\i=J U k/\fr=J U (yd t k).2/\d=J U (Rf.depth t k)/\wr.ownsRow w.heap.size 87 1 v (yd t k).1.length vs/\Jy w vs (yd t k).1/\Below w.heap.size w wr)
   (fun _ _ _ i _=>G t-(intOf i).toNat)
  case atStart=>exact⟨0,[],zo _,rfl,rfl,rfl,zW _ _ _ _,⟨rfl,fun j h=>by simp[yd]at h⟩,zI _ _⟩
  case round=>
   obtain⟨k,vs,hk,rfl,rfl,rfl,f,H,A⟩:=hrel;obtain⟨ad,cp,rfl⟩:=zK f;obtain⟨a8,a7⟩:=K1 t k;have O:=A.size;have a9:=H.1;by_cases hlt:k < G t
   ·obtain⟨b',o',cap',he,cx⟩:=(HV.u.zP A).cell hlt;simp at he;obtain⟨⟨rfl,rfl⟩,rfl⟩:=he;have b0:=nX t k;have HD:=zD (show Rf.depth t (k+1)=Rf.depth t k+J9 t[k] by rw[Rf.depth,qq hlt]);have HP:=zD (show yd t (k+1)=if (t[k].toList==[44])=D/\Rf.depth t k=0 then ((yd t k).1++[(t.take k).drop (yd t k).2],k+1)else yd t k by rw[yd,qq hlt]);have a0:(k:Int) < (G t:Int):=by omega
    have HX:=zD H;clear H;generalize t[k]=x at *;generalize Rf.depth t k=d at *;rcases dF x with⟨h1,hd⟩| ⟨h1,h2,hd⟩| ⟨h1,h2,h3,hd⟩| ⟨h1,h2,h3,h4,hd⟩| ⟨h1,h2,h3,h4,hd⟩
    case inr.inr.inr.inr=>
     rw[hd]at HD;clear hd;by_cases h5:(x.toList==[44])=D/\d=0
     ·rw[zE h5]at HP;obtain⟨h5,rfl⟩:=h5;have hM:=HV.u.Ad (yd t k).2 k (k-(yd t k).2) (cap-(yd t k).2) (by omega) rfl (by omega);have HN:=zD (HX.u.snoc hM);clear hM;generalize (yd t k).2=fr at *;generalize (yd t k).1=ps at *;go_wp2_with (at_builtin;refine xQ _ rfl _ _ 83 rfl w.heap.size 87 i0 _ 1 24 underlying83 hi N M L rfl (by decide) _ _ _ rfl (f.alloc _) ⟨_,0,Z⟩ 1 1 [I (Q ⟨b,o+fr,Z⟩) (k-fr) (cap-fr)] rfl rfl (cell_one_new _ _ _) ?c2 ?c3 ?c4 ?c5 ?_)
      case c2=>first | rfl | (intro u hu;simp at hu;rcases hu with rfl;rfl)
      case c3=>unfold maxLen;omega
      case c4=>omega
      case c5=>first | omega | (simp;omega)
      intro v' w1 z y _;have F:=qY A O f y;clear y f A;go_wp2;go_roundw
      ·exact⟨k+1,_,by omega,by go_num,by rw[HP.u];go_num,by rw[HD.u];rfl,by rw[HP.u];simpa using z,by rw[HP.u];exact HN.u,F⟩
      ·simp[intOf];omega
     ·rw[zA h5]at HP;cases h6:(x.toList==[44])with
      | true=>
       have b1:¬d=0:=fun h=>h5 ⟨h6,h⟩;go_wp2;go_roundw
       ·exact⟨k+1,_,by omega,by go_num,by rw[HP.u],by rw[HD.u] <;> go_num,by rw[HP.u];exact f,by rw[HP.u];exact HX.u,A⟩
       ·simp[intOf];omega
      | false=>
       go_wp2;go_roundw
       ·exact⟨k+1,_,by omega,by go_num,by rw[HP.u],by rw[HD.u] <;> go_num,by rw[HP.u];exact f,by rw[HP.u];exact HX.u,A⟩
       ·simp[intOf];omega
    all_goals
     have h6:(x.toList==[44])=W:=by simp_all
     rw[hd]at HD;rw[zA (by rw[h6];simp)]at HP;clear hd h6;go_wp2;go_roundw
     ·exact⟨k+1,_,by omega,by go_num,by rw[HP.u],by rw[HD.u] <;> go_num,by rw[HP.u];exact f,by rw[HP.u];exact HX.u,A⟩
     ·simp[intOf];omega
   ·have a0:¬(k:Int) < (G t:Int):=by omega
    have a4:k=G t:=by omega
    subst a4;have hM:∃o' c',xA w (I (Q ⟨b,o',Z⟩) (G t-(yd t (G t)).2) c') (t.drop (yd t (G t)).2)/\(cap=(yd t (G t)).2->o'=o/\c'=0)/\(¬cap=(yd t (G t)).2->o'=o+(yd t (G t)).2/\c'=cap-(yd t (G t)).2):=by
     by_cases hc:cap=(yd t (G t)).2
     ·exact⟨o,0,xA.gone (by omega) rfl,fun _=>⟨rfl,rfl⟩,fun h=>absurd hc h⟩
     ·exact⟨_,_,HV.u.drop _ _ (cap-(yd t (G t)).2) rfl (by omega),fun h=>absurd h hc,fun _=>⟨rfl,rfl⟩⟩
    obtain⟨o',c',a2,V,R⟩:=hM;have HN:=zD (H.snoc a2);clear a2 H;generalize (yd t (G t)).2=fr at *;generalize (yd t (G t)).1=ps at *;by_cases hc:cap=fr
    ·obtain⟨rfl,rfl⟩:=V hc;clear V R;have a5:fr=G t:=by omega
     have a1:cap=G t:=by omega
     subst a5;rw[jC]at HN;clear hc;rw[a1];clear a1;go_wp2_with (at_builtin;refine xQ _ rfl _ _ 83 rfl w.heap.size 87 i0 _ 1 24 underlying83 hi N M L rfl (by decide) _ _ _ rfl (f.alloc _) ⟨_,0,Z⟩ 1 1 [I (Q ⟨b,o',Z⟩) 0 0] rfl rfl (cell_one_new _ _ _) ?c2 ?c3 ?c4 ?c5 ?_)
     case c2=>first | rfl | (intro u hu;simp at hu;rcases hu with rfl;rfl)
     case c3=>unfold maxLen;omega
     case c4=>omega
     case c5=>first | omega | (simp;omega)
     intro v' w1 z y _;have F:=qY A O f y;clear y f A;go_wp2;go_ret;exact⟨F,_,_,rfl,by rw[HE.u];simpa using z,by rw[HE.u];exact HN.u.zP F⟩
    ·obtain⟨rfl,rfl⟩:=R hc;clear V R;have b4:¬cap-fr=0:=by omega
     have b3:¬fr=cap:=by omega
     have b2:¬cap<=fr:=by omega
     go_wp2_with (at_builtin;refine xQ _ rfl _ _ 83 rfl w.heap.size 87 i0 _ 1 24 underlying83 hi N M L rfl (by decide) _ _ _ rfl (f.alloc _) ⟨_,0,Z⟩ 1 1 [I (Q ⟨b,o+fr,Z⟩) (G t-fr) (cap-fr)] rfl rfl (cell_one_new _ _ _) ?c2 ?c3 ?c4 ?c5 ?_)
     case c2=>first | rfl | (intro u hu;simp at hu;rcases hu with rfl;rfl)
     case c3=>unfold maxLen;omega
     case c4=>omega
     case c5=>first | omega | (simp;omega)
     intro v' w1 z y _;have F:=qY A O f y;clear y f A;go_wp2;go_ret;exact⟨F,_,_,rfl,by rw[HE.u];simpa using z,by rw[HE.u];exact HN.u.zP F⟩
theorem KQ {t:Ib} (h:Y8 t):∀i,∀u∈(yd t i).1,Y8 u
 | 0,u,hu=>by simp[yd]at hu
 | i+1,u,hu=>by
  rw[yd]at hu;split at hu
  ·simp at hu;rcases hu with hu | rfl
   ·exact KQ h i u hu
   ·exact(h.take _).drop _
  ·exact KQ h i u hu
theorem AN (h:Y8 t):∀u∈Rf.parts t,Y8 u:=by
 intro u hu;rw[Rf.parts]at hu;split at hu
 ·simp at hu
 ·simp at hu;rcases hu with hu | rfl
  ·exact KQ h _ u hu
  ·exact h.drop _
theorem aQ (t:Ib):(Rf.parts t).length<=G t+1:=by
 have:=(K1 t (G t)).2;rw[Rf.parts];split <;> simp;omega
theorem tM (O:Y8 t):kv 137 QV t:=by
 intro w v N;have hl:=O.1;have HF:=zD O;obtain⟨ad,cap,rfl,a8⟩:=N.form;by_cases h2:G t < 2
 ·have T:=zD (show QV t=W by rw[QV,zE h2]);have b1:(G t:Int) < 2:=by omega
  go_enter func137,ntmps137;go_wp2;go_ret;exact⟨by rw[T.u];rfl,zI _ _⟩
 ·obtain⟨b,o,rfl⟩:=N.qZ (by intro h;rw[h]at h2;simp at h2);have A:1 < G t:=by omega
  have T:=zD (show QV t=((Rf.parts (t.drop 2)).all qX && Rf.yg t[1]) by rw[QV,zA h2,qq A]);have a9:=O.2 _ (zj A);have F:t[1].size<=maxLen:=by unfold maxLen;omega
  have HV:=zD N;obtain⟨b',o',cap',he,cx⟩:=N.cell A;simp at he;obtain⟨⟨rfl,rfl⟩,rfl⟩:=he;generalize t[1]=x at *;have HP:=qG (AN (O.drop 2)) (aQ (t.drop 2));go_enter func137,ntmps137;go_wp2_with fail;refine(XJ x F).mono ?_;rintro e w1 ⟨rfl,L⟩;have a6:=zD (HV.u.zP L);have M:=zD L;go_wp2_with fail
  all_goals
   refine(cY (by first | exact xA.gone (by omega) rfl | exact a6.u.drop 2 _ _ rfl (by omega)) (HF.u.drop 2)).mono ?_;rintro e w2 ⟨a3,v2,vs,rfl,hown,hvs⟩;have b0:(Rf.parts (t.drop 2)).length<=1001:=by have:=HP.u.2;simp at this;omega
   obtain⟨a5,a4,rfl⟩:=zK hown;have HB2:=zD (M.u.trans (a3.mono (B':=w.heap.size) M.u.size));go_wp2_with fail;have a0:=HP.u.1;generalize Rf.parts (t.drop 2)=ps at *;have a7:=zD a0;go_loopw [5] (fun i wr=>∃k:Nat,k<=G ps/\i=J U k/\(ps.drop k).all qX=ps.all qX/\wr.ownsRow w1.heap.size 87 1 (I a5 (G ps) a4) (G ps) vs/\Jy wr vs ps/\Below w.heap.size w wr) (fun i _=>G ps-(intOf i).toNat)
   case atStart=>exact⟨0,zo _,rfl,rfl,hown,hvs,HB2.u⟩
   case round=>
    obtain⟨k,hk,rfl,R,d,j,z⟩:=hrel;by_cases hlt:k < G ps
    ·obtain⟨u,Z,V⟩:=j.2 k hlt;obtain⟨g,cap',hg,_,_,cx⟩:=yD d Z;simp at hg;obtain⟨rfl,rfl⟩:=hg;rw[zZ hlt,kY]at R;have a1:=a7.u _ (zj hlt);have HT:=zD R;have HU:=zD V;have D:=XX d j z;have HK:=zD a1;have H:(k:Int) < (G ps:Int):=by omega
     generalize ps[k]=y at *;go_wp2_with fail;refine(QU HK.u _ _ HU.u).mono ?_;rintro e w4 ⟨rfl,a2⟩;have f:=zD a2;cases hn:qX y with
     | true=>
      go_wp2;go_roundw
      ·exact⟨k+1,by omega,by go_num,by have h:=HT.u;rw[hn]at h;simpa using h,yG D.u.1 f.u,D.u.2.1.zP f.u,D.u.2.2.trans (f.u.mono D.u.2.2.size)⟩
      ·simp[intOf];omega
     | false=>
      go_wp2;go_ret;exact⟨by rw[T.u,<-HT.u,hn];rfl,D.u.2.2.trans (f.u.mono D.u.2.2.size)⟩
    ·have H:¬(k:Int) < (G ps:Int):=by omega
     rw[zp (by omega)]at R;go_wp2;go_ret;exact⟨by rw[T.u,<-R];exact yj (by simp),z⟩
end
end Go.Proofs.YthleadfkfnnadaaGreat
