/- The machine: a frame more, a frame less. -/
import Derived.Test.YthleadfkfnnadaaGreatPlA
import Derived.Test.YthleadfkfnnadaaGreatMcO
set_option maxHeartbeats 4000000
set_option maxRecDepth 100000
namespace Go.Proofs.YthleadfkfnnadaaGreat
open Go.RowKit
namespace Rf
open Rt
structure Ctx (ps pls:List PL) (ls:List (List ByteArray)) (S:Rt.Src):Prop where
 nst:Nst ps pls
 both:zCS pls ls
 zGl:S.pls=pls.map zAt
 lk:S.lk=zBv ps
 law:Lawful ls
 nam:∀n:Nat,n < ps.length→zAk pls (n+1) (zB7 pls ((n:Int)+1))=true
 main:(zX pls zy).kind=3
 nopar:(zX pls zy).params=[]
structure zGQ (ps pls:List PL) (ls:List (List ByteArray)) (S:Rt.Src) (m:Mc):Prop where
 line:∃l:Nat,l < ps.length∧m.line=(l:Int)+1∧zAK pls (zB7 pls ((l:Int)+1))=true∧stp ps l≠[]
 ne:m.zD≠[]
 few:m.zD.length≤6
 frs:∀f∈frsOf pls m.zD m.line,FrOK ls f
 calls:∀f∈m.zD.tail,∃c:Nat,c < ps.length∧f.call=(c:Int)+1∧kd ps c=12
 zGO:m.values.map List.length=pls.map (fun p=>(zA9 p.form).length)
 taken:0≤m.taken∧m.taken≤S.input.length
section
variable {ps pls : List PL} {ls : List (List ByteArray)} {S : Rt.Src} {m : Mc}
theorem Ctx.len (C:Ctx ps pls ls S):ps.length=ls.length:=zEq C.nst C.both
theorem Ctx.go (C:Ctx ps pls ls S) {k:Nat} (hk:k≤ls.length):goOn S.pls S.lk 102 ((k:Int)+1)=(zAp ls k:Nat):=by
 rw[C.zGl,C.lk,zGy]
 exact zLg C.nst C.both C.law.len hk
theorem Ctx.stop (C:Ctx ps pls ls S) {k:Nat} (hk:k≤ls.length) (hne:stp ps k≠[]):∃l:Nat,zAp ls k=l+1∧l < ps.length∧zAK pls (zB7 pls ((l:Int)+1))=true∧stp ps l≠[]∧zC3 (stp ps l)=zC3 (stp ps k):=by
 have hl:=C.len
 have h100:=C.law.len
 obtain⟨l,l1,l2,l3,l4,l5⟩:=go_in C.nst (by omega) 102 k (by omega) (by omega) hne
 rw[zLg C.nst C.both C.law.len hk]at l1
 exact⟨l,by omega,l2,l3,l4,l5⟩
theorem Ctx.zBJ (C:Ctx ps pls ls S) {l:Nat} (hl:l < ps.length) (hne:stp ps l≠[]):Rf.zBJ pls ((l:Int)+1)=(zC3 (stp ps l)).1:=by
 unfold Rf.zBJ
 rw[zML C.nst hl hne]
 omega
theorem Ctx.outer (C:Ctx ps pls ls S) {l:Nat} (hl:l≤ps.length) (hne:stp ps l≠[]):∃d:Nat,∃hd:d < ls.length,(zC3 (stp ps l)).1=d+1∧kd ps d=3∧((first ls[d]).toList==[112,114,111,99])=true:=by
 have hok:=zFS C.nst l hl
 have hpl:=C.len
 cases hs:stp ps l with
 | nil=>exact absurd hs hne
 | cons b r=>
  obtain⟨h1,_⟩:=hok.head b r hs
  obtain⟨e1,e2,e3⟩:=hok.each b (by rw[hs];simp)
  have hbl:b.1-1 < ps.length:=by omega
  have hd:b.1-1 < ls.length:=by omega
  refine⟨b.1-1,hd,by show b.1=_;omega,by rw[e3,h1],?_⟩
  obtain⟨_,_,_,f3,_⟩:=zLd C.nst C.both hd
  rw[e3,h1]at f3
  rw[f3]
  rfl
theorem Ctx.params (C:Ctx ps pls ls S) {d:Nat} (hd:d < ls.length) (hk:kd ps d=3):2≤(zAA ls d).length∧(zT pls ((d:Int)+1)).params.length=(zAA ls d).length-2:=by
 have hf:=C.both.form hd
 rw[show ((d+1:Nat):Int)=(d:Int)+1 by omega]at hf
 have hkk:(zT pls ((d:Int)+1)).kind=3:=by
  rw[zDd C.nst (by rw[C.len];exact hd),←zEN,hk]
 rw[zr hd]
 generalize zT pls ((d:Int)+1)=fm at *
 generalize ls[d]=t at *
 cases hf with
 | proc x q hx hq hl=>simp
 | _=>simp at hkk
theorem zDW (C:Ctx ps pls ls S) (F:zGQ ps pls ls S m):Env pls ls S m:=by
 obtain⟨l,l1,l2,l3,l4⟩:=F.line
 obtain⟨d,hd,h1,h2,h3⟩:=C.outer (Nat.le_of_lt l1) l4
 have hfl:(zP pls m).zD.length=m.zD.length:=zE9 _ _ _
 refine⟨C.both,C.zGl,F.ne,⟨?_,?_,F.frs,?_,?_⟩,⟨d,hd,?_,h3⟩,F.zGO,C.law⟩
 ·rw[hfl];exact List.length_pos_iff.mpr F.ne
 ·rw[hfl];have:=F.few;omega
 ·simp[zP,varsOf,C.both.len]
 ·simp[zP,zEa,C.both.len]
 ·rw[l2,zML C.nst l1 l4,h1];omega
theorem zP6 (C:Ctx ps pls ls S) {l:Nat} (h1:l < ps.length) (h2:m.line=(l:Int)+1) (h4:stp ps l≠[]):zAR S m=(zB7 pls ((l:Int)+1)).proc∧zAR S m=((zC3 (stp ps l)).1:Nat):=by
 have:zAR S m=(zB7 pls ((l:Int)+1)).proc:=by
  unfold zAR
  rw[C.zGl,zGt,h2]
  rfl
 exact⟨this,by rw[this,zML C.nst h1 h4]⟩
def zBy (ls:List (List ByteArray)) (p:Pl) (x:ByteArray) (v:Int):Pl:=
 if 0≤index (zDS ls (top p).proc) x then { p with zD:=p.zD.modify (p.zD.length-1) (fun f=>⟨f.proc,f.args.set (index (zDS ls (top p).proc) x).toNat v,f.call⟩) }
 else { p with vars:=p.vars.set (decl ls x) v }
theorem zM2 (x:ByteArray):∀(l:List ByteArray) (i:Nat),parNo i l x < (i:Int)+l.length∧(parNo i l x=-1∨(i:Int)≤parNo i l x)
 | [],i=>⟨by rw[parNo];simp;omega,Or.inl rfl⟩
 | p::r,i=>by
  have:=zM2 x r (i+1)
  rw[parNo]
  split
  ·simp;omega
  ·simp;omega
theorem zNJ {α:Type} (l:List α) (a:α) (g:α→α):(l++[a]).modify l.length g=l++[g a]:=by
 induction l with
 | nil=>rfl
 | cons b r ih=>simp[ih]
theorem zMK {α:Type} (l:List α) (f:α→α) {d k:Nat} (h:k≠d):(l.modify d f)[k]?=l[k]?:=by
 rw[List.getElem?_modify]
 cases l[k]? with
 | none=>rfl
 | some x=>
  show some (if d=k then f x else x)=some x
  rw[if_neg (fun e=>h e.symm)]
theorem zIA {β:Type} (n d:Nat) (f f':Nat→β) (v:β) (h1:d < n→f' d=v) (h2:∀k,k≠d→f' k=f k):(List.range n).map f'=((List.range n).map f).set d v:=by
 apply List.ext_getElem
 ·simp
 ·intro i h3 h4
  rw[List.getElem_set]
  simp only[List.getElem_map,List.getElem_range]
  split
  ·next e=>subst e;exact h1 (by simpa using h3)
  ·next e=>exact h2 i (fun q=>e q.symm)
theorem zMx (E:Env pls ls S m) {x:ByteArray} (hv:Rt.isVar pls (zAR S m) x=true) (hfr:FrOK ls (top (zP pls m))) (v:Int):zP pls (zA4 m (zB6 S m x) v)=zBy ls (zP pls m) x v:=by
 have hp:=E.pars
 unfold zBy zB6
 rw[hp]
 have hi:index (zT S.pls (zAR S m)).params x=parNo 0 (zT S.pls (zAR S m)).params x:=by
  have:=zIJ x (zT S.pls (zAR S m)).params _ 0 (Nat.zero_add _)
  rw[List.drop_zero]at this
  exact this
 have hargs:=hfr.args
 rw[hi]
 simp only
 have hpos:0 < m.zD.length:=List.length_pos_iff.mpr E.ne
 by_cases h0:0≤parNo 0 (zT S.pls (zAR S m)).params x
 ·rw[if_pos h0,if_pos h0]
  have hb:=zM2 x (zT S.pls (zAR S m)).params 0
  have hpl:(zT S.pls (zAR S m)).params.length=(m.zD.getLastD zEU).params.length:=by
   rw[←hp]
   rw[zHI E.ne]at hargs ⊢
   unfold zDS
   simp only at hargs ⊢
   rw[List.length_drop,hargs]
  have hhas:zEY m ⟨0,parNo 0 (zT S.pls (zAR S m)).params x⟩=true:=by
   unfold zEY cellsOf
   simp only[decide_eq_true_eq]
   rw[if_neg (by omega),if_pos ⟨by first | rfl | trivial,hpos⟩]
   omega
  unfold zA4
  rw[if_pos hhas,if_neg (show ¬(0:Int) < 0 by omega)]
  generalize (parNo 0 (zT S.pls (zAR S m)).params x).toNat=i
  unfold zP
  simp only[Pl.mk.injEq,and_true]
  obtain⟨pre,g,hg⟩:∃pre g,m.zD=pre++[g]:=⟨_,_,zMP E.ne⟩
  rw[hg,zE9,List.length_append,List.length_singleton,Nat.add_sub_cancel,zNJ,zEC,zEC]
  have:=zNJ (frsOf pls pre g.call) (⟨zBJ pls m.line,g.params,g.call⟩:Fr) (fun f=>⟨f.proc,f.args.set i v,f.call⟩)
  rw[zE9]at this
  rw[this]
 ·rw[if_neg h0,if_neg h0,E.zGl,zDQ,E.both.zDZ]
  have hno:=zNY (ps:=(zT S.pls (zAR S m)).params) (x:=x) 0 (by omega)
  unfold Rt.isVar zGU at hv
  rw[E.zGl,zCY]at hno
  rw[hno,Bool.false_or,decide_eq_true_iff]at hv
  have hd:=zJI E x
  have hk:(zT pls ((decl ls x:Nat):Int)).kind=1:=by
   unfold zX at hv
   rw[E.both.zDZ]at hv
   exact hv
  obtain⟨a,ha⟩:=zPM E hd hk
  have hp0:=zHk E (x:=x) (by rw[hv];decide)
  have hvl:=zEe E
  have hhas:zEY m ⟨((decl ls x:Nat):Int),0⟩=true:=by
   unfold zEY cellsOf
   simp only[decide_eq_true_eq]
   rw[if_pos ⟨by omega,by omega⟩,Int.toNat_natCast,ha]
   simp
  unfold zA4
  rw[if_pos hhas,if_pos (show (0:Int) < ((decl ls x:Nat):Int) by omega)]
  simp only[Int.toNat_natCast,Int.toNat_zero]
  generalize decl ls x=d at *
  unfold zP
  simp only[Pl.mk.injEq,true_and,and_true]
  constructor
  ·unfold varsOf
   refine zIA _ _ _ _ _ (fun _=>?_) (fun k hk'=>?_)
   ·rw[if_pos hk,List.getElem?_modify,ha]
    simp
   ·rw[zMK _ _ hk']
  ·unfold zEa
   refine List.map_congr_left (fun k _=>?_)
   by_cases e:k=d
   ·subst e
    rw[if_neg (by omega),if_neg (by omega)]
   ·rw[zMK _ _ e]
theorem put_cell (E:Env pls ls S m) {x:ByteArray} (hv:Rt.zCN pls (zAR S m) x=true) {n:Int} (hs:zEY m ⟨(zAE S.pls x:Nat),n⟩=true) (v:Int) :
  zP pls (zA4 m ⟨(zAE S.pls x:Nat),n⟩ v)={ zP pls m with cells:=(zP pls m).cells.set (decl ls x) (((zP pls m).cells.getD (decl ls x) []).set n.toNat v) }:=by
 obtain⟨c1,c2,c3⟩:=celE E hv
 have hd:=zJI E x
 unfold Rt.zCN at hv
 rw[Bool.and_eq_true,decide_eq_true_iff]at hv
 have hk:(zT pls ((decl ls x:Nat):Int)).kind=2:=by
  have:=hv.2
  unfold zX at this
  rw[E.both.zDZ]at this
  exact this
 have hvl:=zEe E
 rw[zNs m hd,if_pos hk]
 unfold zA4
 rw[if_pos hs,c3]
 simp only
 rw[if_pos (show (0:Int) < ((decl ls x:Nat):Int) by omega)]
 simp only[Int.toNat_natCast]
 generalize decl ls x=d at *
 have ha:m.values[d]?=some m.values[d]:=List.getElem?_eq_getElem (by omega)
 unfold zP
 simp only[Pl.mk.injEq,true_and,and_true]
 constructor
 ·unfold varsOf
  refine List.map_congr_left (fun k _=>?_)
  by_cases e:k=d
  ·subst e
   rw[if_neg (by omega),if_neg (by omega)]
  ·rw[zMK _ _ e]
 ·unfold zEa
  refine zIA _ _ _ _ _ (fun _=>?_) (fun k hk'=>?_)
  ·rw[if_pos hk,List.getElem?_modify,ha]
   simp
  ·rw[zMK _ _ hk']
theorem pl_line {n:Int} (h:zBJ pls n=zBJ pls m.line):zP pls { m with line:=n }={ zP pls m with line:=n }:=by
 unfold zP
 simp only[Pl.mk.injEq,and_true]
 exact zKH h m.zD
theorem zJk (m:Mc) (s:zEu) (v:Int):(zA4 m s v).line=m.line∧(zA4 m s v).fin=m.fin∧(zA4 m s v).taken=m.taken∧(zA4 m s v).output=m.output∧(zA4 m s v).zD.map Fm.call=m.zD.map Fm.call∧(zA4 m s v).zD.map (fun f=>f.params.length)=m.zD.map (fun f=>f.params.length)∧(zA4 m s v).values.map List.length=m.values.map List.length:=by
 unfold zA4
 split
 ·split
  ·refine⟨rfl,rfl,rfl,rfl,rfl,rfl,?_⟩
   apply List.ext_getElem
   ·simp
   ·intro i h1 h2
    simp only[List.getElem_map,List.getElem_modify]
    split <;> simp
  ·refine⟨rfl,rfl,rfl,rfl,?_,?_,rfl⟩
   ·apply List.ext_getElem
    ·simp
    ·intro i h1 h2
     simp only[List.getElem_map,List.getElem_modify]
     split <;> simp
   ·apply List.ext_getElem
    ·simp
    ·intro i h1 h2
     simp only[List.getElem_map,List.getElem_modify]
     split <;> simp
 ·exact⟨rfl,rfl,rfl,rfl,rfl,rfl,rfl⟩
end
open Rt
section
variable {ps pls : List PL} {ls : List (List ByteArray)} {S : Rt.Src} {m : Mc}
theorem zLi {n n':Int} (hn:zBJ pls n'=zBJ pls n):∀(fs fs':List Fm),fs'.map Fm.call=fs.map Fm.call→fs'.map (fun f=>f.params.length)=fs.map (fun f=>f.params.length)→(frsOf pls fs' n').map (fun f=>(f.proc,f.args.length))=(frsOf pls fs n).map (fun f=>(f.proc,f.args.length))
 | [],[],_,_=>rfl
 | [],_::_,h,_=>by simp at h
 | _::_,[],h,_=>by simp at h
 | [a],[b],_,h2=>by
  simp only[List.map_cons,List.map_nil,List.cons.injEq,and_true]at h2
  simp only[frsOf,List.map_cons,List.map_nil,hn,h2]
 | [_],_::_::_,h,_=>by simp at h
 | _::_::_,[_],h,_=>by simp at h
 | a::b::r,a'::b'::r',h,h2=>by
  have ih:=zLi hn (b::r) (b'::r') (by simp only[List.map_cons,List.cons.injEq]at h ⊢;exact h.2) (by simp only[List.map_cons,List.cons.injEq]at h2 ⊢;exact h2.2)
  simp only[List.map_cons,List.cons.injEq]at h h2
  simp only[frsOf,List.map_cons,List.cons.injEq]
  exact⟨by rw[h.2.1,h2.1],ih⟩
theorem frs_ok {fs fs':List Fr} (h:fs'.map (fun f=>(f.proc,f.args.length))=fs.map (fun f=>(f.proc,f.args.length))) (hf:∀f∈fs,FrOK ls f):∀f∈fs',FrOK ls f:=by
 intro f hm
 have:(f.proc,f.args.length)∈fs.map (fun f=>(f.proc,f.args.length)):=by rw[←h];exact List.mem_map.mpr ⟨f,hm,rfl⟩
 obtain⟨g,hg,e⟩:=List.mem_map.mp this
 have:=hf g hg
 simp only[Prod.mk.injEq]at e
 obtain⟨e1,e2⟩:=e
 exact⟨by rw[←e1];exact this.lo,by rw[←e1];exact this.hi,by rw[←e1];exact this.two,by rw[←e1,←e2];exact this.args⟩
theorem tail_ok {fs fs':List Fm} (h:fs'.map Fm.call=fs.map Fm.call) {P:Int→Prop} (hf:∀f∈fs.tail,P f.call):∀f∈fs'.tail,P f.call:=by
 intro f hm
 have h2:fs'.tail.map Fm.call=fs.tail.map Fm.call:=by rw[List.map_tail,List.map_tail,h]
 have:f.call∈fs.tail.map Fm.call:=by rw[←h2];exact List.mem_map.mpr ⟨f,hm,rfl⟩
 obtain⟨g,hg,e⟩:=List.mem_map.mp this
 rw[←e]
 exact hf g hg
theorem zQu (C:Ctx ps pls ls S) (F:zGQ ps pls ls S m) {l:Nat} (h1:l < ps.length) (h2:m.line=(l:Int)+1) (h4:stp ps l≠[]) {m1:Mc} (hc:m1.zD.map Fm.call=m.zD.map Fm.call) (hp:m1.zD.map (fun f=>f.params.length)=m.zD.map (fun f=>f.params.length))
  (hv:m1.values.map List.length=m.values.map List.length) (ht:0≤m1.taken∧m1.taken≤S.input.length) {k:Nat} (hk:k≤ls.length) (hne:stp ps k≠[]) (ho:zC3 (stp ps k)=zC3 (stp ps l)) :
  zGQ ps pls ls S { m1 with line:=(zAp ls k:Nat) }∧zBJ pls ((zAp ls k:Nat):Int)=zBJ pls m.line:=by
 obtain⟨j,j1,j2,j3,j4,j5⟩:=C.stop hk hne
 have hjl:((zAp ls k:Nat):Int)=(j:Int)+1:=by rw[j1];omega
 have hpr:zBJ pls ((zAp ls k:Nat):Int)=zBJ pls m.line:=by
  rw[hjl,h2,C.zBJ j2 j4,C.zBJ h1 h4,j5,ho]
 have hlen:m1.zD.length=m.zD.length:=by have:=congrArg List.length hc;simpa using this
 refine⟨⟨⟨j,j2,hjl,j3,j4⟩,?_,?_,?_,tail_ok (P:=fun q=>∃c:Nat,c < ps.length∧q=(c:Int)+1∧kd ps c=12) hc F.calls,hv.trans F.zGO,ht⟩,hpr⟩
 ·intro e
  have:=F.ne
  simp only at e
  rw[e]at hlen
  exact this (List.length_eq_zero_iff.mp hlen.symm)
 ·show m1.zD.length≤6
  rw[hlen];exact F.few
 ·exact frs_ok (zLi hpr m.zD m1.zD hc hp) F.frs
theorem fine_fin (F:zGQ ps pls ls S m) (t:Int):zGQ ps pls ls S { m with fin:=t }:=⟨F.line,F.ne,F.few,F.frs,F.calls,F.zGO,F.taken⟩
theorem zJe (hfin:m.fin=0) {o:Out} (ho:perform S m (zT S.pls m.line)=o) (h0:o.fin=0):zAI S m=({ o.m with line:=goOn S.pls S.lk 102 o.next },o.zHF):=by
 unfold zAI
 rw[if_pos hfin,ho]
 simp only
 rw[if_pos h0]
theorem zPs (hfin:m.fin=0) {o:Out} (ho:perform S m (zT S.pls m.line)=o) (h0:¬o.fin=0):zAI S m=({ m with fin:=o.fin },[stay m.line]):=by
 unfold zAI
 rw[if_pos hfin,ho]
 simp only
 rw[if_neg h0]
def Step (ps pls:List PL) (ls:List (List ByteArray)) (S:Rt.Src) (m:Mc) (p:Pl) (n:Nat):Prop:=zP pls (zAI S m).1=p∧(zAI S m).2.length=n∧zGQ ps pls ls S (zAI S m).1
theorem step_end (F:zGQ ps pls ls S m) (hfin:m.fin=0) {o:Out} (ho:perform S m (zT S.pls m.line)=o) (h0:¬o.fin=0):Step ps pls ls S m { zP pls m with fin:=o.fin } 1:=by
 unfold Step
 rw[zPs hfin ho h0]
 exact⟨rfl,rfl,fine_fin F _⟩
theorem zGC {l:Nat} (h4:stp ps l≠[]) (hk:¬(kd ps l=3∨kd ps l=4)):stp ps (l+1)≠[]∧zC3 (stp ps (l+1))=zC3 (stp ps l):=by
 have:stp ps (l+1)≠[]:=by
  rw[stp]
  split
  ·simp
  ·rw[if_neg (by omega)];exact h4
 exact⟨this,zJr h4 this⟩
theorem zDh {l:Nat} (h:l < 101):wrap64 ((l:Int)+1+1)=((l+1:Nat):Int)+1:=by
 have:=zCG (l+2) (by omega)
 rw[show ((l:Int)+1+1)=((l+2:Nat):Int) by omega,this]
 omega
theorem zC8 (C:Ctx ps pls ls S) {l:Nat} (h1:l < ps.length) (h2:m.line=(l:Int)+1):zT S.pls m.line=ps[l].form:=by rw[C.zGl,zCY,h2,zDd C.nst h1]
section
variable (C : Ctx ps pls ls S) (F : zGQ ps pls ls S m) (hfin : m.fin = 0) {l : Nat} (h1 : l < ps.length) (h2 : m.line = (l : Int) + 1) (h4 : stp ps l ≠ [])
include C F hfin h1 h2 h4
theorem zF7 {o:Out} (ho:perform S m (zT S.pls m.line)=o) (h0:o.fin=0) {k:Nat} (hk:k≤ls.length) (hnx:o.next=(k:Int)+1) (hne:stp ps k≠[]) (hou:zC3 (stp ps k)=zC3 (stp ps l)) (hln:o.m.line=m.line)
  (hc:o.m.zD.map Fm.call=m.zD.map Fm.call) (hp:o.m.zD.map (fun f=>f.params.length)=m.zD.map (fun f=>f.params.length)) (hv:o.m.values.map List.length=m.values.map List.length) (ht:0≤o.m.taken∧o.m.taken≤S.input.length) :
  Step ps pls ls S m { zP pls o.m with line:=(zAp ls k:Nat) } o.zHF.length:=by
 obtain⟨f1,f2⟩:=zQu C F h1 h2 h4 hc hp hv ht hk hne hou
 unfold Step
 rw[zJe hfin ho h0,hnx,C.go hk]
 exact⟨pl_line (by rw[f2,hln]),rfl,f1⟩
end
end
end Rf
theorem zE2 {A B:List Rw} {r:Rw} {k:Nat} (h:k∈zAJ (A++r::B)):k∈zAJ (A++B)∨r.v.ownBlock=some k:=by
 rw[zA7,zBY]at h
 rw[zA7]
 rcases List.mem_append.mp h with h | h
 ·exact Or.inl (List.mem_append_left _ h)
 ·cases e:r.v.ownBlock with
  | none=>rw[e]at h;exact Or.inl (List.mem_append_right _ h)
  | some g=>
   rw[e]at h
   rcases List.mem_cons.mp h with rfl | h
   ·exact Or.inr rfl
   ·exact Or.inl (List.mem_append_right _ h)
theorem McS.zPa {w:World} {M B:Nat} {ty:TypeId} {tail:List Value} {S:Rt.Src} {m:Rt.Mc} {X:McX} (h:McS w M B ty tail S m X):X.fv.ownBlock≠some M:=by
 intro e
 obtain⟨c,hc⟩:=zAj h.zD e
 rw[h.block]at hc
 injection hc with hc
 injection hc with _ hc
 exact h.ty.2.1 hc
theorem McS.zLj {w w1:World} {M B:Nat} {ty:TypeId} {tail:List Value} {S:Rt.Src} {m:Rt.Mc} {X:McX} (h:McS w M B ty tail S m X) (hkeep:∀k,k < w.heap.size→X.fv.ownBlock≠some k→w1.heap[k]?=w.heap[k]?) :
  ∀(k:Nat) (x:Obj),w.heap[k]?=some x→(∃c t,x=Obj.cells c t (0,0)∧PTy t)→w1.heap[k]?=some x:=by
 intro k x hx hp
 rw[hkeep k (zJ hx) (fun e=>by
  obtain⟨c,hc⟩:=zAj h.zD e
  rw[hx]at hc
  injection hc with hc
  obtain⟨c',t',e2,hp⟩:=hp
  rw[hc]at e2
  injection e2 with _ e2
  rw[←e2]at hp
  exact absurd hp (by unfold PTy;decide))]
 exact hx
def zDL (X:McX) (m:Rt.Mc):Rw:=⟨153,2,X.fv,m.zD.length,fCells X.fps m.zD⟩
theorem zJi (inp:List Int) (X:McX) (m:Rt.Mc):rowsOf inp X m=[zQ X.iv inp]++zDL X m::([⟨24,1,X.vv,m.values.length,X.vps⟩,zQ X.ov m.output]++(List.zipWith zQ X.fps (m.zD.map Rt.Fm.params)++List.zipWith zQ X.vps m.values)):=rfl
theorem McS.zQo {w wx wy w1:World} {M B:Nat} {ty:TypeId} {tail:List Value} {S:Rt.Src} {m:Rt.Mc} {X:McX} (h:McS w M B ty tail S m X) (hb:Below w.heap.size w wx) (hby:Below wx.heap.size wx wy) (pv:Value) (ps:List Int) (call:Int) (hn:wx.ownsRow w.heap.size 3 1 pv ps.length (zz ps))
  (hg:wy.grownBy w1 X.fv.ownBlock) (fv':Value) (hown:w1.ownsRow 0 153 2 fv' (m.zD.length+1) (fCells X.fps m.zD++[pv,.int .i64 call])) (hat:∀g,fv'.ownBlock=some g→X.fv.ownBlock=some g∨wx.heap.size≤g) :
  McS (w1.setCell ⟨M,2,none⟩ fv') M B ty tail S { m with zD:=m.zD++[⟨ps,call⟩] } { X with fv:=fv',fps:=X.fps++[pv] }∧Frm w (w1.setCell ⟨M,2,none⟩ fv') (M::zDX X)∧zCz w (zDX X) (zDX { X with fv:=fv',fps:=X.fps++[pv] }):=by
 have hkx:∀k,k < wx.heap.size→X.fv.ownBlock≠some k→w1.heap[k]?=wx.heap[k]?:=fun k hk hv=>(hg.block k (Nat.lt_of_lt_of_le hk hby.size) (Ne.symm hv)).trans (hby.block k hk)
 have hkeep:∀k,k < w.heap.size→X.fv.ownBlock≠some k→w1.heap[k]?=w.heap[k]?:=fun k hk hv=>(hkx k (Nat.lt_of_lt_of_le hk hb.size) hv).trans (hb.block k hk)
 have hMne:=h.zPa
 have hk:=h.zLj hkeep
 have ho0:=h.own.zH hb
 have hpv:∀g,pv.ownBlock=some g→g∉Go.Proofs.YthleadfkfnnadaaGreat.zAJ (rowsOf S.input X m):=fun g hg hm=>by
  have h1:=h.own.lt g hm
  have h2:=(hn.lt g hg).1
  omega
 have ho1:Own wx (([zQ X.iv S.input,zDL X m,⟨24,1,X.vv,m.values.length,X.vps⟩,zQ X.ov m.output]++List.zipWith zQ X.fps (m.zD.map Rt.Fm.params))++zQ pv ps::List.zipWith zQ X.vps m.values):=
  Own.add (by rw[List.append_assoc];exact ho0) (zCr hn) (fun g hg=>by rw[List.append_assoc];exact hpv g hg)
 have hre:([zQ X.iv S.input,zDL X m,⟨24,1,X.vv,m.values.length,X.vps⟩,zQ X.ov m.output]++List.zipWith zQ X.fps (m.zD.map Rt.Fm.params))++zQ pv ps::List.zipWith zQ X.vps m.values=[zQ X.iv S.input]++zDL X m::([⟨24,1,X.vv,m.values.length,X.vps⟩,zQ X.ov m.output]++(List.zipWith zQ X.fps (m.zD.map Rt.Fm.params)++zQ pv ps::List.zipWith zQ X.vps m.values)):=by simp
 have ho2:=ho1
 rw[hre]at ho2
 obtain⟨o1,o2⟩:=Own.swap (w':=w1) ho2 (r':=⟨153,2,fv',m.zD.length+1,fCells X.fps m.zD++[pv,.int .i64 call]⟩) hkx hown hat
 have hz:List.zipWith zQ (X.fps++[pv]) ((m.zD++[(⟨ps,call⟩:Rt.Fm)]).map Rt.Fm.params)=List.zipWith zQ X.fps (m.zD.map Rt.Fm.params)++[zQ pv ps]:=by
  rw[List.map_append,List.zipWith_append (by rw[List.length_map];exact h.fl)];rfl
 have hrows':rowsOf S.input { X with fv:=fv',fps:=X.fps++[pv] } { m with zD:=m.zD++[⟨ps,call⟩] }=[zQ X.iv S.input]++⟨153,2,fv',m.zD.length+1,fCells X.fps m.zD++[pv,.int .i64 call]⟩::([⟨24,1,X.vv,m.values.length,X.vps⟩,zQ X.ov m.output]++(List.zipWith zQ X.fps (m.zD.map Rt.Fm.params)++zQ pv ps::List.zipWith zQ X.vps m.values)):=by
  unfold rowsOf
  simp only[hz,zFo _ _ _ _ h.fl,List.length_append,List.length_singleton,List.append_assoc,List.cons_append,List.nil_append]
 have hmc:=h.step (w1:=w1) (m':={ m with zD:=m.zD++[⟨ps,call⟩] }) (X':={ X with fv:=fv',fps:=X.fps++[pv] }) (Nat.le_trans (Nat.le_trans hb.size hby.size) hg.size) (hkeep M (zJ h.block) hMne) hk 2 fv' (by simp[zAn]) (by rw[hrows'];exact o1) rfl rfl (by simp[h.fl]) h.vl
 refine⟨hmc,?_,?_⟩
 ·refine Frm.setM ⟨hg.os.trans (hby.os.trans hb.os),hg.tape.trans (hby.tape.trans hb.tape),hg.output.trans (hby.output.trans hb.output),Nat.le_trans (Nat.le_trans hb.size hby.size) hg.size,fun k hk2 hn=>hkeep k hk2 (fun e=>hn (List.mem_cons_of_mem _ ?_))⟩ _ _
  rw[←h.zAJ]
  exact zAf (r:=zDL X m) (by rw[zJi];simp) e
 ·rw[←h.zAJ,←hmc.zAJ,hrows']
  intro k hk3
  rcases o2 k hk3 with hk4 | hk4
  ·rw[←hre]at hk4
   rcases zE2 hk4 with hk5 | hk5
   ·rw[List.append_assoc]at hk5
    exact Or.inl hk5
   ·exact Or.inr (hn.lt k hk5).1
  ·exact Or.inr (Nat.le_trans hb.size hk4)
theorem McS.framePop {w w1:World} {M B:Nat} {ty:TypeId} {tail:List Value} {S:Rt.Src} {m:Rt.Mc} {X:McX} (h:McS w M B ty tail S m X) (fs:List Rt.Fm) (f:Rt.Fm) (hf:m.zD=fs++[f]) (g cap:Nat) (hv:X.fv=.slice (some ⟨g,0,none⟩) (fs.length+1) cap) (hb:Below w.heap.size w w1) :
  McS (w1.setCell ⟨M,2,none⟩ (.slice (some ⟨g,0,none⟩) fs.length cap)) M B ty tail S { m with zD:=fs } { X with fv:=.slice (some ⟨g,0,none⟩) fs.length cap,fps:=X.fps.dropLast }∧Frm w (w1.setCell ⟨M,2,none⟩ (.slice (some ⟨g,0,none⟩) fs.length cap)) (M::zDX X)∧zCz w (zDX X) (zDX { X with fv:=.slice (some ⟨g,0,none⟩) fs.length cap,fps:=X.fps.dropLast }):=by
 have hfl:=h.fl
 rw[hf,List.length_append,List.length_singleton]at hfl
 obtain⟨fps,pv,hfps⟩:∃fps pv,X.fps=fps++[pv]:=by
  have hne:X.fps≠[]:=by intro e;rw[e]at hfl;simp at hfl
  exact⟨X.fps.dropLast,X.fps.getLast hne,(List.dropLast_concat_getLast hne).symm⟩
 have hl:fps.length=fs.length:=by rw[hfps]at hfl;simpa using hfl
 have hdl:X.fps.dropLast=fps:=by rw[hfps,List.dropLast_concat]
 have hkeep:∀k,k < w.heap.size→X.fv.ownBlock≠some k→w1.heap[k]?=w.heap[k]?:=fun k hk _=>hb.block k hk
 have hk:=h.zLj hkeep
 have hrow:w1.ownsRow 0 153 2 (.slice (some ⟨g,0,none⟩) fs.length cap) fs.length (fCells fps fs):=by
  have h1:=zZ h.zD hb
  rw[hf,hfps,hv,zFo _ _ _ _ hl]at h1
  obtain⟨q1,q2⟩:=h1
  rcases q2 with⟨q2,_⟩| ⟨g',cap',cur,e,q3,q4,q5,q6,q7,q8⟩
  ·cases q2
  ·simp only[Value.slice.injEq,Option.some.injEq,Addr.mk.injEq,and_true]at e
   obtain⟨rfl,e2,rfl⟩:=e
   refine⟨by rw[zG0 _ _ hl],Or.inr ⟨g,cap,cur,rfl,q3,q4,by simp at q5;omega,q6,q7,?_⟩⟩
   have:=congrArg (List.take (fs.length*2)) q8
   rw[List.take_take,List.take_left' (by rw[zG0 _ _ hl])]at this
   rw[←this]
   congr 1
   simp
 have hre:rowsOf S.input X m=([zQ X.iv S.input,zDL X m,⟨24,1,X.vv,m.values.length,X.vps⟩,zQ X.ov m.output]++List.zipWith zQ fps (fs.map Rt.Fm.params))++zQ pv f.params::List.zipWith zQ X.vps m.values:=by
  rw[zJi]
  have:List.zipWith zQ X.fps (m.zD.map Rt.Fm.params)=List.zipWith zQ fps (fs.map Rt.Fm.params)++[zQ pv f.params]:=by
   rw[hf,hfps,List.map_append,List.zipWith_append (by rw[List.length_map];exact hl)];rfl
  rw[this]
  simp
 have ho0:=h.own.zH hb
 rw[hre]at ho0
 have ho1:=ho0.drop
 have hre2:[zQ X.iv S.input,zDL X m,⟨24,1,X.vv,m.values.length,X.vps⟩,zQ X.ov m.output]++List.zipWith zQ fps (fs.map Rt.Fm.params)++List.zipWith zQ X.vps m.values=[zQ X.iv S.input]++zDL X m::([⟨24,1,X.vv,m.values.length,X.vps⟩,zQ X.ov m.output]++(List.zipWith zQ fps (fs.map Rt.Fm.params)++List.zipWith zQ X.vps m.values)):=by simp
 rw[hre2]at ho1
 obtain⟨o1,o2⟩:=Own.swap (w':=w1) ho1 (r':=⟨153,2,.slice (some ⟨g,0,none⟩) fs.length cap,fs.length,fCells fps fs⟩) (fun k _ _=>rfl) hrow (fun k hk=>Or.inl (by show X.fv.ownBlock=some k;rw[hv];exact hk))
 have hrows':rowsOf S.input { X with fv:=.slice (some ⟨g,0,none⟩) fs.length cap,fps:=X.fps.dropLast } { m with zD:=fs }=[zQ X.iv S.input]++⟨153,2,.slice (some ⟨g,0,none⟩) fs.length cap,fs.length,fCells fps fs⟩::([⟨24,1,X.vv,m.values.length,X.vps⟩,zQ X.ov m.output]++(List.zipWith zQ fps (fs.map Rt.Fm.params)++List.zipWith zQ X.vps m.values)):=by
  rw[hdl];rfl
 have hmc:=h.step (w1:=w1) (m':={ m with zD:=fs }) (X':={ X with fv:=.slice (some ⟨g,0,none⟩) fs.length cap,fps:=X.fps.dropLast }) hb.size (hb.block M (zJ h.block)) hk 2 (.slice (some ⟨g,0,none⟩) fs.length cap) (by simp[zAn]) (by rw[hrows'];exact o1) rfl rfl (by rw[hdl];exact hl) h.vl
 refine⟨hmc,Frm.setM (Frm.zD0 _ hb) _ _,?_⟩
 rw[←h.zAJ,←hmc.zAJ,hrows']
 intro k hk3
 rcases o2 k hk3 with hk4 | hk4
 ·rw[←hre2]at hk4
  left
  rw[hre]
  exact zLr _ _ _ k hk4
 ·exact Or.inr (Nat.le_trans hb.size hk4)
end Go.Proofs.YthleadfkfnnadaaGreat
