/- The document's answer: a step from a machine's place, for branches, calls, returns; then for every line. -/
import Derived.Test.YthleadfkfnnadaaGreatRgI
import Derived.Test.YthleadfkfnnadaaGreatRgJ
import Derived.Test.YthleadfkfnnadaaGreatRgK
import Derived.Test.YthleadfkfnnadaaGreatPlC
set_option maxHeartbeats 4000000
set_option maxRecDepth 100000
namespace Go.Proofs.YthleadfkfnnadaaGreat
open Go.RowKit
namespace Rf
open Rt
theorem zNg (pls:List PL):∀(fs:List Fm) (n:Int),(frsOf pls fs n).map Fr.args=fs.map Fm.params
 | [],_=>rfl
 | [_],_=>rfl
 | a::b::r,n=>by
  show a.params::(frsOf pls (b::r) n).map Fr.args=_
  rw[zNg pls (b::r) n]
  rfl
theorem zFY {pls:List PL} {S:Rt.Src} {m:Mc} (hl:pls.length≤101) (hK:zET S m):PlB (zP pls m):=by
 refine⟨?_,fun f hf=>?_,?_,?_,fun c hc=>?_,?_⟩
 ·show (frsOf pls m.zD m.line).length≤1000
  rw[zE9]
  have:=hK.hi
  omega
 ·have:f.args∈m.zD.map Fm.params:=by rw[←zNg pls m.zD m.line];exact List.mem_map.mpr ⟨f,hf,rfl⟩
  obtain⟨x,hx,e⟩:=List.mem_map.mp this
  rw[←e]
  exact hK.mok.params x hx
 ·show (varsOf pls m.values).length≤1000
  simp[varsOf];omega
 ·show (zEa pls m.values).length≤1000
  simp[zEa];omega
 ·have hc':c∈zEa pls m.values:=hc
  unfold zEa at hc'
  obtain⟨l,_,e⟩:=List.mem_map.mp hc'
  rw[←e]
  split
  ·cases hv:m.values[l]? with
   | none=>simp
   | some y=>exact hK.mok.cells y (List.mem_of_getElem? hv)
  ·simp
 ·have:=hK.out
  show m.output.length≤1000
  omega
theorem zLh (ls:List (List ByteArray)) (p:Pl) (x:ByteArray) (v:Int):(zBy ls p x v).line=p.line∧(zBy ls p x v).zD.length=p.zD.length∧(zBy ls p x v).cells=p.cells:=by
 unfold zBy
 split
 ·exact⟨rfl,by simp,rfl⟩
 ·exact⟨rfl,rfl,rfl⟩
end Rf
open Rf Rt
theorem zDM {ps pls:List PL} {ls:List (List ByteArray)} {S:Rt.Src} {m:Mc} {p P:Pl} {n:Nat} {N:Int} (h:Rf.Step ps pls ls S m p n) (hP:P=p) (hN:N=(n:Int)) {w:World} {e:Ending} {w':World} (hs:zCA P N w e w'):zCA (zP pls (zAI S m).1) ((zAI S m).2.length:Nat) w e w':=by
 subst hP hN
 rw[h.1,h.2.1]
 exact hs
theorem zB2 (l r:List UInt8) (h:(l==r)=false):((⟨l.toArray⟩:ByteArray).toList==r)=false:=by rw[zBB];exact h
theorem zCf (l:List UInt8):((⟨l.toArray⟩:ByteArray).toList==l)=true:=by rw[zBB];simp
section
variable {ps pls : List PL} {ls : List (List ByteArray)} {S : Rt.Src} {m : Mc} (C : Ctx ps pls ls S) (F : zGQ ps pls ls S m) (hfin : m.fin = 0) (hK : zET S m) {l : Nat} (h1 : l < ps.length) (h2 : m.line = (l : Int) + 1) (h4 : stp ps l ≠ [])
  (w : World) (Sb g cap : Nat) (iv fv vv cv ov : Value) (hG : zAg w Sb g cap ls) (hv : PlV w fv vv cv ov (zP pls m)) (hi : zBP w iv S.input)
include C F hfin hK h1 h2 h4 hG hv hi
theorem doc_set1 (hl:l < ls.length) {x:ByteArray} {q:List ByteArray} {e:List Pop} (ht:ls[l]=zCc::x::toW::q) (hx:zi x=true) (he:Ex e q) (hf:ps[l].form=⟨8,x,0,[],[],[e]⟩) :
  Calls Tryz.prog 55 #[.pointer (some ⟨Sb,0,none⟩),.agg (plA fv vv cv ov (zP pls m)),iv] w (zCA (zP pls (zAI S m).1) ((zAI S m).2.length:Nat) w):=by
 have E:=zDW C F
 have hpl:pls.length≤101:=by have:=C.both.len;have:=C.law.len;omega
 have hfew:=C.law.zDN hl
 rw[ht]at hfew
 have hnm:=((zE1 C h1 h2 h4).2.2.2 (by rw[hf];simp)).2 e (by rw[hf];simp)
 have hw:=zEd E he.2.2 (zB3 hfew (by simp;omega) (fun y hy=>by simp[hy])) hnm
 have hb:behind (zCc::x::toW::q)=2:=zGM (a:=[zCc,x]) (b:=q) (fun y hy=>by
  simp at hy
  rcases hy with rfl | rfl
  ·simp[zCc,toW]
  ·exact(zGq (Or.inl hx)).2)
 have hst:=zLA C F hfin h1 h2 h4 hf
 obtain⟨g1,g2,g3⟩:=zLh ls (zP pls m) x (zN S m e).1
 refine(zIZ w Sb g cap l ls (zP pls m) fv vv cv ov iv _ hG hv (zFY hpl hK) E.ok C.law C.both.nested h2 hl ht (by simp) (by obtain⟨a,c,e,_⟩:=hi;exact⟨a,_,c,e⟩) (zCf [115,101,116]) (zN S m e).2 (zBy ls (zP pls m) x (zN S m e).1)
  (fun _=>⟨by rw[g1];exact h2,by rw[g2];exact E.ok.some,by rw[g3];have:=E.ok.cells;omega⟩) (fun w0 w' P X tv hI hT=>?_)).mono (fun e' w'' hs=>zDM hst rfl (by split <;> rfl) hs)
 refine(zL9 w0 w' Sb g cap P ls (zP pls m) X tv _ (zN S m e) hI hT hfew C.law E.ok hb (by simp) hw _ rfl).mono ?_
 rintro e' w'' ⟨rfl,hI'⟩
 exact⟨rfl,X,hI'⟩
theorem doc_set2 (hl:l < ls.length) {x:ByteArray} {q u:List ByteArray} {i e:List Pop} (ht:ls[l]=zCc::x::zAQ::(q++zBQ::toW::u)) (hx:zi x=true) (hq:Ex i q) (he:Ex e u) (hf:ps[l].form=⟨9,x,0,[],i,[e]⟩) :
  Calls Tryz.prog 55 #[.pointer (some ⟨Sb,0,none⟩),.agg (plA fv vv cv ov (zP pls m)),iv] w (zCA (zP pls (zAI S m).1) ((zAI S m).2.length:Nat) w):=by
 have E:=zDW C F
 have hpl:pls.length≤101:=by have:=C.both.len;have:=C.law.len;omega
 have hcl:0 < (zP pls m).cells.length:=by have:=E.ok.cells;omega
 have hiv:∃a n c,iv=.slice a n c:=by obtain⟨a,c,e,_⟩:=hi;exact⟨a,_,c,e⟩
 have hfew:=C.law.zDN hl
 rw[ht]at hfew
 have hnm:=(zE1 C h1 h2 h4).2.2.2 (by rw[hf];simp)
 have hne:=hnm.2 e (by rw[hf];simp)
 have hni:=hnm.1
 rw[hf]at hni
 have hwi:=zEd E hq.2.2 (zB3 hfew (by simp;omega) (fun y hy=>by simp[hy])) hni
 have hwe:=zEd E he.2.2 (zB3 hfew (by simp;omega) (fun y hy=>by simp[hy])) hne
 have hee:zCc::x::zAQ::(q++zBQ::toW::u)=(zCc::x::zAQ::(q++[zBQ]))++toW::u:=by simp
 have hb:behind (zCc::x::zAQ::(q++zBQ::toW::u))=q.length+4:=by
  rw[hee,zGM (fun y hy=>?_)]
  ·simp
  ·simp only[List.mem_cons,List.mem_append,List.not_mem_nil,or_false]at hy
   rcases hy with rfl | rfl | rfl | hy | rfl
   ·simp[zCc,toW]
   ·exact(zGq (Or.inl hx)).2
   ·simp[zAQ,toW]
   ·exact(zGF hq.1 _ hy).2
   ·simp[zBQ,toW]
 have hd1:((zCc::x::zAQ::(q++zBQ::toW::u)).take (q.length+4-1)).drop 3=q:=by
  rw[show q.length+4-1=q.length+3 by omega,List.take_succ_cons,List.take_succ_cons,List.take_succ_cons,List.drop_succ_cons,List.drop_succ_cons,List.drop_succ_cons,List.drop_zero,List.take_append_of_le_length (Nat.le_refl _),List.take_length]
 have hd2:(zCc::x::zAQ::(q++zBQ::toW::u)).drop (q.length+4+1)=u:=by
  rw[hee,List.drop_append,List.drop_eq_nil_of_le (by simp),show q.length+4+1-(zCc::x::zAQ::(q++[zBQ])).length=1 by simp];rfl
 have hst:=zK9 C F hfin h1 h2 h4 hf
 obtain⟨te,hte⟩:∃te,te=if (zN S m i).2=0 then (if (zN S m e).2=0 then (if (zN S m i).1 < 0∨(((zP pls m).cells.getD (decl ls x) []).length:Int)≤(zN S m i).1 then 3 else 0)else (zN S m e).2)else (zN S m i).2:=⟨_,rfl⟩
 refine(zIZ w Sb g cap l ls (zP pls m) fv vv cv ov iv _ hG hv (zFY hpl hK) E.ok C.law C.both.nested h2 hl ht (by simp) hiv (zCf [115,101,116]) te { zP pls m with cells:=(zP pls m).cells.set (decl ls x) (((zP pls m).cells.getD (decl ls x) []).set (zN S m i).1.toNat (zN S m e).1) }
  (fun _=>⟨h2,E.ok.some,by simpa using hcl⟩) (fun w0 w' P X tv hI hT=>?_)).mono (fun e' w'' hs=>zDM hst ?_ ?_ hs)
 ·refine(zL8 w0 w' Sb g cap P ls (zP pls m) X tv _ (q.length+4) (zN S m i) (zN S m e) hI hT hfew C.law E.ok hb (by omega) (by simp;omega) (by rw[hd1];exact hwi) (by rw[hd2];exact hwe) (by simp) te _ hte rfl).mono ?_
  rintro e' w'' ⟨rfl,hI'⟩
  refine⟨rfl,X,?_⟩
  have:(if te=0 then ({ zP pls m with cells:=(zP pls m).cells.set (decl ls x) (((zP pls m).cells.getD (decl ls x) []).set (zN S m i).1.toNat (zN S m e).1) }:Pl)else zP pls m)=if (zN S m i).2=0 then (if (zN S m e).2=0 then (if (zN S m i).1 < 0∨(((zP pls m).cells.getD (decl ls x) []).length:Int)≤(zN S m i).1 then zP pls m else { zP pls m with cells:=(zP pls m).cells.set (decl ls x) (((zP pls m).cells.getD (decl ls x) []).set (zN S m i).1.toNat (zN S m e).1) })else zP pls m)else zP pls m:=by
   rw[hte]
   by_cases a1:(zN S m i).2=0
   ·rw[if_pos a1,if_pos a1]
    by_cases a2:(zN S m e).2=0
    ·rw[if_pos a2,if_pos a2]
     by_cases a3:(zN S m i).1 < 0∨(((zP pls m).cells.getD (decl ls x) []).length:Int)≤(zN S m i).1
     ·rw[if_pos a3,if_pos a3,if_neg (by decide)]
     ·rw[if_neg a3,if_neg a3,if_pos rfl]
    ·rw[if_neg a2,if_neg a2,if_neg a2]
   ·rw[if_neg a1,if_neg a1,if_neg a1]
  rw[this]
  exact hI'
 ·rw[hte]
  by_cases a1:(zN S m i).2=0
  ·rw[if_pos a1,if_pos a1]
   by_cases a2:(zN S m e).2=0
   ·rw[if_pos a2,if_pos a2]
    by_cases a3:(zN S m i).1 < 0∨(((zP pls m).cells.getD (decl ls x) []).length:Int)≤(zN S m i).1
    ·rw[if_pos a3,if_pos a3,if_neg (by decide)]
    ·rw[if_neg a3,if_neg a3,if_pos rfl]
   ·rw[if_neg a2,if_neg a2,if_neg a2]
  ·rw[if_neg a1,if_neg a1,if_neg a1]
 ·rw[hte]
  by_cases a1:(zN S m i).2=0
  ·rw[if_pos a1,if_pos a1]
   by_cases a2:(zN S m e).2=0
   ·rw[if_pos a2,if_pos a2]
    by_cases a3:(zN S m i).1 < 0∨(((zP pls m).cells.getD (decl ls x) []).length:Int)≤(zN S m i).1
    ·rw[if_pos a3,if_pos a3,if_neg (by decide)];rfl
    ·rw[if_neg a3,if_neg a3,if_pos rfl];rfl
   ·rw[if_neg a2,if_neg a2,if_neg a2];rfl
  ·rw[if_neg a1,if_neg a1,if_neg a1];rfl
theorem zQv (hl:l < ls.length) {q:List ByteArray} {e:List Pop} (ht:ls[l]=zJm::q) (he:Ex e q) (hf:ps[l].form=⟨10,⟨#[]⟩,0,[],[],[e]⟩) :
  Calls Tryz.prog 55 #[.pointer (some ⟨Sb,0,none⟩),.agg (plA fv vv cv ov (zP pls m)),iv] w (zCA (zP pls (zAI S m).1) ((zAI S m).2.length:Nat) w):=by
 have E:=zDW C F
 have hpl:pls.length≤101:=by have:=C.both.len;have:=C.law.len;omega
 have hcl:0 < (zP pls m).cells.length:=by have:=E.ok.cells;omega
 have hiv:∃a n c,iv=.slice a n c:=by obtain⟨a,c,e,_⟩:=hi;exact⟨a,_,c,e⟩
 have hfew:=C.law.zDN hl
 rw[ht]at hfew
 have hnm:=((zE1 C h1 h2 h4).2.2.2 (by rw[hf];simp)).2 e (by rw[hf];simp)
 have hw:=zEd E he.2.2 (zB3 hfew (by simp) (fun y hy=>by simp[hy])) hnm
 have hst:=zJc C F hfin h1 h2 h4 hf
 have hqp:=(zBa he.1).ne
 obtain⟨te,hte⟩:∃te,te=if (zN S m e).2=0 then (if 50≤(zP pls m).out.length then 6 else 0)else (zN S m e).2:=⟨_,rfl⟩
 refine(zKu w Sb g cap l ls (zP pls m) fv vv cv ov iv _ hG hv (zFY hpl hK) E.ok C.law C.both.nested h2 hl ht (by simp) hiv (zB2 [112,114,105,110,116] _ (by decide)) (zB2 [112,114,105,110,116] _ (by decide)) (zB2 [112,114,105,110,116] _ (by decide)) (zB2 [112,114,105,110,116] _ (by decide)) (zCf [112,114,105,110,116]) (zB2 [112,114,105,110,116] _ (by decide)) te { zP pls m with out:=(zP pls m).out++[(zN S m e).1],line:=(zAp ls (l+1):Nat) }
  (fun _=>⟨E.ok.some,hcl⟩) (fun w0 w' P X tv hI hT=>?_)).mono (fun e' w'' hs=>zDM hst ?_ ?_ hs)
 ·refine(zIz w0 w' Sb g cap P l ls (zP pls m) X tv iv _ (zN S m e) hI hT C.law E.ok C.both.nested h2 hl hK.out (by simp;omega) (zB2 [112,114,105,110,116] _ (by decide)) (zCf [112,114,105,110,116]) hw hiv te _ hte rfl).mono ?_
  rintro e' w'' ⟨rfl,X',hI'⟩
  refine⟨rfl,X',?_⟩
  have:(if te=0 then ({ zP pls m with out:=(zP pls m).out++[(zN S m e).1],line:=(zAp ls (l+1):Nat) }:Pl)else zP pls m)=if (zN S m e).2=0 then (if 50≤(zP pls m).out.length then zP pls m else { zP pls m with out:=(zP pls m).out++[(zN S m e).1],line:=(zAp ls (l+1):Nat) })else zP pls m:=by
   rw[hte]
   by_cases a1:(zN S m e).2=0
   ·rw[if_pos a1,if_pos a1]
    by_cases a2:50≤(zP pls m).out.length
    ·rw[if_pos a2,if_pos a2,if_neg (by decide)]
    ·rw[if_neg a2,if_neg a2,if_pos rfl]
   ·rw[if_neg a1,if_neg a1,if_neg a1]
  rw[this]
  exact hI'
 ·rw[hte]
  show _=if (zN S m e).2=0 then (if 50≤(zP pls m).out.length then _ else _)else _
  by_cases a1:(zN S m e).2=0
  ·rw[if_pos a1,if_pos a1]
   by_cases a2:50≤(zP pls m).out.length
   ·rw[if_pos a2,if_pos a2,if_neg (by decide)]
   ·rw[if_neg a2,if_neg a2,if_pos rfl];rfl
  ·rw[if_neg a1,if_neg a1,if_neg a1]
 ·rw[hte]
  show _=((if (zN S m e).2=0 then (if 50≤(zP pls m).out.length then 1 else 2)else 1:Nat):Int)
  by_cases a1:(zN S m e).2=0
  ·rw[if_pos a1,if_pos a1]
   by_cases a2:50≤(zP pls m).out.length
   ·rw[if_pos a2,if_pos a2,if_neg (by decide)];rfl
   ·rw[if_neg a2,if_neg a2,if_pos rfl];rfl
  ·rw[if_neg a1,if_neg a1,if_neg a1];rfl
theorem doc_read (hil:S.input.length≤100) (hl:l < ls.length) {x:ByteArray} (ht:ls[l]=[zMw,x]) (hf:ps[l].form=⟨11,x,0,[],[],[]⟩) :
  Calls Tryz.prog 55 #[.pointer (some ⟨Sb,0,none⟩),.agg (plA fv vv cv ov (zP pls m)),iv] w (zCA (zP pls (zAI S m).1) ((zAI S m).2.length:Nat) w):=by
 have E:=zDW C F
 have hpl:pls.length≤101:=by have:=C.both.len;have:=C.law.len;omega
 have hcl:0 < (zP pls m).cells.length:=by have:=E.ok.cells;omega
 have hiv:∃a n c,iv=.slice a n c:=by obtain⟨a,c,e,_⟩:=hi;exact⟨a,_,c,e⟩
 have hst:=zLB C F hfin h1 h2 h4 hil hf
 obtain⟨te,hte⟩:∃te:Int,te=if S.input.length≤(zP pls m).read then 4 else 0:=⟨_,rfl⟩
 obtain⟨g1,g2,g3⟩:=zLh ls (zP pls m) x (S.input.getD (zP pls m).read 0)
 refine(zL4 w Sb g cap l ls (zP pls m) fv vv cv ov iv _ hG hv (zFY hpl hK) E.ok C.law C.both.nested h2 hl ht (by simp) hiv (zB2 [114,101,97,100] _ (by decide)) (zB2 [114,101,97,100] _ (by decide)) (zB2 [114,101,97,100] _ (by decide)) (zB2 [114,101,97,100] _ (by decide)) (zB2 [114,101,97,100] _ (by decide)) (zCf [114,101,97,100]) te { zBy ls (zP pls m) x (S.input.getD (zP pls m).read 0)with read:=(zP pls m).read+1,line:=(zAp ls (l+1):Nat) }
  (fun _=>⟨by show 0 < (zBy ls (zP pls m) x (S.input.getD (zP pls m).read 0)).zD.length;rw[g2];exact E.ok.some,by show 0 < (zBy ls (zP pls m) x (S.input.getD (zP pls m).read 0)).cells.length;rw[g3];exact hcl⟩) (fun w0 w' P X tv hb hI hT=>?_)).mono (fun e' w'' hs=>zDM hst ?_ ?_ hs)
 ·refine(zJo w0 w' Sb g cap P l ls (zP pls m) X tv iv _ S.input hI hT (hi.zH hb) hil C.law E.ok C.both.nested h2 hl (by simp) (zCf [114,101,97,100]) te _ hte rfl).mono ?_
  rintro e' w'' ⟨rfl,hI'⟩
  refine⟨rfl,X,?_⟩
  have:(if te=0 then ({ zBy ls (zP pls m) x (S.input.getD (zP pls m).read 0)with read:=(zP pls m).read+1,line:=(zAp ls (l+1):Nat) }:Pl)else zP pls m)=if S.input.length≤(zP pls m).read then zP pls m else { zBy ls (zP pls m) x (S.input.getD (zP pls m).read 0)with read:=(zP pls m).read+1,line:=(zAp ls (l+1):Nat) }:=by
   rw[hte]
   by_cases a1:S.input.length≤(zP pls m).read
   ·rw[if_pos a1,if_pos a1,if_neg (by decide)]
   ·rw[if_neg a1,if_neg a1,if_pos rfl]
  rw[this]
  exact hI'
 ·rw[hte]
  show _=if S.input.length≤(zP pls m).read then _ else _
  by_cases a1:S.input.length≤(zP pls m).read
  ·rw[if_pos a1,if_pos a1,if_neg (by decide)]
  ·rw[if_neg a1,if_neg a1,if_pos rfl];rfl
 ·rw[hte]
  show _=((if S.input.length≤(zP pls m).read then 1 else 3:Nat):Int)
  by_cases a1:S.input.length≤(zP pls m).read
  ·rw[if_pos a1,if_pos a1,if_neg (by decide)];rfl
  ·rw[if_neg a1,if_neg a1,if_pos rfl];rfl
end
namespace Rf
open Rt
theorem zPh (S:Rt.Src) (m:Mc):∀(vs:List (List Pop)) (acc:List Int),argsI S m vs acc=argsL (vs.map (zN S m)) acc
 | [],_=>rfl
 | e::r,acc=>by
  rw[argsI,List.map_cons,argsL,zPh S m r]
theorem zNV:∀(args:List (List ByteArray)) (a:List ByteArray),a∈args→∀y∈a,y∈joinC args
 | [],_,h=>by simp at h
 | [b],a,h=>by
  rw[List.mem_singleton.mp h]
  exact fun y hy=>hy
 | b::c::r,a,h=>fun y hy=>by
  rw[joinC]
  rcases List.mem_cons.mp h with rfl | h
  ·exact List.mem_append_left _ hy
  ·exact List.mem_append_right _ (List.mem_cons_of_mem _ (zNV (c::r) a h y hy))
theorem zNW:∀(args:List (List ByteArray)) (a:List ByteArray),a∈args→a.length≤(joinC args).length
 | [],_,h=>by simp at h
 | [b],a,h=>by
  rw[List.mem_singleton.mp h]
  exact Nat.le_refl _
 | b::c::r,a,h=>by
  rw[joinC,List.length_append,List.length_cons]
  rcases List.mem_cons.mp h with rfl | h
  ·omega
  ·have:=zNW (c::r) a h
   omega
theorem zKA:∀(args:List (List ByteArray)),(∀a∈args,0 < a.length)→args.length≤(joinC args).length
 | [],_=>by simp
 | [b],h=>by have:=h b (by simp);simp[joinC];omega
 | b::c::r,h=>by
  rw[joinC,List.length_append,List.length_cons]
  have:=zKA (c::r) (fun a ha=>h a (by simp at ha ⊢;right;exact ha))
  simp only[List.length_cons]at this ⊢
  omega
theorem exs_at {es:List (List Pop)} {ps:List (List ByteArray)} (h:Exs es ps):∀j (h1:j < es.length) (h2:j < ps.length),Ex es[j] ps[j]:=by
 induction h with
 | nil=>intro j h1;simp at h1
 | cons e p es ps he _ ih=>
  intro j h1 h2
  cases j with
  | zero=>exact he
  | succ j=>exact ih j (by simpa using h1) (by simpa using h2)
end Rf
open Rf Rt
section
variable {ps pls : List PL} {ls : List (List ByteArray)} {S : Rt.Src} {m : Mc} (C : Ctx ps pls ls S) (F : zGQ ps pls ls S m) (hfin : m.fin = 0) (hK : zET S m) {l : Nat} (h1 : l < ps.length) (h2 : m.line = (l : Int) + 1) (h4 : stp ps l ≠ [])
  (w : World) (Sb g cap : Nat) (iv fv vv cv ov : Value) (hG : zAg w Sb g cap ls) (hv : PlV w fv vv cv ov (zP pls m)) (hi : zBP w iv S.input)
include C F hfin hK h1 h2 h4 hG hv hi
theorem zKS (hl:l < ls.length) {z:ByteArray} {q:List ByteArray} {e:List Pop} {k:Int} (hk:k=5∨k=7) (hz:z=ifB∨z=zJU) (ht:ls[l]=z::q) (he:Ex e q) (hf:ps[l].form=⟨k,⟨#[]⟩,0,[],[],[e]⟩) :
  Calls Tryz.prog 55 #[.pointer (some ⟨Sb,0,none⟩),.agg (plA fv vv cv ov (zP pls m)),iv] w (zCA (zP pls (zAI S m).1) ((zAI S m).2.length:Nat) w):=by
 have E:=zDW C F
 have hpl:pls.length≤101:=by have:=C.both.len;have:=C.law.len;omega
 have hcl:0 < (zP pls m).cells.length:=by have:=E.ok.cells;omega
 have hiv:∃a n c,iv=.slice a n c:=by obtain⟨a,c,e,_⟩:=hi;exact⟨a,_,c,e⟩
 have hfew:=C.law.zDN hl
 rw[ht]at hfew
 have hnm:=((zE1 C h1 h2 h4).2.2.2 (by rw[hf];simp;omega)).2 e (by rw[hf];simp)
 have hw:=zEd E he.2.2 (zB3 hfew (by simp) (fun y hy=>by simp[hy])) hnm
 have hst:=zFT C F hfin h1 h2 h4 hk hf
 have hqp:=(zBa he.1).ne
 have hkd:kd ps l=5∨kd ps l=7:=by rw[zEN h1,hf];exact hk
 obtain⟨o1,o2⟩:=zM9 C.nst C.both C.law.len h1 hkd
 have hno:∀r:List UInt8,([105,102]==r)=false→([119,104,105,108,101]==r)=false→(z.toList==r)=false:=fun r a b=>by
  rcases hz with rfl | rfl
  ·exact zB2 [105,102] _ a
  ·exact zB2 [119,104,105,108,101] _ b
 obtain⟨te,hte⟩:∃te,te=(zN S m e).2:=⟨_,rfl⟩
 refine(zJf w Sb g cap l ls (zP pls m) fv vv cv ov iv _ hG hv (zFY hpl hK) E.ok C.law C.both.nested h2 hl ht (by simp) hiv (hno _ (by decide) (by decide)) (hno _ (by decide) (by decide)) (hno _ (by decide) (by decide)) (hno _ (by decide) (by decide)) (hno _ (by decide) (by decide)) (hno _ (by decide) (by decide)) te { zP pls m with line:=(zAp ls (if (zN S m e).1=0 then other ls l else l+1):Nat) }
  (fun _=>⟨E.ok.some,hcl⟩) (fun w0 w' P X tv hI hT=>?_)).mono (fun e' w'' hs=>zDM hst ?_ ?_ hs)
 ·refine(zIC w0 w' Sb g cap P l ls (zP pls m) X tv iv _ (zN S m e) hI hT C.law E.ok C.both.nested h2 hl o2 (by simp;omega) (hno _ (by decide) (by decide)) (hno _ (by decide) (by decide)) hw hiv _ rfl).mono ?_
  rintro e' w'' ⟨rfl,hI'⟩
  rw[hte]
  exact⟨rfl,X,hI'⟩
 ·rw[hte]
 ·rw[hte];split <;> rfl
theorem doc_call (hl:l < ls.length) {x:ByteArray} {args:List (List ByteArray)} {vs:List (List Pop)} (ht:ls[l]=zGZ::x::joinC args) (hx:Exs vs args) (hf:ps[l].form=⟨12,x,0,[],[],vs⟩) :
  Calls Tryz.prog 55 #[.pointer (some ⟨Sb,0,none⟩),.agg (plA fv vv cv ov (zP pls m)),iv] w (zCA (zP pls (zAI S m).1) ((zAI S m).2.length:Nat) w):=by
 have E:=zDW C F
 have hpl:pls.length≤101:=by have:=C.both.len;have:=C.law.len;omega
 have hcl:0 < (zP pls m).cells.length:=by have:=E.ok.cells;omega
 have hiv:∃a n c,iv=.slice a n c:=by obtain⟨a,c,e,_⟩:=hi;exact⟨a,_,c,e⟩
 have hfew:=C.law.zDN hl
 rw[ht]at hfew
 have hnm:=((zE1 C h1 h2 h4).2.2.2 (by rw[hf];simp)).2
 rw[hf]at hnm
 obtain⟨d1,d2,hst⟩:=zLC C F hfin h1 h2 h4 hf
 rw[zPh]at hst
 obtain⟨D,hD⟩:∃D,decl ls x=D+1:=⟨decl ls x-1,by omega⟩
 have hfr:(zP pls m).zD.length=m.zD.length:=zE9 ..
 have hpo:parts (List.drop 2 (zGZ::x::joinC args))=args:=zHJ args hx.is
 have hall:args.length≤1000:=by
  have h1:=zKA args (fun a ha=>(zBa (hx.is a ha)).ne)
  have:=hfew.1
  simp at this
  omega
 obtain⟨rs,hrs⟩:∃rs,rs=vs.map (zN S m):=⟨_,rfl⟩
 have hwk:∀j (h1:j < rs.length) (h2:j < (parts (List.drop 2 (zGZ::x::joinC args))).length),zCe ls (zP pls m) rs[j] (parts (List.drop 2 (zGZ::x::joinC args)))[j]:=by
  subst hrs
  rw[hpo]
  intro j j1 j2
  have j1':j < vs.length:=by simpa using j1
  rw[List.getElem_map]
  have hm:=List.getElem_mem j2
  refine zEd E (exs_at hx j j1' j2).2.2 (zB3 hfew ?_ ?_) (hnm _ (List.getElem_mem j1'))
  ·have:=zNW args _ hm
   simp only[List.length_cons]
   omega
  ·intro y hy
   exact List.mem_cons_of_mem _ (List.mem_cons_of_mem _ (zNV args _ hm y hy))
 rw[←hrs,hD]at hst
 obtain⟨te,hte⟩:∃te,te=if (argsL rs []).2=0 then (if 6≤(zP pls m).zD.length then 5 else 0)else (argsL rs []).2:=⟨_,rfl⟩
 refine(zL5 w Sb g cap l ls (zP pls m) fv vv cv ov iv _ hG hv (zFY hpl hK) E.ok C.law C.both.nested h2 hl ht (by simp) hiv (zB2 [99,97,108,108] _ (by decide)) (zCf [99,97,108,108]) te { zP pls m with zD:=(zP pls m).zD++[⟨D+1,(argsL rs []).1,(zP pls m).line⟩],line:=(zAp ls (D+1):Nat) }
  (fun _=>⟨by simp,hcl⟩) (fun w0 w' P X tv hI hT=>?_)).mono (fun e' w'' hs=>zDM hst ?_ ?_ hs)
 ·refine(zNv w0 w' Sb g cap P D ls (zP pls m) X tv _ rs hI hT hfew C.law E.ok C.both.nested (by simp) (by omega) hD (by rw[hfr];exact hK.hi) (by rw[hpo,hrs,List.length_map];exact hx.len) hwk (by rw[hpo];exact hall) te _ hte rfl).mono ?_
  rintro e' w'' ⟨rfl,X',hI'⟩
  refine⟨rfl,X',?_⟩
  have:(if te=0 then ({ zP pls m with zD:=(zP pls m).zD++[⟨D+1,(argsL rs []).1,(zP pls m).line⟩],line:=(zAp ls (D+1):Nat) }:Pl)else zP pls m)=if (argsL rs []).2=0 then (if 6≤(zP pls m).zD.length then zP pls m else { zP pls m with zD:=(zP pls m).zD++[⟨D+1,(argsL rs []).1,(zP pls m).line⟩],line:=(zAp ls (D+1):Nat) })else zP pls m:=by
   rw[hte]
   by_cases a1:(argsL rs []).2=0
   ·rw[if_pos a1,if_pos a1]
    by_cases a2:6≤(zP pls m).zD.length
    ·rw[if_pos a2,if_pos a2,if_neg (by decide)]
    ·rw[if_neg a2,if_neg a2,if_pos rfl]
   ·rw[if_neg a1,if_neg a1,if_neg a1]
  rw[this]
  exact hI'
 ·rw[hte]
  by_cases a1:(argsL rs []).2=0
  ·rw[if_pos a1,if_pos a1]
   by_cases a2:6≤(zP pls m).zD.length
   ·have a3:6≤m.zD.length:=by rw[←hfr];exact a2
    rw[if_pos a2,if_pos a3,if_neg (by decide)]
   ·have a3:¬6≤m.zD.length:=by rw[←hfr];exact a2
    rw[if_neg a2,if_neg a3,if_pos rfl];rfl
  ·rw[if_neg a1,if_neg a1,if_neg a1]
 ·split <;> rfl
theorem zLm (hl:l < ls.length) {k:Int} {z:ByteArray} (hk:(k=13∧z=zHD)∨(k=4∧z=endB)) (ht:ls[l]=[z]) (hf:ps[l].form=⟨k,⟨#[]⟩,0,[],[],[]⟩) :
  Calls Tryz.prog 55 #[.pointer (some ⟨Sb,0,none⟩),.agg (plA fv vv cv ov (zP pls m)),iv] w (zCA (zP pls (zAI S m).1) ((zAI S m).2.length:Nat) w):=by
 have E:=zDW C F
 have hpl:pls.length≤101:=by have:=C.both.len;have:=C.law.len;omega
 have hcl:0 < (zP pls m).cells.length:=by have:=E.ok.cells;omega
 have hiv:∃a n c,iv=.slice a n c:=by obtain⟨a,c,e,_⟩:=hi;exact⟨a,_,c,e⟩
 have hfr:(zP pls m).zD.length=m.zD.length:=zE9 ..
 have hlo:=hK.lo
 have hhi:=hK.hi
 have key:∀(te:Int) (p1:Pl),(te=0→0 < p1.zD.length∧0 < p1.cells.length)→(∀(w0 w':World) (P:Nat) (X:PlX),InS w0 w' Sb g cap ls P (zP pls m) X→Calls Tryz.prog 98 #[.pointer (some ⟨Sb,0,none⟩),.pointer (some ⟨P,0,none⟩)] w' fun e w''=>e=.returned (.int .i64 te)∧∃X',InS w0 w'' Sb g cap ls P (if te=0 then p1 else zP pls m) X')→
   Calls Tryz.prog 55 #[.pointer (some ⟨Sb,0,none⟩),.agg (plA fv vv cv ov (zP pls m)),iv] w (zCA (if te=0 then p1 else { zP pls m with fin:=te }) (if te=0 then 1+((Rf.top (zP pls m)).args.length:Int)else 1) w):=by
  intro te p1 hp1 hin
  rcases hk with⟨_,rfl⟩| ⟨_,rfl⟩
  ·exact zMp w Sb g cap l ls (zP pls m) fv vv cv ov iv _ hG hv (zFY hpl hK) E.ok C.law C.both.nested h2 hl ht (by simp) hiv (zB2 [114,101,116,117,114,110] _ (by decide)) (zB2 [114,101,116,117,114,110] _ (by decide)) (zCf [114,101,116,117,114,110]) te p1 hp1 hin
  ·exact zMq w Sb g cap l ls (zP pls m) fv vv cv ov iv _ hG hv (zFY hpl hK) E.ok C.law C.both.nested h2 hl ht (by simp) hiv (zB2 [101,110,100] _ (by decide)) (zB2 [101,110,100] _ (by decide)) (zB2 [101,110,100] _ (by decide)) (zCf [101,110,100]) te p1 hp1 hin
 obtain⟨s1,s2⟩:=zJd C F hfin h1 h2 h4 (k:=k) (by rcases hk with⟨a,_⟩| ⟨a,_⟩ <;> simp[a]) hf
 by_cases h0:m.zD.length < 2
 ·have hst:=s1 h0
  refine(key 1 (zP pls m) (fun h=>absurd h (by decide)) (fun w0 w' P X hI=>?_)).mono (fun e' w'' hs=>zDM hst ?_ ?_ hs)
  ·refine(zMN w0 w' Sb g cap P ls (zP pls m) X hI (by omega)).mono ?_
   rintro e' w'' ⟨rfl,hI'⟩
   rw[if_neg (by decide)]
   exact⟨rfl,X,hI'⟩
  ·rw[if_neg (by decide)]
  ·rw[if_neg (by decide)];rfl
 ·obtain⟨c,c1,c2,hst⟩:=s2 h0
  obtain⟨n,hn⟩:∃n,m.zD.length=n+1+1:=⟨m.zD.length-2,by omega⟩
  refine(key 0 { zP pls m with zD:=(zP pls m).zD.dropLast,line:=(zAp ls (c+1):Nat) } (fun _=>⟨by rw[List.length_dropLast,hfr];omega,hcl⟩) (fun w0 w' P X hI=>?_)).mono (fun e' w'' hs=>zDM hst ?_ ?_ hs)
  ·refine(zMM w0 w' Sb g cap P ls (zP pls m) X n c hI (by rw[hfr];exact hn) (by omega) c2 c1 C.law C.both.nested).mono ?_
   rintro e' w'' ⟨rfl,X',hI'⟩
   rw[if_pos rfl]
   exact⟨rfl,X',hI'⟩
  ·rw[if_pos rfl]
  ·rw[if_pos rfl];omega
end
theorem step_doc {ps pls:List PL} {ls:List (List ByteArray)} {S:Rt.Src} {m:Mc} (C:Ctx ps pls ls S) (F:zGQ ps pls ls S m) (hfin:m.fin=0) (hK:zET S m) (hil:S.input.length≤100)
  (w:World) (Sb g cap:Nat) (iv fv vv cv ov:Value) (hG:zAg w Sb g cap ls) (hv:PlV w fv vv cv ov (zP pls m)) (hi:zBP w iv S.input) :
  Calls Tryz.prog 55 #[.pointer (some ⟨Sb,0,none⟩),.agg (plA fv vv cv ov (zP pls m)),iv] w (zCA (zP pls (zAI S m).1) ((zAI S m).2.length:Nat) w):=by
 obtain⟨l,h1,h2,h3,h4⟩:=F.line
 have hl:l < ls.length:=by rw[←C.len];exact h1
 have hli:=C.both.form hl
 rw[show ((l+1:Nat):Int)=(l:Int)+1 from rfl,zDd C.nst h1]at hli
 have hsk:zAL ps[l].form.kind=true∨ps[l].form.kind=4:=by
  unfold zAK at h3
  rw[zHU C.nst h1]at h3
  by_cases a:zAL ps[l].form.kind=true
  ·exact Or.inl a
  ·rw[if_neg a]at h3
   by_cases b:ps[l].form.kind=4
   ·exact Or.inr b
   ·rw[if_neg b]at h3;exact absurd h3 (by decide)
 generalize ht:ls[l]=t at hli
 generalize hf:ps[l].form=f at hli hsk
 cases hli with
 | empty=>exact absurd hsk (by decide)
 | var x hx=>exact absurd hsk (by simp[zAL])
 | array x n _ _ _ _=>exact absurd hsk (by simp[zAL])
 | proc x q _ _ _=>exact absurd hsk (by simp[zAL])
 | end_=>exact zLm C F hfin hK h1 h2 h4 w Sb g cap iv fv vv cv ov hG hv hi hl (Or.inr ⟨rfl,rfl⟩) ht hf
 | if_ p e he=>exact zKS C F hfin hK h1 h2 h4 w Sb g cap iv fv vv cv ov hG hv hi hl (Or.inl rfl) (Or.inl rfl) ht he hf
 | zKQ=>exact absurd hsk (by decide)
 | zGf p e he=>exact zKS C F hfin hK h1 h2 h4 w Sb g cap iv fv vv cv ov hG hv hi hl (Or.inr rfl) (Or.inr rfl) ht he hf
 | set1 x p e hx he=>exact doc_set1 C F hfin hK h1 h2 h4 w Sb g cap iv fv vv cv ov hG hv hi hl ht hx he hf
 | set2 x q i p e hx hq he=>exact doc_set2 C F hfin hK h1 h2 h4 w Sb g cap iv fv vv cv ov hG hv hi hl ht hx hq he hf
 | print p e he=>exact zQv C F hfin hK h1 h2 h4 w Sb g cap iv fv vv cv ov hG hv hi hl ht he hf
 | read x hx=>exact doc_read C F hfin hK h1 h2 h4 w Sb g cap iv fv vv cv ov hG hv hi hil hl ht hf
 | call x args vs hx he=>exact doc_call C F hfin hK h1 h2 h4 w Sb g cap iv fv vv cv ov hG hv hi hl ht he hf
 | zEw=>exact zLm C F hfin hK h1 h2 h4 w Sb g cap iv fv vv cv ov hG hv hi hl (Or.inl ⟨rfl,rfl⟩) ht hf
end Go.Proofs.YthleadfkfnnadaaGreat
