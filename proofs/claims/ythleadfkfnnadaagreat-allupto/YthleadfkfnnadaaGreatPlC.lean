/- What an expression is worth: the document's answer at a machine's place is what the machine's work comes to. -/
import Derived.Test.YthleadfkfnnadaaGreatJrD
import Derived.Deep.OwnRows
set_option maxHeartbeats 4000000
set_option maxRecDepth 100000
set_option linter.all false
namespace Go.Proofs.YthleadfkfnnadaaGreat
open Value renaming int->J,slice->I,string->O,pointer->H,bool->A,agg->L,tuple->E
open IntKind renaming i64->U
open Option renaming none->Z,some->Q
open Bool renaming false->W
open List renaming length->G
open Ending renaming returned->T
open Obj renaming cells->V
open Rf Rt Go.Proofs.Tryz
open Go.RowKit
variable {o x y:Ia} {l cap:Int} {r:Int×Int} {ls:List Ib} {t:Ib} {zL:List Rt.PL} {i a k lo n low g D:Nat} {p:Rf.Pl} {w:World}
namespace Rt
def Hr (m:Mc) (v:Int):Mc:={ m with zH:=m.zH.modify (G m.zH-1) (fun f=>⟨f.params++[v],f.call⟩) }
def Hq (m:Mc) (r:Rec):Mc:=if jt r=true then { m with line:=r.line,fin:=0 }else m
def G8 (m:Mc) (r:Rec):Mc:=
 if r.kind=2 then { Hq m r with zH:=(Hq m r).zH.dropLast }
 else if r.kind=3 then { Hq m r with zH:=(Hq m r).zH++[⟨[],r.value⟩] }
 else if r.kind=4 then jN (Hq m r) r.at_ r.value
 else if r.kind=5 then { Hq m r with output:=(Hq m r).output.dropLast }
 else if r.kind=6 then { Hq m r with taken:=wrap64 ((Hq m r).taken-1) }
 else if r.kind=7 then Hr (Hq m r) r.value
 else Hq m r
def Hs (m:Mc) (rs:List Rec):Mc:=rs.foldl G8 m
theorem IK {α:Type} (l:List α) (f g:α->α):(l.modify i f).modify i g=l.modify i (fun x=>g (f x)):=by
 apply List.ext_getElem?;intro j;simp only[qW];cases l[j]? with
 | none=>rfl
 | some x=>
  simp only[Qv,Xf];split <;> rfl
theorem modify_id {α:Type} (l:List α) (f:α->α) (h:∀x,l[i]?=Q x->f x=x):l.modify i f=l:=by
 apply List.ext_getElem?;intro j;rw[qW];cases e:l[j]? with
 | none=>rfl
 | some x=>
  simp only[Qv,Xf];split
  ·next hij=>subst hij;rw[h x e]
  ·rfl
theorem cellsOf_put (m:Mc) (s:Q9) (v:Int) (h:Q6 m s=true):Q6 (jN m s v) s=true:=by
 unfold Q6 at h ⊢;rw[yS]at h ⊢;have d:(cellsOf (jN m s v) s.line).length=(cellsOf m s.line).length:=by
  have f:Q6 m s=true:=by unfold Q6;rw[yS];exact h
  unfold jN;rw[zE f];by_cases hs:0 < s.line
  ·rw[zE hs];unfold cellsOf;simp only[YK];by_cases hb:0 < s.line/\s.line < (G m.values:Int)
   ·rw[zE hb,zE hb];simp only[qW];cases m.values[s.line.toNat]? with
    | none=>rfl
    | some x=>simp
   ·rw[zA hb,zA hb]
  ·rw[zA hs];have e:∀m:Mc,cellsOf m s.line=if s.line=0/\0 < G m.zH then (m.zH.getLastD Qe).params else []:=fun m=>by unfold cellsOf;rw[zA (fun h=>hs h.1)]
   rw[e,e];simp only[YK];by_cases hb:s.line=0/\0 < G m.zH
   ·rw[zE hb,zE hb];rw[xk,xk,List.getLast?_eq_getElem?,List.getLast?_eq_getElem?,qW];simp only[YK];rw[zJ (by omega)];simp
   ·rw[zA hb,zA hb]
 rw[d];exact h
theorem put_back {m:Mc} (s:Q9) {v:Int}:jN (jN m s v) s (ZL m s)=m:=by
 by_cases h:Q6 m s=true
 ·have y:=cellsOf_put m s v h;have d:=h;unfold Q6 at d;rw[yS]at d;rw[jN,zE y];unfold jN;rw[zE h];by_cases hs:0 < s.line
  ·rw[zE hs,zE hs];have k:ZL m s=((cellsOf m s.line)[s.cell.toNat]?).getD 0:=by unfold ZL;rw[zA (by omega)]
   have:(m.values.modify s.line.toNat (fun c=>c.set s.cell.toNat v)).modify s.line.toNat (fun c=>c.set s.cell.toNat (ZL m s))=m.values:=by
    rw[IK];refine modify_id _ _ (fun x hx=>?_);rw[List.set_set];have i:cellsOf m s.line=x:=by
     unfold cellsOf;have j:s.line < (G m.values:Int):=by
      have:=(qy.mp hx).1;omega
     rw[zE ⟨hs,j⟩,hx];rfl
    rw[k,i];rw[i]at d;rw[zJ (by omega)];exact List.set_getElem_self _
   simp only[this]
  ·rw[zA hs,zA hs];have k:ZL m s=((cellsOf m s.line)[s.cell.toNat]?).getD 0:=by unfold ZL;rw[zA (by omega)]
   have o:s.line=0/\0 < G m.zH:=by
    unfold cellsOf at d;rw[zA (by omega)]at d;by_cases hb:s.line=0/\0 < G m.zH
    ·exact hb
    ·rw[zA hb]at d;simp at d;omega
   have:(m.zH.modify (G m.zH-1) (fun f=>⟨f.params.set s.cell.toNat v,f.call⟩)).modify (G m.zH-1) (fun f=>⟨f.params.set s.cell.toNat (ZL m s),f.call⟩)=m.zH:=by
    rw[IK];refine modify_id _ _ (fun x hx=>?_);show (⟨(x.params.set s.cell.toNat v).set s.cell.toNat (ZL m s),x.call⟩:Fm)=x;rw[List.set_set];have i:cellsOf m s.line=x.params:=by
     unfold cellsOf;rw[zA (by omega),zE o,xk,List.getLast?_eq_getElem?,hx];rfl
    rw[k,i];rw[i]at d;rw[zJ (by omega)];simp
   simp only[YK,this]
 ·have y:jN m s v=m:=by unfold jN;rw[zA h]
  rw[y];unfold jN;rw[zA h]
theorem IC {α:Type} (f:α->α) (x:α):∀l:List α,(l++[x]).modify (G l) f=l++[f x]
 | []=>rfl
 | y::l=>by
  show y::(l++[x]).modify (G l) f=y::(l++[f x]);rw[IC f x l]
theorem addPars {m:Mc} (d:List Fm) (c:Int):∀(vs acc:List Int),m.zH=d++[⟨acc,c⟩]->(vs.map (fun v=>(⟨7,0,⟨0,0⟩,v⟩:Rec))).foldl G8 m={ m with zH:=d++[⟨acc++vs,c⟩] }
 | [],acc,h=>by
  simp only[Ye,List.foldl_nil,yX];rw[<-h]
 | v::vs,acc,h=>by
  have e:G8 m ⟨7,0,⟨0,0⟩,v⟩={ m with zH:=d++[⟨acc++[v],c⟩] }:=by
   show Hr (Hq m ⟨7,0,⟨0,0⟩,v⟩) v=_;show Hr m v=_;unfold Hr;rw[h];congr 1;rw[ze,yl,zu,IC]
  rw[qp,List.foldl_cons,e,addPars d c vs (acc++[v]) rfl];simp
theorem putS_with (m:Mc) (s:Q9) (v l f:Int):jN { m with line:=l,fin:=f } s v={ jN m s v with line:=l,fin:=f }:=by
 unfold jN;have:Q6 { m with line:=l,fin:=f } s=Q6 m s:=rfl;rw[this];split
 ·split <;> rfl
 ·rfl
theorem putS_taken (m:Mc) (s:Q9) (v t:Int):jN { m with taken:=t } s v={ jN m s v with taken:=t }:=by
 unfold jN;have:Q6 { m with taken:=t } s=Q6 m s:=rfl;rw[this];split
 ·split <;> rfl
 ·rfl
theorem undo_stored2 {m' m:Mc} (s:Q9):G8 m' (stored m s)=jN m' s (ZL m s):=rfl
theorem read_back (m:Mc) (d:Q9) (x t l:Int):jN ({ ({ jN m d x with taken:=t }:Mc)with line:=l,fin:=0 }) d (ZL m d)={ m with taken:=t,line:=l,fin:=0 }:=by
 have h:=putS_with { jN m d x with taken:=t } d (ZL m d) l 0;have f:=putS_taken (jN m d x) d (ZL m d) t;rw[put_back]at f;rw[f]at h;exact h
theorem IU {m:Mc} {r:Rec} {rs:List Rec}:Hs m (r::rs)=Hs (G8 m r) rs:=rfl
theorem undoM_nil {m:Mc}:Hs m []=m:=rfl
theorem Hx (m:Mc):G8 m ⟨6,0,⟨0,0⟩,0⟩={ m with taken:=wrap64 (m.taken-1) }:=rfl
theorem perform_undo (S:Src) (m:Mc) {f:qS} (D:m.fin=0) (H:G S.input<=100):(perform S m f).fin=0->∀l,Hs { (perform S m f).m with line:=l } (perform S m f).YU=m:=by
 have i:({ m with line:=m.line,fin:=0 }:Mc)=m:=by rw[<-D]
 have base:∀(m':Mc) (l:Int),G8 { m' with line:=l } (stay m.line)={ m' with line:=m.line,fin:=0 }:=fun _ _=>rfl;have h:∀(s:Q9) (v l:Int),Hs { jN m s v with line:=l } [stay m.line,stored m s]=m:=fun s v l=>by
  show G8 (G8 { jN m s v with line:=l } (stay m.line)) (stored m s)=m;rw[base];show jN { jN m s v with line:=m.line,fin:=0 } s (ZL m s)=m;rw[putS_with,put_back];exact i
 by_cases k8:f.kind=8
 ·have e:perform S m f=if (kP S m f).2=0 then ⟨0,wrap64 (m.line+1),[stay m.line,stored m (vx S m f.name)],jN m (vx S m f.name) (kP S m f).1⟩else ended m (kP S m f).2:=by unfold perform;simp only;rw[zE k8]
  rw[e];by_cases hv:(kP S m f).2=0
  ·rw[zE hv];intro _ l;exact h _ _ _
  ·rw[zA hv];intro d;exact absurd d hv
 by_cases k9:f.kind=9
 ·have e:perform S m f=if (zr S m f.index).2=0 then (if (kP S m f).2=0 then (match kX S m f.name (zr S m f.index).1 with | none=>ended m 3 | some s=>⟨0,wrap64 (m.line+1),[stay m.line,stored m s],jN m s (kP S m f).1⟩)else ended m (kP S m f).2)else ended m (zr S m f.index).2:=by unfold perform;simp only;rw[zA k8,zE k9];rfl
  rw[e];by_cases hx:(zr S m f.index).2=0
  ·rw[zE hx];by_cases hv:(kP S m f).2=0
   ·rw[zE hv];cases kX S m f.name (zr S m f.index).1 with
    | none=>intro d;exact absurd d (show ¬(3:Int)=0 by decide)
    | some s=>intro _ l;exact h _ _ _
   ·rw[zA hv];intro d;exact absurd d hv
  ·rw[zA hx];intro d;exact absurd d hx
 by_cases ud:f.kind=10
 ·have e:perform S m f=if (kP S m f).2=0 then (if 50<=G m.output then ended m 6 else ⟨0,wrap64 (m.line+1),[stay m.line,⟨5,0,⟨0,0⟩,0⟩],{ m with output:=m.output++[(kP S m f).1] }⟩)else ended m (kP S m f).2:=by unfold perform;simp only;rw[zA k8,zA k9,zE ud]
  rw[e];by_cases hv:(kP S m f).2=0
  ·rw[zE hv];by_cases ho:50<=G m.output
   ·rw[zE ho];intro d;exact absurd d (show ¬(6:Int)=0 by decide)
   ·rw[zA ho];intro _ l;show ({ m with output:=(m.output++[(kP S m f).1]).dropLast,line:=m.line,fin:=0 }:Mc)=m;rw[xo];exact i
  ·rw[zA hv];intro d;exact absurd d hv
 by_cases k11:f.kind=11
 ·have e:perform S m f=if m.taken < 0\/G S.input<=m.taken then ended m 4 else ⟨0,wrap64 (m.line+1),[stay m.line,stored m (vx S m f.name),⟨6,0,⟨0,0⟩,0⟩],{ jN m (vx S m f.name) ((S.input[m.taken.toNat]?).getD 0)with taken:=wrap64 (m.taken+1) }⟩:=by unfold perform;simp only;rw[zA k8,zA k9,zA ud,zE k11]
  rw[e];by_cases hin:m.taken < 0\/G S.input<=m.taken
  ·rw[zE hin];intro d;exact absurd d (show ¬(4:Int)=0 by decide)
  ·rw[zA hin];intro _ l;have y:wrap64 (m.taken+1)=m.taken+1:=yC _ (by omega);have j:wrap64 (m.taken+1-1)=m.taken:=by rw[yC _ (by omega)];omega
   rw[y];generalize (S.input[m.taken.toNat]?).getD 0=x;generalize vx S m f.name=sp;rw[IU,IU,IU,undoM_nil,Hx];have F:G8 (G8 { { jN m sp x with taken:=m.taken+1 }with line:=l } (stay m.line)) (stored m sp)={ m with taken:=m.taken+1,line:=m.line,fin:=0 }:=by
    rw[base { jN m sp x with taken:=m.taken+1 } l,undo_stored2];exact read_back m sp x (m.taken+1) m.line
   rw[F];simp only[j];exact i
 by_cases k5:f.kind=5\/f.kind=7
 ·have e:perform S m f=if (kP S m f).2=0 then ⟨0,if (kP S m f).1=0 then ky S.lk m.line else wrap64 (m.line+1),[stay m.line],m⟩else ended m (kP S m f).2:=by unfold perform;simp only;rw[zA k8,zA k9,zA ud,zA k11,zE k5]
  rw[e];by_cases hv:(kP S m f).2=0
  ·rw[zE hv];intro _ l;exact i
  ·rw[zA hv];intro d;exact absurd d hv
 by_cases k12:f.kind=12
 ·have e:perform S m f=if (argsI S m f.values []).2=0 then (if 6<=G m.zH then ended m 5 else ⟨0,wrap64 (xb S.zL f.name+1),[⟨2,m.line,⟨0,0⟩,0⟩],{ m with zH:=m.zH++[⟨(argsI S m f.values []).1,m.line⟩] }⟩)else ended m (argsI S m f.values []).2:=by unfold perform;simp only;rw[zA k8,zA k9,zA ud,zA k11,zA k5,zE k12]
  rw[e];by_cases hv:(argsI S m f.values []).2=0
  ·rw[zE hv];by_cases ho:6<=G m.zH
   ·rw[zE ho];intro d;exact absurd d (show ¬(5:Int)=0 by decide)
   ·rw[zA ho];intro _ l;show ({ m with zH:=(m.zH++[(⟨(argsI S m f.values []).1,m.line⟩:Fm)]).dropLast,line:=m.line,fin:=0 }:Mc)=m;rw[xo];exact i
  ·rw[zA hv];intro d;exact absurd d hv
 rw[iX S m f k8 k9 ud k11 (fun e=>k5 (Or.inl e)) (fun e=>k5 (Or.inr e)) k12];unfold Vv;by_cases hn:G m.zH < 2
 ·rw[zE hn];intro d;exact absurd d (show ¬(1:Int)=0 by decide)
 ·rw[zA hn];intro _ l;obtain⟨o,g,k,_,z,A⟩:=gH hn;rw[z,A];show ((g.params.map (fun v=>(⟨7,0,⟨0,0⟩,v⟩:Rec))).foldl G8 (G8 { { m with zH:=o }with line:=l } ⟨3,m.line,⟨0,0⟩,g.call⟩))=m;rw[addPars o g.call g.params [] rfl];show ({ m with zH:=o++[⟨[]++g.params,g.call⟩],line:=m.line,fin:=0 }:Mc)=m;rw[xN,<-k];exact i
theorem undo_step (S:Src) (m:Mc) (h0:m.fin=0) (ht:G S.input<=100):Hs (qd S m).1 (qd S m).2=m:=by
 unfold qd;rw[zE h0];simp only;split
 ·next hf=>exact perform_undo S m h0 ht hf _
 ·show ({ m with line:=m.line,fin:=0 }:Mc)=m;rw[<-h0]
def atM (S:Src):Nat->Mc
 | 0=>firstM S
 | n+1=>(qd S (atM S n)).1
def ku (S:Src) (i:Nat):List Rec:=(qd S (atM S i)).2
def xT (S:Src) (lo:Nat):Nat->List Rec
 | 0=>[]
 | k+1=>xT S lo k++ku S (lo+k)
theorem YT (S:Src) (d:Nat):∀k,xT S d (k+1)=ku S d++xT S (d+1) k
 | 0=>by simp[xT]
 | k+1=>by
  rw[xT,YT S d k,xT,yK,show d+(k+1)=d+1+k by omega]
def XS (l:List Rec):Prop:=∃r t,l=r::t/\jt r=true/\∀x∈t,jt x=W
theorem mx (S:Src) (m:Mc) {f:qS}:(perform S m f).fin=0->XS (perform S m f).YU:=by
 have h:jt (stay m.line)=true:=rfl;have i:XS [stay m.line]:=⟨_,_,rfl,h,by simp⟩;have d:∀r:Rec,jt r=W->XS [stay m.line,r]:=fun r hr=>⟨_,_,rfl,h,by simpa using hr⟩;unfold perform;simp only
 repeat' split
 all_goals first
  | (intro _;exact d _ rfl)
  | (intro _;exact i)
  | (intro j;exact absurd j (by assumption))
  | (intro j;simp[ended]at j;done)
  | skip
 ·intro _;exact⟨_,_,rfl,h,by simp[jt,stored]⟩
 ·intro _;exact⟨_,_,rfl,rfl,by simp⟩
 ·intro _;refine⟨_,_,rfl,rfl,?_⟩;intro x k;obtain⟨v,_,rfl⟩:=xr.mp k;rfl
theorem wQ (S:Src) {m:Mc} (h:m.fin=0):XS (qd S m).2:=by
 unfold qd;rw[zE h];simp only;split
 ·next hz=>exact mx S m hz
 ·exact⟨_,_,rfl,rfl,by simp⟩
theorem dU:∀(t l:List Rec),(∀x∈t,jt x=W)->(l=[]\/∃r u,l=r::u/\jt r=true)->restLen (t++l)=G t
 | [],l,_,hl=>by
  rcases hl with rfl | ⟨r,u,rfl,hr⟩
  ·rfl
  ·show restLen (r::u)=0;rw[restLen,zE hr]
 | x::t,l,ht,hl=>by
  show restLen (x::(t++l))=_;rw[restLen,zA (by rw[ht x (xB ..)];simp),dU t l (fun y hy=>ht y (zm _ hy)) hl];rfl
theorem im {a l:List Rec} (h:XS a) (f:l=[]\/∃r u,l=r::u/\jt r=true):qV (a++l)=G a:=by
 obtain⟨r,t,rfl,_,d⟩:=h;show restLen (t++l)+1=G t+1;rw[dU t l d f]
theorem IL (l:List Rec) (r:Rec) (t:List Rec) (i:jt r=true) (f:∀x∈t,jt x=W):∀j,j<=G t->lastFrom (l++r::t) (G l+j)=G l
 | 0,_=>by
  cases h:G l with
  | zero=>rfl
  | succ n=>
   show lastFrom (l++r::t) (n+1)=n+1;have d:(l++r::t)[n+1]?=Q r:=by rw[yU (by omega),h];simp
   rw[lastFrom,d];simp[i]
 | j+1,hj=>by
  show lastFrom (l++r::t) ((G l+j)+1)=_;have d:(l++r::t)[(G l+j)+1]?=Q t[j]:=by
   rw[yU (by omega),show (G l)+j+1-G l=j+1 by omega,List.getElem?_cons_succ,zJ (by omega)]
  rw[lastFrom,d];simp only[f _ (zj _),YL,ID];exact IL l r t i f j (by omega)
theorem lastAt_step {l a:List Rec} (h:XS a):He (l++a)=G l:=by
 obtain⟨r,t,rfl,f,d⟩:=h;unfold He;have:=IL l r t f d (G t) (zB _);rw[<-this];simp
def lowR (S:Src) (cap:Int):Nat->Nat->Nat
 | 0,lo=>lo
 | k+1,lo=>if cap < (xT S lo (k+1)).length then lowR S cap k (lo+1)else lo
theorem Ed (S:Src) (cap:Int):∀k lo,lo<=lowR S cap k lo
 | 0,_=>zB _
 | k+1,lo=>by
  have:=Ed S cap k (lo+1);unfold lowR;split <;> omega
theorem uX (S:Src) (cap:Int):∀k lo,lowR S cap k lo<=lo+k
 | 0,_=>zB _
 | k+1,lo=>by
  have:=uX S cap k (lo+1);unfold lowR;split <;> omega
theorem pA (S:Src) (cap:Int) (d:0<=cap):∀k lo,((xT S (lowR S cap k lo) (lo+k-lowR S cap k lo)).length:Int)<=cap
 | 0,lo=>by
  unfold lowR;simp[xT,d]
 | k+1,lo=>by
  have:=pA S cap d k (lo+1);unfold lowR;split
  ·rw[show lo+(k+1)=lo+1+k by omega];exact this
  ·next h=>
   rw[show lo+(k+1)-lo=k+1 by omega];omega
theorem Cf (S:Src) (cap:Int):∀k lo,lowR S cap k lo=lo\/∃l,lowR S cap k lo=l+1/\lo<=l/\cap < (xT S l (lo+k-l)).length
 | 0,_=>Or.inl rfl
 | k+1,lo=>by
  unfold lowR;split
  ·next h=>
   rcases Cf S cap k (lo+1)with e | ⟨l,e,hl,hc⟩
   ·exact Or.inr ⟨lo,e,zB _,by rw[show lo+(k+1)-lo=k+1 by omega];exact h⟩
   ·exact Or.inr ⟨l,e,by omega,by rw[show lo+(k+1)-l=lo+1+k-l by omega];exact hc⟩
  ·exact Or.inl rfl
theorem Ah (S:Src) (cap:Int) (h:((xT S lo k).length:Int)<=cap):lowR S cap k lo=lo:=by
 cases k with
 | zero=>rfl
 | succ k=>unfold lowR;rw[zA (by omega)]
theorem oD {S:Src} (h:∀i,lo<=i->i < lo+k->XS (ku S i)):xT S lo k=[]\/∃r u,xT S lo k=r::u/\jt r=true:=by
 cases k with
 | zero=>exact Or.inl rfl
 | succ k=>
  right;rw[YT];obtain⟨r,t,e,d,_⟩:=h lo (zB _) (by omega);exact⟨r,t++xT S (lo+1) k,by rw[e];rfl,d⟩
theorem pN (S:Src) (cap:Int) (y:0<=cap):∀k lo:Nat,(∀i,lo<=i->i < lo+k->XS (ku S i))->lo+k < 4611686018427387904->QR cap (xT S lo k) lo=(xT S (lowR S cap k lo) (lo+k-lowR S cap k lo),(lowR S cap k lo:Int))
 | 0,lo,_,_=>by
  rw[Vx _ (by simp[xT])];simp[xT,lowR]
 | k+1,lo,h,hlt=>by
  by_cases hcap:cap < (xT S lo (k+1)).length
  ·have f:=h lo (zB _) (by omega);have j:0 < (xT S lo (k+1)).length:=by omega
   rw[gJ _ ⟨hcap,j⟩];have o:qV (xT S lo (k+1))=(ku S lo).length:=by
    rw[YT];exact im f (oD (fun i h1 h2=>h i (by omega) (by omega)))
   have x:(xT S lo (k+1)).drop (qV (xT S lo (k+1)))=xT S (lo+1) k:=by
    rw[o,YT,List.drop_left'];rfl
   rw[x,yC _ (by omega)];have:=pN S cap y k (lo+1) (fun i h1 h2=>h i (by omega) (by omega)) (by omega);have d:lowR S cap (k+1) lo=lowR S cap k (lo+1):=by rw[lowR,zE hcap]
   rw[d,show lo+(k+1)=lo+1+k by omega];exact this
  ·rw[Vx _ (fun h=>hcap h.1)];have d:lowR S cap (k+1) lo=lo:=by rw[lowR,zA hcap]
   rw[d,show lo+(k+1)-lo=k+1 by omega]
def XY (S:Src) (n low:Nat) (marks:List Bool):Se:=⟨atM S n,xT S low (n-low),low,n,marks⟩
structure VK (S:Src) (cap:Int) (n low:Nat):Prop where
 run:∀i,i < n->(atM S i).fin=0
 le:low<=n
 room:((xT S low (n-low)).length:Int)<=cap
def ik (S:Src) (cap:Int) (n low:Nat):Nat:=lowR S cap (n+1-low) low
theorem VK.step {S:Src} (h:VK S cap n low) (f:0<=cap) (d:(atM S n).fin=0):VK S cap (n+1) (ik S cap n low):=by
 have j:=h.le;refine⟨fun i hi=>?_,?_,?_⟩
 ·by_cases e:i=n
  ·rw[e];exact d
  ·exact h.run i (by omega)
 ·have:=uX S cap (n+1-low) low;unfold ik;omega
 ·have:=pA S cap f (n+1-low) low;unfold ik;rw[show low+(n+1-low)=n+1 by omega]at this;exact this
theorem wh {S:Src} (h:VK S cap n low) (x:0<=cap) (j:(atM S n).fin=0) (z:n < 4611686018427387000) (mk:List Bool):Vl S cap (XY S n low mk)=XY S (n+1) (ik S cap n low) mk:=by
 have A:=h.le;have f:∀i,low<=i->i < low+(n+1-low)->XS (ku S i):=fun i h1 h2=>wQ S (by
  by_cases e:i=n
  ·rw[e];exact j
  ·exact h.run i (by omega))
 have o:=pN S cap x (n+1-low) low f (by omega);have d:xT S low (n-low)++ku S n=xT S low (n+1-low):=by
  rw[show n+1-low=(n-low)+1 by omega,xT,show low+(n-low)=n by omega]
 unfold Vl XY;simp only;have y:(qd S (atM S n)).2=ku S n:=rfl;rw[y,d,o,show low+(n+1-low)=n+1 by omega];have k:wrap64 ((n:Int)+1)=((n+1:Nat):Int):=by rw[yC _ (by omega)];omega
 rw[k];rfl
def IB (s:Se):Se:=⟨Hs s.m (s.YU.drop (He s.YU)),s.YU.take (He s.YU),s.low,wrap64 (s.idx-1),s.marks⟩
theorem VK.back {S:Src} (h:VK S cap (n+1) low) (d:low<=n):VK S cap n low:=by
 refine⟨fun i hi=>h.run i (by omega),d,?_⟩;have:=h.room;rw[show n+1-low=(n-low)+1 by omega,xT,ze]at this;omega
theorem seBack_at {S:Src} (h:VK S cap (n+1) low) (z:low<=n) (o:G S.input<=100) (y:n < 4611686018427387000) (mk:List Bool):IB (XY S (n+1) low mk)=XY S n low mk:=by
 have k:xT S low (n+1-low)=xT S low (n-low)++ku S n:=by
  rw[show n+1-low=(n-low)+1 by omega,xT,show low+(n-low)=n by omega]
 have f:=h.run n (by omega);have d:He (xT S low (n-low)++ku S n)=(xT S low (n-low)).length:=lastAt_step (wQ S f);unfold IB XY;simp only;rw[k,d,List.drop_left',J4]
 ·have j:=undo_step S (atM S n) f o;have x:Hs (atM S (n+1)) (ku S n)=atM S n:=j;rw[x];have i:wrap64 (((n+1:Nat):Int)-1)=(n:Int):=by rw[yC _ (by omega)];omega
  rw[i]
 ·rfl
 ·rfl
theorem last_lt {S:Src} (h:VK S cap (n+1) low) (d:low<=n):0 < (xT S low (n+1-low)).length:=by
 rw[show n+1-low=(n-low)+1 by omega,xT,show low+(n-low)=n by omega,ze];obtain⟨r,t,e,_⟩:=wQ S (h.run n (by omega));have:ku S n=r::t:=e;rw[this];simp only[yE];omega
end Rt
theorem wD {S:Rt.Src} (d:Good S) (f:XW S (Rt.firstM S)):∀n,XW S (Rt.atM S n)
 | 0=>f
 | n+1=>fK d (wD d f n)
theorem wC {S:Rt.Src} (d:iN S):∀n,iK (Rt.atM S n)
 | 0=>tS S
 | n+1=>(Kw d (wC d n)).1
section
variable (f:Nat -> Rf.Pl)
def trC:Nat->List Qg->List Value
 | _,[]=>[]
 | i,X::r=>(jh X.fv X.vv X.cv X.ov (f i)).toList++trC (i+1) r
theorem np:∀i xs (X:Qg),trC f i (xs++[X])=trC f i xs++(jh X.fv X.vv X.cv X.ov (f (i+G xs))).toList
 | i,[],X=>by simp[trC]
 | i,Y::r,X=>by
  rw[yF,trC,trC,np (i+1) r X,yK];simp only[yE];rw[show i+1+G r=i+(G r+1) by omega]
theorem uH:∀i (xs:List Qg) k (h:k < G xs) j (hj:j < 7),(trC f i xs)[k*7+j]?=Q ((jh xs[k].fv xs[k].vv xs[k].cv xs[k].ov (f (i+k)))[j]'(by simpa[jh] using hj))
 | _,[],k,h,_,_=>by simp at h
 | i,X::r,0,_,j,hj=>by
  have d:(jh X.fv X.vv X.cv X.ov (f i)).toList.length=7:=by simp[jh]
  rw[trC,Nat.zero_mul,xW,yp (by omega)];simp
 | i,X::r,k+1,h,j,hj=>by
  have d:(jh X.fv X.vv X.cv X.ov (f i)).toList.length=7:=by simp[jh]
  have:=uH (i+1) r k (by simpa using h) j hj;rw[trC,yU (by omega),d,show (k+1)*7+j-7=k*7+j by omega,this];simp only[yH];rw[show i+1+k=i+(k+1) by omega]
end
structure iQ where
 sb:Nat
 sg:Nat
 sc:Nat
 iv:Value
 tv:Value
 rv:Value
 mv:Value
 xs:List Qg
def Du (Y:iQ) (cap:Int) (n low:Nat):Array Value:=#[H (Q ⟨Y.sb,0,Z⟩),Y.iv,J U cap,Y.tv,Y.rv,J U n,J U low,Y.mv]
def sC (S:Rt.Src) (n:Nat):List Int:=(List.range n).map (fun i=>((ku S i).length:Int))
def ZN (zL:List Rt.PL) (S:Rt.Src) (i:Nat):Rf.Pl:=Rf.yT zL (Rt.atM S i)
structure vg (w:World) (C:Nat) (zL:List Rt.PL) (ls:List Ib) (S:Rt.Src) (cap:Int) (len n low:Nat) (mk:List Bool) (Y:iQ):Prop where
 block:w.heap[C]?=some (.cells (Du Y cap n low) 109 (0,0))
 src:jA w Y.sb Y.sg Y.sc ls
 qo:w.ownsRow 0 3 1 Y.iv S.input.length (xR S.input)
 tr:w.ownsRow 0 72 7 Y.tv (len+1) (trC (ZN zL S) 0 Y.xs)
 xl:Y.xs.length=len+1
 GV:∀i (h:i < Y.xs.length),Xd w 0 (ZN zL S i) Y.xs[i]
 oH:w.ownsRow 0 3 1 Y.rv len (xR (sC S len))
 Yw:w.ownsRow 0 4 1 Y.mv mk.length (mk.map Value.bool)
 iP:∀g,Y.rv.ownBlock=some g->Y.iv.ownBlock≠some g/\∀i (h:i < Y.xs.length),g∉xh (yO Y.xs[i] (ZN zL S i))
def Ev (C:Nat) (Y:iQ):List Nat:=C::(Y.tv.ownBlock.toList++Y.rv.ownBlock.toList++Y.mv.ownBlock.toList)
def Gn (zL:List Rt.PL) (S:Rt.Src):Nat->List Qg->List Nat
 | _,[]=>[]
 | i,X::r=>xh (yO X (ZN zL S i))++Gn zL S (i+1) r
def Dt (zL:List Rt.PL) (S:Rt.Src) (C:Nat) (Y:iQ):List Nat:=Ev C Y++(Y.iv.ownBlock.toList++Gn zL S 0 Y.xs)
theorem td {zL:List Rt.PL} {S:Rt.Src}:∀{i:Nat} {xs:List Qg} {k:Nat} (h:k < G xs) {g:Nat},g∈xh (yO xs[k] (ZN zL S (i+k)))->g∈Gn zL S i xs
 | _,[],k,h,_,_=>by simp at h
 | i,X::r,0,_,g,hg=>zY _ (by simpa using hg)
 | i,X::r,k+1,h,g,hg=>by
  refine zb _ (td (i:=i+1) (k:=k) (by simpa using h) ?_);rw[show i+1+k=i+(k+1) by omega];simpa using hg
theorem nM {zL:List Rt.PL} {S:Rt.Src}:∀{i:Nat} {xs:List Qg} {g:Nat},g∈Gn zL S i xs->∃k,∃h:k < G xs,g∈xh (yO xs[k] (ZN zL S (i+k)))
 | _,[],_,hg=>by simp[Gn]at hg
 | i,X::r,g,hg=>by
  rcases zd.mp hg with hg | hg
  ·exact⟨0,by simp,by simpa using hg⟩
  ·obtain⟨k,h,d⟩:=nM hg;refine⟨k+1,by simpa using h,?_⟩;rw[show i+(k+1)=i+1+k by omega];simpa using d
section
variable {w w':World} {C:Nat} {zL:List Rt.PL} {ls:List Ib} {S:Rt.Src} {cap:Int} {len n low:Nat} {mk:List Bool} {Y:iQ}
theorem YY {o:Option Nat} (h:o=Q g):g∈o.toList:=by rw[h];simp
theorem vg.stay (h:vg w C zL ls S cap len n low mk Y) (j:∀k∈Dt zL S C Y,w'.heap[k]?=w.heap[k]?) (o:∀k t,FG t->qm w k t->w'.heap[k]?=w.heap[k]?):vg w' C zL ls S cap len n low mk Y:=by
 have f:∀k∈Ev C Y,w'.heap[k]?=w.heap[k]?:=fun k hk'=>j k (zY _ hk');refine⟨(f C (xB ..)).trans h.block,h.src.stay o,yP h.qo (fun g hg=>j g (zb _ (zY _ (YY hg)))),yP h.tr (fun g hg=>f g ?_),h.xl,fun i hi=>?_,yP h.oH (fun g hg=>f g ?_),yP h.Yw (fun g hg=>f g ?_),h.iP⟩
 ·exact zm _ (zY _ (zY _ (YY hg)))
 ·have d:=h.GV i hi;refine⟨⟨fun r hr=>yP (d.own.rows r hr) (fun g hg=>j g (zb _ (zb _ (td (i:=0) hi ?_)))),d.own.apart⟩,d.fl,d.cl,d.new⟩;rw[xW];exact qU hr hg
 ·exact zm _ (zY _ (zb _ (YY hg)))
 ·exact zm _ (zb _ (YY hg))
theorem vg.lt (h:vg w C zL ls S cap len n low mk Y) {k:Nat} (hk:k∈Dt zL S C Y):k < w.heap.size:=by
 have d:∀{o:Option Nat} {g:Nat},g∈o.toList->o=Q g:=fun hg=>by simpa using hg
 rcases zd.mp hk with hk | hk
 ·rcases zw.mp hk with rfl | hk
  ·exact zQ h.block
  ·rcases zd.mp hk with hk | hk
   ·rcases zd.mp hk with hk | hk
    ·exact(h.tr.lt k (d hk)).2
    ·exact(h.oH.lt k (d hk)).2
   ·exact(h.Yw.lt k (d hk)).2
 ·rcases zd.mp hk with hk | hk
  ·exact(h.qo.lt k (d hk)).2
  ·obtain⟨i,f,hg⟩:=nM hk;rw[xW]at hg;exact(h.GV i f).own.lt k hg
theorem vg.zP (h:vg w C zL ls S cap len n low mk Y) (d:Below w.heap.size w w'):vg w' C zL ls S cap len n low mk Y:=
 h.stay (fun k hk=>d.block k (h.lt hk)) (fun k _ _ ⟨_,hc⟩=>d.block k (zQ hc))
theorem vg.cells (h:vg w C zL ls S cap len n low mk Y) (o:k<=len):∃g c X,Y.xs[k]?=Q X/\Y.tv=I (Q ⟨g,0,Z⟩) (len+1) c/\Xd w 0 (ZN zL S k) X/\∀j (hj:j < 7),w.cell? ⟨g,k*7+j,Z⟩=Q ((jh X.fv X.vv X.cv X.ov (ZN zL S k))[j]'(by simpa[jh] using hj)):=by
 have f:k < G Y.xs:=by rw[h.xl];omega
 have i:=uH (ZN zL S) 0 Y.xs k f;rw[xW]at i;obtain⟨g,c,e,_,_,_⟩:=yD h.tr (i 0 (by omega));refine⟨g,c,Y.xs[k],zJ f,e,h.GV k f,fun j hj=>?_⟩;obtain⟨g',x,d,_,_,r⟩:=yD h.tr (i j hj);rw[e]at d;injection d with d _ _;injection d with d;injection d with d;subst d;exact r
end
namespace Rf
open Rt
theorem cg (zL:List PL):∀(r:List PL) (n:Nat),nameErr zL (n+1) r=0->∀(i:Nat) (p:PL),r[i]?=Q p->qh zL (n+1+i) p=true
 | [],_,_,i,p,h=>by simp at h
 | q::r,n,h,i,p,hp=>by
  rw[nameErr]at h;split at h
  ·next hq=>
   cases i with
   | zero=>simp at hp;subst hp;exact hq
   | succ i=>
    have:=cg zL r (n+1) h i p (by simpa using hp);rw[show n+1+(i+1)=n+1+1+i by omega];exact this
  ·omega
theorem VU (x:Ia):∀(r:List PL) (n:Nat),0 < n->Rt.declFrom n r x≠0->∃i p,r[i]?=Q p/\isDecl p x=true/\Rt.declFrom n r x=n+i
 | [],_,_,h=>absurd rfl h
 | q::r,n,hn,h=>by
  rw[Rt.declFrom]at h ⊢;split
  ·next hq=>exact⟨0,q,rfl,hq,rfl⟩
  ·next hq=>
   rw[zA hq]at h;obtain⟨i,p,f,d,j⟩:=VU x r (n+1) (by omega) h;exact⟨i+1,p,by simpa using f,d,by omega⟩
theorem DT {s:Ia} {zL:List PL} (qo:List Int) (h:qx s=(0,0,zL)) (d:Lawful (vP s).2.2):Ctx ((rForms 0 (lines s) [kb]).2.drop 1) zL (vP s).2.2 (Zs s zL qo):=by
 obtain⟨N,M,L,F,j⟩:=JG h;have A:=Fw L;have D:ZM zL (vP s).2.2:=by
  have:=(eR s).2.2 (by rw[h]);rw[h]at this;exact this
 refine⟨A,D,rfl,rfl,d,fun n hl=>?_,j,?_⟩
 ·have f:n+1 < G zL:=by rw[A.len];omega
  have:=cg zL (zL.drop 1) 0 F n zL[n+1] (by rw[vp,Xs,zJ f]);rw[vU,zA (by omega),show ((n:Int)+1).toNat=n+1 by omega,zJ f];rw[show 0+1+n=n+1 by omega]at this;exact this
 ·have J:xb zL xP≠0:=fun e=>by
   rw[yJ,e,D.um]at j;exact absurd j (by decide)
  obtain⟨i,p,o,k,H⟩:=VU xP (zL.drop 1) 1 (by omega) J;have I:yJ zL xP=p.form:=by
   rw[yJ,show xb zL xP=1+i from H,yA,zA (by omega),xS];rw[vp]at o;rw[o];rfl
  have:=cg zL (zL.drop 1) 0 F i p o;rw[I]at j ⊢;unfold qh at this;rw[zA (by omega),zE j,zy]at this;have y:=this.2;unfold QJ at y;rw[zy]at y;have z:p.form.name=xP:=by
   unfold isDecl at k;simp at k;exact k.2
  have x:=y.1;rw[z,show (xP.toList==QN)=true by rw[show xP=⟨[109,97,105,110].toArray⟩from rfl,jl];decide]at x;simp at x;exact x
def Qr (zL:List PL) (k:Nat):Nat:=if (yA zL ((k:Int)+1)).kind=2 then (yA zL ((k:Int)+1)).cells.toNat else 0
def qu (ls:List Ib) (D:Nat) (cn:Nat->Nat):Pl:=⟨[⟨D+1,[],0⟩],List.replicate (G ls+1) 0,[]::(List.range (G ls)).map (fun k=>List.replicate (cn k) 0),0,[],(jc ls (D+1):Nat),0⟩
section
variable {ps zL:List PL} {ls:List Ib} {S:Rt.Src}
theorem Ctx.F5 (C:Ctx ps zL ls S):∃D:Nat,decl ls Yk=D+1/\D < G ls/\kd ps D=3/\xu ps (D+1)=[(D+1,3)]/\xb S.zL xP=D+1:=by
 have j:decl ls Yk≠0:=fun e=>by
  have f:=C.main;rw[yJ,C.both.Xh,show decl ls xP=0 from e,C.both.um]at f;exact absurd f (by decide)
 have o:=Qb ls Yk;obtain⟨D,i⟩:∃D,decl ls Yk=D+1:=⟨decl ls Yk-1,by omega⟩;have k:=C.len;have d:D < G ps:=by omega
 have h:kd ps D=3:=by
  have f:=C.main;rw[yJ,C.both.Xh,show decl ls xP=D+1 from i,show ((D+1:Nat):Int)=(D:Int)+1 from rfl,Xp C.dz d,<-Qm]at f;exact f
 refine⟨D,i,by omega,h,?_,?_⟩
 ·rw[opened (Or.inl h),eg C.dz d (by omega),h];rfl
 ·rw[C.Ja,XR,C.both.Xh];exact i
theorem gU (C:Ctx ps zL ls S):KA ps zL ls S (firstM S)/\∃D,decl ls Yk=D+1/\D < G ls/\yT zL (firstM S)=qu ls D (Qr zL):=by
 obtain⟨D,R,O,d3,N,d5⟩:=C.F5;have M:=C.law.len;obtain⟨j,W,I,V,H,U⟩:=C.stop (k:=D+1) (by omega) (by rw[N];simp);have L:(firstM S).line=(jc ls (D+1):Nat):=by
  show goOn S.zL S.lk 102 (wrap64 ((xb S.zL xP:Nat)+1))=_;rw[d5,<-C.go (by omega:D+1<=G ls)];congr 1;exact yC _ (by omega)
 have y:(firstM S).line=(j:Int)+1:=by rw[L,W];omega
 have o:kD zL (firstM S).line=D+1:=by rw[y,C.kD I H,U,N];rfl
 obtain⟨T,F⟩:=C.params O d3;have A:(yA zL ((D:Int)+1)).params=[]:=by
  have:=C.Gf;rw[yJ,C.both.Xh,show decl ls xP=D+1 from R]at this;exact this
 rw[A]at F;have d:(firstM S).values=zL.map (fun p=>ji p.form):=by
  show S.zL.map _=_;rw[C.Ja,Jz];rfl
 have x:=C.both.len;refine⟨⟨⟨j,I,y,V,H⟩,by simp[firstM],by simp[firstM],?_,?_,?_,?_⟩,D,R,O,?_⟩
 ·intro f z;have:f=⟨D+1,[],0⟩:=by
   have:frsOf zL (firstM S).zH (firstM S).line=[⟨kD zL (firstM S).line,[],0⟩]:=rfl;rw[this,o]at z;simpa using z
  rw[this];exact⟨by simp,by show D+1<=_;omega,by rw[zu];exact T,by rw[zu];exact F⟩
 ·intro f z;simp[firstM]at z
 ·rw[d,Jz];rfl
 ·simp[firstM]
 ·unfold yT qu;have J:∀l:Nat,l < G zL->((firstM S).values[l]?).getD []=ji (yA zL (l:Nat)):=fun l h=>by
   rw[d,yt,zJ h,yA,zA (by omega),xS,zJ h];rfl
  simp only[Pl.mk.injEq];refine⟨?_,?_,?_,rfl,rfl,L,rfl⟩
  ·show [_]=[_];rw[o];rfl
  ·unfold varsOf;apply qw
   ·simp[x]
   ·intro i h1 h2;simp only[qc,vn,List.getElem_replicate];split
    ·next hk=>
     rw[J i (by simpa using h1)];unfold ji;rw[zE hk];rfl
    ·rfl
  ·unfold Q8;rw[x,List.range_succ_eq_map,qp,Jz];congr 1
   ·rw[C.both.um];rfl
   ·refine vT (fun k hk=>?_);have Z:k < G ls:=by simpa using hk
    show (if (yA zL ((k+1:Nat):Int)).kind=2 then _ else _)=_;rw[show ((k+1:Nat):Int)=(k:Int)+1 from rfl];unfold Qr;split
    ·next hk2=>
     have:=J (k+1) (by omega);rw[show ((k+1:Nat):Int)=(k:Int)+1 from rfl]at this;show ((firstM S).values[k+1]?).getD []=_;rw[this];unfold ji;rw[zA (by omega)]
    ·rfl
theorem rM (C:Ctx ps zL ls S) (f:k < G ls):(((first ls[k]).toList==[97,114,114,97,121])=true->∃h:2 < ls[k].length,worth ls[k][2]=(Qr zL k:Nat)/\Qr zL k<=1000)/\(((first ls[k]).toList==[97,114,114,97,121])=W->Qr zL k=0):=by
 have hf:=C.both.form f;obtain⟨_,_,d,_⟩:=Ya hf;rw[show ((k+1:Nat):Int)=(k:Int)+1 from rfl]at hf d;unfold Qr;generalize ls[k]=t at *;generalize yA zL ((k:Int)+1)=fm at *;rw[d];cases hf with
 | array x n hx hn h1 h2=>exact⟨fun _=>⟨by simp,by simp;omega,by simp;omega⟩,fun h=>by simp[idx]at h⟩
 | _=>exact⟨fun h=>by simp[idx]at h,fun _=>rfl⟩
end
end Rf
theorem gA {z:Value}:(madeCells #[z] n).toList=List.replicate n z:=by
 apply qw
 ·simp[madeCells]
 ·intro i f d;simp[madeCells,Nat.mod_one]
theorem oy (w:World) (n:Nat) (j t:TypeId) (h:TypeInfo) (z:Value) (x:Tryz.prog.underlying j=some (.slice t)) (D:Tryz.prog.info? t=some h) (G:h.zero=some z) (F:h.size=1) (o:z.cells=#[z]) (y:h.bytes*n<=281474976710656) (A:n<=maxLen):∃w',(Instr.makeSlice j (.int .i64 (n:Int)) (.int .i64 (n:Int))).run Tryz.prog w=.ok (.slice (some ⟨w.heap.size,0,none⟩) n n) w'/\w'.ownsRow w.heap.size t 1 (.slice (some ⟨w.heap.size,0,none⟩) n n) n (List.replicate n z)/\Below w.heap.size w w'/\w.heap.size+1<=w'.heap.size:=by
 obtain⟨w1,i,f,d⟩:=run_make_full (P:=Tryz.prog) w w.heap.size j t h z 1 x D G F .i64 .i64 n y A (zB _);rw[o,Kn,gA]at f;exact⟨w1,i,f,⟨d.os,d.tape,d.output,d.size,fun k hk=>d.block k hk (by simp)⟩,(f.lt w.heap.size rfl).2⟩
theorem lp:List.replicate n (Value.int U 0)=xR (List.replicate n 0):=by simp[xR]
def bW (cn:Nat->Nat) (k i:Nat):List Int:=if i=0 then []else if i<=k then List.replicate (cn (i-1)) 0 else []
def Xg (n D:Nat) (cn:Nat->Nat) (k:Nat) (l:Int):Rf.Pl:=⟨[⟨D+1,[],0⟩],List.replicate (n+1) 0,(List.range (n+1)).map (bW cn k),0,[],l,0⟩
theorem sO (d:Nat->Nat):(⟨[⟨D+1,[],0⟩],List.replicate (n+1) 0,List.replicate (n+1) [],0,[],l,0⟩:Rf.Pl)=Xg n D d 0 l:=by
 unfold Xg;simp only[Rf.Pl.mk.injEq,jH,jJ];apply qw
 ·simp
 ·intro i j f;simp only[List.getElem_replicate,qc,vn];unfold bW;by_cases h:i=0
  ·rw[zE h]
  ·rw[zA h,zA (by omega)]
theorem sP (d:Nat->Nat) (h:d k=0):Xg n D d (k+1) l=Xg n D d k l:=by
 unfold Xg;simp only[Rf.Pl.mk.injEq,jH,jJ];refine vT (fun i _=>?_);unfold bW;by_cases h0:i=0
 ·rw[zE h0,zE h0]
 ·rw[zA h0,zA h0];by_cases h1:i<=k
  ·rw[zE h1,zE (by omega)]
  ·rw[zA h1];by_cases h2:i<=k+1
   ·rw[zE h2,show i-1=k by omega,h];rfl
   ·rw[zA h2]
theorem AO (d:Nat->Nat):Xg n D d (k+1) l={ Xg n D d k l with cells:=(Xg n D d k l).cells.set (k+1) (List.replicate (d k) 0) }:=by
 unfold Xg;simp only[Rf.Pl.mk.injEq,jH,jJ];refine cQ _ _ _ (fun _=>?_) (fun i hi=>?_)
 ·unfold bW;rw[zA (by omega),zE (zB _),zu]
 ·unfold bW;by_cases h0:i=0
  ·rw[zE h0,zE h0]
  ·rw[zA h0,zA h0];by_cases h1:i<=k
   ·rw[zE h1,zE (by omega)]
   ·rw[zA h1,zA (by omega)]
theorem AP (cn:Nat->Nat):Xg (G ls) D cn (G ls) (Rf.jc ls (D+1):Nat)=qu ls D cn:=by
 unfold Xg qu;simp only[Rf.Pl.mk.injEq,jH,jJ];rw[List.range_succ_eq_map,qp,Jz];congr 1;refine vT (fun i hi=>?_);have d:i < G ls:=by simpa using hi
 show bW cn (G ls) (i+1)=_;unfold bW;rw[zA (by omega),zE (by omega),zu]
theorem qm.ne {b:Nat} {t u:TypeId} (i:qm w a t) (f:qm w b u) (h:t≠u):¬a=b:=by
 rintro rfl;obtain⟨c,i⟩:=i;obtain⟨d,f⟩:=f;rw[i]at f;injection f with f;injection f with _ f;exact h f
theorem qm.lt {t:TypeId} (h:qm w a t):a < w.heap.size:=by
 obtain⟨c,h⟩:=h;exact zQ h
theorem qm.intro {t:TypeId} {c:Array Value} (h:w.heap[a]?=Q (V c t (0,0))):qm w a t:=⟨c,h⟩
abbrev eu:Array Value:=#[I Z 0 0,I Z 0 0,I Z 0 0,J U 0,I Z 0 0,J U 0,J U 0]
theorem A6 {S cap:Nat} (D:Nat) (cn:Nat->Nat) (hG:jA w S g cap ls) (hL:Lawful ls) (b1:Rf.nested ls=0) (hD:Rf.decl ls ⟨#[109,97,105,110]⟩=D+1) (p1:D < G ls) (hA:∀k (hk:k < G ls),((Rf.first ls[k]).toList==[97,114,114,97,121])=true->∃h:2 < ls[k].length,Rf.worth ls[k][2]=(cn k:Nat)/\cn k<=1000) (hZ:∀k (hk:k < G ls),((Rf.first ls[k]).toList==[97,114,114,97,121])=false->cn k=0):Calls Tryz.prog 54 #[H (Q ⟨S,0,Z⟩)] w fun e w'=>Below w.heap.size w w'/\∃fv vv cv ov,e=T (L (jh fv vv cv ov (qu ls D cn)))/\PlW w' w.heap.size fv vv cv ov (qu ls D cn):=by
 obtain⟨i0,j2,h9,h8,h7⟩:=yi XL;obtain⟨s0,l6,l0,k7,k6⟩:=yi cj;obtain⟨j0,l8,k5,k4,k3⟩:=yi Vz;have HG:=zD hG;have d3:=hL.len;have HL:=zD hL;have m9:=zD hA;have m5:=zD hZ;have m8:=zD (show ∀w',jA w' S g cap ls->Calls Tryz.prog 94 #[H (Q ⟨S,0,Z⟩),J U (((D+1:Nat):Int)+1)] w' fun e w''=>e=T (J U (Rf.jc ls (D+1)))/\Below w'.heap.size w' w'' from fun w' hG=>ai (D+1) hG (by omega) d3 b1);have HD:=zD hD;clear hG hL hA hZ b1 hD;go_enter func54,ntmps54;go_wp2_with fail;have d0:=(zI w.heap.size w).alloc (zB _) (V eu 72);have i7:=zN w (V eu 72);refine(qg _ (HG.u.zP d0) HL.u).mono ?_;generalize w.alloc (V eu 72)=wa at *;rintro e w1 ⟨rfl,g5⟩;rw[HD.u];have f6:=zU i7 g5;have d5:=d0.trans (g5.mono (B':=w.heap.size) d0.size);have a8:=zQ f6;have d2:=qG d5 f6;clear d0 i7 g5 f6 d5;have f5:=zN w1 (V eu 72);have b6:(w1.alloc (V eu 72)).heap.size=w1.heap.size+1:=by simp
 have k1:vC (w1.alloc (V eu 72)) w1.heap.size w1.heap.size ⟨[],[],[],0,[],0,0⟩ CW:=vC.start rfl rfl rfl rfl f5 (zB _);have j5:=(zI w1.heap.size w1).alloc (zB _) (V eu 72);go_wp2_with (at_builtin;refine wpList_append_lies _ rfl _ _ 70 rfl 0 130 j0 _ 3 40 underlying70 l8 k5 k4 k3 rfl (by decide) _ 0 [] rfl (zW _ _ _ _) ⟨w1.heap.size+1,0,Z⟩ 1 1 [J U ((D:Int)+1),I Z 0 0,J U 0] rfl rfl (World.news_of_block (cs:=#[J U ((D:Int)+1),I Z 0 0,J U 0]) (t:=130) (fr:=(0,0)) (by have:=zN (w1.alloc (V eu 72)) (V #[J U ((D:Int)+1),I Z 0 0,J U 0] 130);rw[b6]at this;exact this)) (by simp[Value.oneCell']) (by omega) (by unfold maxLen;omega) (by omega) (zo _) (w1.heap.size+1+1) (by simp) ?_);intro g' cap' M a9 a2 hat i8;have m0:g'=w1.heap.size+1+1:=by rcases hat with h | h;simp[Value.ownBlock]at h;exact h
 have j6:=(zI _ (w1.alloc (V eu 72))).alloc (zB _) (V #[J U ((D:Int)+1),I Z 0 0,J U 0] 130);have a6:vC (M.setCell ⟨w1.heap.size,0,Z⟩ (I (Q ⟨g',0,Z⟩) 1 cap')) w1.heap.size w1.heap.size ⟨[⟨D+1,[],0⟩],[],[],0,[],0,0⟩ ⟨I (Q ⟨g',0,Z⟩) 1 cap',I Z 0 0,I Z 0 0,I Z 0 0,[I Z 0 0],[]⟩/\_:=k1.cU (by rw[b6];omega) (zI _ _) j6 (I Z 0 0) ⟨D+1,[],0⟩ (zW _ _ _ _) a2 (I (Q ⟨g',0,Z⟩) 1 cap') a9 (fun q hq=>by simp[Value.ownBlock]at hq;subst hq;exact Or.inr (by rw[b6];omega));have g9:M.heap[w1.heap.size]?=Q (V eu 72 (0,0)):=(a2.block _ (by simp;omega) (by simp[Value.ownBlock])).trans (yR f5 _);have l5:w1.heap.size+3<=M.heap.size:=by omega
 clear m0 i8;have g3:=j5.trans a6.2;have a6:=a6.1;clear a2 hat j5 f5 b6 j6 k1 a9;have b8:(M.setCell ⟨w1.heap.size,0,Z⟩ (I (Q ⟨g',0,Z⟩) 1 cap')).heap.size=M.heap.size:=by simp[World.setCell]
 obtain⟨w6,R,a1,g1,i4⟩:=oy (M.setCell ⟨w1.heap.size,0,Z⟩ (I (Q ⟨g',0,Z⟩) 1 cap')) (G ls+1) 24 3 i0 (J U 0) underlying24 j2 h9 h8 rfl (by rw[h7];omega) (by unfold maxLen;omega);rw[b8]at R a1 i4;have a5:vC (w6.setCell ⟨w1.heap.size,1,Z⟩ (I (Q ⟨M.heap.size,0,Z⟩) (G ls+1) (G ls+1))) w1.heap.size w1.heap.size ⟨[⟨D+1,[],0⟩],List.replicate (G ls+1) 0,[],0,[],0,0⟩ ⟨I (Q ⟨g',0,Z⟩) 1 cap',I (Q ⟨M.heap.size,0,Z⟩) (G ls+1) (G ls+1),I Z 0 0,I Z 0 0,[I Z 0 0],[]⟩/\_:=a6.uU (by rw[b8];omega) g1 (I (Q ⟨M.heap.size,0,Z⟩) (G ls+1) (G ls+1)) (List.replicate (G ls+1) 0) (by rw[b8,qN,<-lp];exact a1);have g0:=g3.trans a5.2;have g8:=zU a6.block g1;have a5:=a5.1;rw[show ((G ls+1:Nat):Int)=(G ls:Int)+1 from rfl]at R;have b7:(w6.setCell ⟨w1.heap.size,1,Z⟩ (I (Q ⟨M.heap.size,0,Z⟩) (G ls+1) (G ls+1))).heap.size=w6.heap.size:=by simp[World.setCell]
 obtain⟨w8,N,a0,f9,i3⟩:=oy (w6.setCell ⟨w1.heap.size,1,Z⟩ (I (Q ⟨M.heap.size,0,Z⟩) (G ls+1) (G ls+1))) (G ls+1) 28 24 s0 (I Z 0 0) underlying28 l6 l0 k7 rfl (by rw[k6];omega) (by unfold maxLen;omega);rw[b7]at N a0 i3;have h0:vC (w8.setCell ⟨w1.heap.size,2,Z⟩ (I (Q ⟨w6.heap.size,0,Z⟩) (G ls+1) (G ls+1))) w1.heap.size w1.heap.size ⟨[⟨D+1,[],0⟩],List.replicate (G ls+1) 0,List.replicate (G ls+1) [],0,[],0,0⟩ ⟨I (Q ⟨g',0,Z⟩) 1 cap',I (Q ⟨M.heap.size,0,Z⟩) (G ls+1) (G ls+1),I (Q ⟨w6.heap.size,0,Z⟩) (G ls+1) (G ls+1),I Z 0 0,[I Z 0 0],List.replicate (G ls+1) (I Z 0 0)⟩/\_:=a5.EZ (by rw[b7];omega) f9 (I (Q ⟨w6.heap.size,0,Z⟩) (G ls+1) (G ls+1)) (G ls+1) rfl rfl (by rw[b7];exact a0);have j7:=g0.trans h0.2;have g7:=zU a5.block f9;rw[show ((G ls+1:Nat):Int)=(G ls:Int)+1 from rfl]at N;have d4:=(HG.u.zP (d2.u.1.trans (g3.mono (B':=w.heap.size) (by omega)))).top;have d6:=(HG.u.zP (d2.u.1.trans (g0.mono (B':=w.heap.size) (by omega)))).top;have n9:S < w.heap.size:=zt _ _ HG.u.top;have j8:¬S=w1.heap.size:=by omega
 have p0:¬w1.heap.size=S:=by omega
 have c4:=(X0 (i:=0) (zO M ⟨w1.heap.size,0,Z⟩ (I (Q ⟨g',0,Z⟩) 1 cap') S j8)).symm.trans d4;have c6:=(X0 (i:=0) (zO w6 ⟨w1.heap.size,1,Z⟩ (I (Q ⟨M.heap.size,0,Z⟩) (G ls+1) (G ls+1)) S j8)).symm.trans d6;clear d4 d6;have p4:M.cell? ⟨w1.heap.size,0,Z⟩=Q (I Z 0 0):=zC g9 0 (by simp);have p6:w6.cell? ⟨w1.heap.size,1,Z⟩=Q (I Z 0 0):=zC g8 1 (by simp[jh]);have p8:w8.cell? ⟨w1.heap.size,2,Z⟩=Q (I Z 0 0):=zC g7 2 (by simp[jh]);have z4:=zS g9;have z6:=zS g8;have z8:=zS g7;have o8:IntKind.i64.wrap ((G ls:Int)+1)=(G ls:Int)+1:=zl _ ⟨by omega,by omega⟩;have h5:=qG h0.1 j7;clear g9 g8 g7 g3 g1 g0 f9 j7 a6 a5 h0 a1 a0;go_wp2_with fail;generalize (w8.setCell ⟨w1.heap.size,2,Z⟩ (I (Q ⟨w6.heap.size,0,Z⟩) (G ls+1) (G ls+1)))=w9 at *;clear R N c4 c6 p4 p6 p8 z4 z6 z8 l5 b8 i4 b7 i3;generalize w6.heap.size=GC at *;go_loopw [5] (fun i wr=>∃(k:Nat) (X:Qg),k<=G ls/\i=J U ((k:Int)+1)/\X.cv=I (Q ⟨GC,0,Z⟩) (G ls+1) (G ls+1)/\(∀j,k < j->j<=G ls->X.kB[j]?=Q (I Z 0 0))/\vC wr w1.heap.size w1.heap.size (Xg (G ls) D cn k 0) X/\Below w.heap.size w wr/\wr.heap[w.heap.size]?=Q (V eu 72 (0,0)))
  (fun i _=>G ls+1-(intOf i).toNat)
 case atStart=>
  refine⟨0,_,zo _,rfl,rfl,fun j _ hj=>?_,by rw[<-sO];exact h5.u.1,d2.u.1.trans (h5.u.2.mono (B':=w.heap.size) (by omega)),(h5.u.2.block _ a8).trans d2.u.2⟩;rw[YP,zE (by omega)]
 case round=>
  obtain⟨k,X,hk,rfl,f7,b0,hO,c0,hR⟩:=hrel;have a3:=HG.u.zP c0;have cT:=a3.top;have o0:=zQ hO.block;have HI:=DA f7 b0 hO c0 hR;by_cases hlt:k < G ls
  ·have i9:(k:Int)+1<=(G ls:Int):=by omega
   clear f7 b0 hO c0 hR;go_wp2_with fail;refine(xz k a3 hlt d3).mono ?_;rintro e w2 ⟨rfl,f⟩;have d:=HI.u.2.2.1.zP f;have a4:=HI.u.2.2.2.1.trans (f.mono (B':=w.heap.size) HI.u.2.2.2.1.size);have A:=zU HI.u.2.2.2.2 f;have h6:=XX d a4 A;have HA:=zD (m9.u k hlt);have HZ:=zD (m5.u k hlt);cases hz:((Rf.first ls[k]).toList==[97,114,114,97,121])with
   | false=>
    have hcn:=HZ.u hz;clear f d a4 A a3 cT;generalize Rf.first ls[k]=z at *;go_wp2;go_roundw
    ·exact⟨k+1,X,by omega,by go_num,HI.u.1,fun j h1 h2=>HI.u.2.1 j (by omega) h2,by rw[sP _ hcn];exact h6.u.1,h6.u.2.1,h6.u.2.2⟩
    ·simp[intOf];omega
   | true=>
    obtain⟨d1,i1,hcn⟩:=HA.u hz;have F:=a3.zP f;have p2:=F.top;obtain⟨ad,c,cL,hst⟩:=F.row k hlt;have q2:w2.cell? ⟨w1.heap.size,2,Z⟩=Q X.cv:=zC d.block 2 (by simp[jh]);rw[HI.u.1]at q2;have i2:=HL.u.XO hlt;obtain⟨p3,c',he,_,hst⟩:=hst;injection he with he1 he2 he3;subst he1 he3;rcases hst with h | ⟨b,o,rfl,hst⟩
    ·rw[h]at d1;simp at d1
    have cX:=hst 2 d1;have o2:=i2.2 ls[k][2] (zj d1);have f8:(Xg (G ls) D cn k 0).cells.length=G ls+1:=by simp[Xg]
    obtain⟨g2,c2,e2,_,_,cG⟩:=yD d.eB (j:=k+1) (HI.u.2.1 (k+1) (by omega) (by omega));have l9:=yW d.eB (g:=GC) (by rw[HI.u.1];rfl);rw[HI.u.1,f8]at e2;have e2:g2=GC:=by simp at e2;exact e2.1.symm
    subst e2;obtain⟨gc,b9⟩:=l9;have zG:=zS b9 (k+1);have b3:qm w2 g2 24:=⟨gc,b9⟩;have g6:=F.tys k _ cL hlt b rfl;have n1:=b3.ne (qm.intro d.block) (by decide);have n2:=b3.ne F.ty.1 (by decide);have n3:=b3.ne F.ty.2 (by decide);have n4:=b3.ne g6 (by decide);have m1:=xK n1;have m2:=xK n2;have m3:=xK n3;have m4:=xK n4;have l1:=zQ d.block;have l2:=F.ty.1.lt;have l3:=F.ty.2.lt;have l4:=g6.lt;have k2:=zQ b9;have o7:=fun W=>run_make_row (P:=Tryz.prog) 24 3 i0 (J U 0) underlying24 j2 h9 h8 rfl U U (cn k) (by rw[h7];omega) (by omega) W;have o3:IntKind.i64.wrap ((k:Int)+1-1)=k:=by rw[show (k:Int)+1-1=(k:Int) by omega];exact zl _ ⟨by omega,by omega⟩
    have o4:IntKind.i64.wrap (k:Int)=k:=zl _ ⟨by omega,by omega⟩;have o9:(k:Int) < (G ls:Int):=by omega
    have n7:(k:Int)+1 < (G ls:Int)+1:=by omega
    have n8:(0:Int)<=(k:Int)+1:=by omega
    have o1:(2:Int) < (ls[k].length:Int):=by omega
    have m6:=zD i1;have j3:=(zI w2.heap.size w2).alloc (zB _) (V (madeCells #[J U 0] (cn k)) 3);have i6:(w2.alloc (V (madeCells #[J U 0] (cn k)) 3)).ownsRow w2.heap.size 3 1 (I (Q ⟨w2.heap.size,0,Z⟩) (cn k) (cn k)) (List.replicate (cn k) (0:Int)).length (xR (List.replicate (cn k) 0)):=by
     rw[qN,<-lp,<-gA];exact⟨by simp[madeCells],Or.inr ⟨_,_,_,rfl,zB _,zN w2 _,zB _,by unfold maxLen;omega,by simp[madeCells],by rw[yw (by simp[madeCells])]⟩⟩
    have b5:=d.F3 (i:=k+1) (g:=g2) (by have:=zQ d.block;omega) j3 (by rw[f8];omega) (by rw[HI.u.1];rfl) (HI.u.2.1 (k+1) (by omega) (by omega)) (I (Q ⟨w2.heap.size,0,Z⟩) (cn k) (cn k)) (List.replicate (cn k) 0) i6;rw[World.setCell_alloc_past _ _ _ _ k2,<-AO]at b5;have m7:=XX b5.1 (a4.trans (b5.2.mono (B':=w.heap.size) (by omega))) ((b5.2.block _ a8).trans A);clear j3 i6 b5;have x1:w2.heap.size≠w1.heap.size:=by omega
    have x2:w2.heap.size≠S:=by omega
    have x3:w2.heap.size≠g:=by omega
    have x4:w2.heap.size≠b:=by omega
    have x5:w2.heap.size≠g2:=by omega
    clear f d a4 A a3 cT b9 hst i2 F i1 HA HZ f8 b3 g6;generalize ls[k][2]=x at *;generalize ls[k].length=ll at *;generalize Rf.first ls[k]=z at *;go_wp2_with fail;go_region_held3 (fun w'=>w'.cell? ⟨w1.heap.size,2,Z⟩=Q (I (Q ⟨g2,0,Z⟩) (G ls+1) (G ls+1))/\w'.cell? ⟨S,0,Z⟩=Q (I (Q ⟨g,0,Z⟩) (G ls) cap)/\w'.cell? ⟨g,k,Z⟩=Q (I (Q ⟨b,o,Z⟩) ll c)/\w'.cell? ⟨b,o+2,Z⟩=Q (O x)) (go_keep) ((go_at_call 93;refine(bx x (by unfold maxLen;omega)).mono ?_;rintro e w' ⟨rfl,rfl⟩;rw[m6.u]));go_wp2;go_roundw
    ·obtain⟨f1,f2,f3⟩:=m7.u;refine⟨k+1,{ X with kB:=X.kB.set (k+1) (I (Q ⟨w2.heap.size,0,Z⟩) (cn k) (cn k)) },by omega,by go_num,HI.u.1,fun j h1 h2=>?_,f1.zP (zh _),f2.trans ((zh _).mono f2.size),zU f3 (zh _)⟩;rw[show ({ X with kB:=X.kB.set (k+1) (I (Q ⟨w2.heap.size,0,Z⟩) (cn k) (cn k)) }:Qg).kB=X.kB.set (k+1) (I (Q ⟨w2.heap.size,0,Z⟩) (cn k) (cn k))from rfl,List.getElem?_set_ne (by omega)];exact HI.u.2.1 j (by omega) h2
    ·simp[intOf];omega
  ·have i9:¬(k:Int)+1<=(G ls:Int):=by omega
   have l7:k=G ls:=by omega
   subst l7;clear f7 b0 hO c0 hR;go_wp2_with fail;refine(m8.u _ a3).mono ?_;rintro e w2 ⟨rfl,f⟩;have d:=(HI.u.2.2.1.zP f);have hq:=d.block;have q5:w2.cell? ⟨w1.heap.size,5,Z⟩=Q (J U 0):=zC hq 5 (by simp[jh]);have z5:=zS hq 5;obtain⟨a7,g4⟩:=d.Qj (Rf.jc ls (D+1):Nat);have k0:({ Xg (G ls) D cn (G ls) 0 with line:=(Rf.jc ls (D+1):Nat) }:Rf.Pl)=qu ls D cn:=by rw[<-AP];rfl
   rw[k0]at a7;have d7:=HI.u.2.2.2.1.trans ((f.mono (B':=w.heap.size) HI.u.2.2.2.1.size).trans (g4.mono (B':=w.heap.size) (by omega)));have j9:=(g4.block _ a8).trans (zU HI.u.2.2.2.2 f);obtain⟨xa,xc,ya,yc,za,zc,oa,oc,f1,f2,f3,f4⟩:=a7.ZX;have j4:=a7.block;have d8:jh X.fv X.vv X.cv X.ov (qu ls D cn)=#[I xa (qu ls D cn).zH.length xc,I ya (qu ls D cn).vars.length yc,I za (qu ls D cn).cells.length zc,J U (qu ls D cn).read,I oa (qu ls D cn).out.length oc,J U (qu ls D cn).line,J U (qu ls D cn).fin]:=by rw[f1,f2,f3,f4];rfl
   have A:=zU HI.u.2.2.2.2 f;have f0:0 < (qu ls D cn).zH.length:=by simp[qu]
   have d9:0 < (qu ls D cn).cells.length:=by simp[qu]
   obtain⟨n0,n1,n2,n3,n4,n5,n6⟩:=seven A;have zn:=zS A;have zq:=zS hq;obtain⟨y,b4⟩:∃y,y=qu ls D cn:=⟨_,rfl⟩;have j1:((Rf.jc ls (D+1):Nat):Int)=y.line:=by rw[b4];rfl
   rw[<-b4]at a7 d8 f0 d9 f1 f2 f3 f4;have i5:jh X.fv X.vv X.cv X.ov (Xg (G ls) D cn (G ls) 0)=#[I xa (G y.zH) xc,I ya (G y.vars) yc,I za (G y.cells) zc,J U y.read,I oa (G y.out) oc,J U 0,J U y.fin]:=by rw[f1,f2,f3,f4,b4];rfl
   rw[i5]at hq;have b2:=Xd.w7 (w0:=w) (a7.rows.mono (B':=w.heap.size) (by omega)) j9 d7 (zB _) (I xa (G y.zH) xc) (I ya (G y.vars) yc) (I za (G y.cells) zc) (J U y.read) (I oa (G y.out) oc) (J U y.line) (J U y.fin);have HF:=gN b2.2 (b2.1.whole f0 d9) d8 b4;obtain⟨q0,q1,q2,q3,q4,q6,q7⟩:=seven hq;have o5:¬w.heap.size=w1.heap.size:=by omega
   have o6:¬w1.heap.size=w.heap.size:=by omega
   rw[j1]at HF ⊢;clear d a7 f g4 d7 j9 A j4 d8 i5 b2 f1 f2 f3 f4 a3 hq k0 b4 f0 d9 q5 z5 j1;go_wp2_with fail;refine zT (v:=L #[I xa (G y.zH) xc,I ya (G y.vars) yc,I za (G y.cells) zc,J U y.read,I oa (G y.out) oc,J U y.line,J U y.fin]) ?_ rfl ?_
   ·simp[results,results54,go_sem,n0,n1,n2,n3,n4,n5,n6]
   ·obtain⟨h1,h2,h3,h4⟩:=HF.u;rw[<-h4];exact⟨h1,_,_,_,_,qB (fun a=>Ending.returned (Value.agg a)) h3.symm,h2⟩
section
attribute [local go_sem ↓] Go.wp_at_zero Go.wp_at_succ
theorem GG {B N:Nat} {w1:World} (h:Below B w w1) (i:B<=N) (a b c d e f g:Value):Below B w (W7 w1 N a b c d e f g):=yx (yx (yx (yx (yx (yx (yx h i _ _) i _ _) i _ _) i _ _) i _ _) i _ _) i _ _
section
variable {C:Nat} {zL:List Rt.PL} {ls:List Ib} {S:Rt.Src} {cap:Int} {len n low:Nat} {mk:List Bool} {Y:iQ}
theorem AD (h:vg w C zL ls S cap len n low mk Y) (hn:n<=len):Calls Tryz.prog 41 #[H (Q ⟨C,0,Z⟩)] w fun e w'=>Below w.heap.size w w'/\∃X,Y.xs[n]?=Q X/\Xd w 0 (ZN zL S n) X/\e=T (L (jh X.fv X.vv X.cv X.ov (ZN zL S n))):=by
 obtain⟨g,c,X,hX,j,hq,i⟩:=h.cells hn;obtain⟨c0,c1,c2,c3,c4,c5,c6,c7⟩:=xH h.block;rw[j]at c3;have t0:=i 0 (by omega);have t1:=i 1 (by omega);have t2:=i 2 (by omega);have W:=i 3 (by omega);have R:=i 4 (by omega);have O:=i 5 (by omega);have N:=i 6 (by omega);obtain⟨D,A,z,y,x,o,M,F,f1,f2,f3,f4⟩:=hq.ZX;have k:jh X.fv X.vv X.cv X.ov (ZN zL S n)=#[I D (ZN zL S n).zH.length A,I z (ZN zL S n).vars.length y,I x (ZN zL S n).cells.length o,J U (ZN zL S n).read,I M (ZN zL S n).out.length F,J U (ZN zL S n).line,J U (ZN zL S n).fin]:=by rw[f1,f2,f3,f4];rfl
 have HX:=XX hX hq k;have a0:(n:Int) < (len:Int)+1:=by omega
 simp only[k,yQ,zv,yH,qO]at t0 t1 t2 W R O N;have a2:=zQ h.block;have a1:g < w.heap.size:=(h.tr.lt g (by rw[j];rfl)).2;have m2:¬w.heap.size=C:=by omega
 have m4:¬w.heap.size=g:=by omega
 have f:=zN w (V #[I Z 0 0,I Z 0 0,I Z 0 0,J U 0,I Z 0 0,J U 0,J U 0] 72);have d:=(zI w.heap.size w).alloc (zB _) (V #[I Z 0 0,I Z 0 0,I Z 0 0,J U 0,I Z 0 0,J U 0,J U 0] 72);generalize ZN zL S n=p at *;go_enter func41,ntmps41;go_wp2_with fail;have z2:=zS f;obtain⟨r0,r1,r2,r3,r4,r5,r6⟩:=seven f;have e3:=cell_later d c3;have e5:=cell_later d c5;have u0:=cell_later d t0;have u1:=cell_later d t1;have u2:=cell_later d t2;have u3:=cell_later d W;have u4:=cell_later d R;have u5:=cell_later d O;have u6:=cell_later d N;have HW:=qG d f;generalize w.alloc (V #[I Z 0 0,I Z 0 0,I Z 0 0,J U 0,I Z 0 0,J U 0,J U 0] 72)=wz at *;go_region_held3 (fun w'=>w'.cell? ⟨C,3,Z⟩=Q (I (Q ⟨g,0,Z⟩) (len+1) c)/\w'.cell? ⟨C,5,Z⟩=Q (J U n)/\w'.cell? ⟨g,n*7,Z⟩=Q (I D (G p.zH) A)/\w'.cell? ⟨g,n*7+1,Z⟩=Q (I z (G p.vars) y)/\w'.cell? ⟨g,n*7+2,Z⟩=Q (I x (G p.cells) o)/\w'.cell? ⟨g,n*7+3,Z⟩=Q (J U p.read)/\w'.cell? ⟨g,n*7+4,Z⟩=Q (I M (G p.out) F)/\w'.cell? ⟨g,n*7+5,Z⟩=Q (J U p.line)/\w'.cell? ⟨g,n*7+6,Z⟩=Q (J U p.fin)) (go_keep) (fail);go_wp2_with fail;refine zT (v:=L #[I D (G p.zH) A,I z (G p.vars) y,I x (G p.cells) o,J U p.read,I M (G p.out) F,J U p.line,J U p.fin]) ?_ rfl ?_
 ·simp[results,results41,go_sem,r0,r1,r2,r3,r4,r5,r6]
 ·obtain⟨h1,h2,h3⟩:=HX.u;have hb:=GG HW.u.1 (zB _) (I D (G p.zH) A) (I z (G p.vars) y) (I x (G p.cells) o) (J U p.read) (I M (G p.out) F) (J U p.line) (J U p.fin);exact⟨hb.trans ((zh _).mono hb.size),X,h1,h2,by rw[h3]⟩
theorem uR (S:Rt.Src) (d:Nat):∀k j,(xT S d k).length<=(xT S d (k+j)).length
 | _,0=>zB _
 | k,j+1=>by
  rw[show k+(j+1)=(k+j)+1 from rfl,xT,ze];have:=uR S d k j;omega
theorem lu (h:vg w C zL ls S cap len n low mk Y) (V:n<=len) (M:low<=n) (W:len < 4611686018427387904) (R:(xT S low (n-low)).length<=1000000):Calls Tryz.prog 104 #[H (Q ⟨C,0,Z⟩)] w fun e w'=>e=T (J U ((xT S low (n-low)).length:Nat))/\Below w.heap.size w w':=by
 have O:=zD h;obtain⟨c0,c1,c2,c3,I,N,c6,c7⟩:=xH h.block;obtain⟨L,F,f⟩:=zK h.oH;rw[f]at I;go_enter func104,ntmps104;go_wp2_with fail;go_loopw [3,4] (fun a i wr=>∃k:Nat,low+k<=n/\i=J U ((low+k:Nat):Int)/\a=J U ((xT S low k).length:Nat)/\Below w.heap.size w wr) (fun _ i _=>n+1-(intOf i).toNat)
 case atStart=>exact⟨0,by omega,rfl,rfl,zI _ _⟩
 case round=>
  obtain⟨k,hk,rfl,rfl,d⟩:=hrel;have d4:=cell_later d I;have d5:=cell_later d N;have HB:=zD d;by_cases hlt:low+k < n
  ·have o:((low+k:Nat):Int) < (n:Int):=by omega
   obtain⟨g,cc,e,_,_,r⟩:=yD (yG O.u.oH d) (j:=low+k) (u:=J U ((ku S (low+k)).length:Nat)) (by
    rw[xR,sC,yt,yt,Xi (by omega)];rfl)
   rw[f]at e;injection e with e1 _ e3;subst e1 e3;have G:(xT S low k).length+(ku S (low+k)).length=(xT S low (k+1)).length:=by rw[xT,ze]
   have y:=uR S low (k+1) (n-low-(k+1));rw[show k+1+(n-low-(k+1))=n-low by omega]at y;have x:wrap64 (((xT S low k).length:Int)+((ku S (low+k)).length:Int))=((xT S low (k+1)).length:Nat):=by
    rw[show ((xT S low k).length:Int)+((ku S (low+k)).length:Int)=((xT S low (k+1)).length:Nat) by omega];exact yC _ ⟨by omega,by omega⟩
   have HS:=zD x;generalize hA:(xT S low k).length=A at *;generalize hD:(ku S (low+k)).length=D at *;go_wp2;go_roundw
   ·exact⟨k+1,by omega,by go_num,by rw[HS.u],HB.u⟩
   ·simp[intOf];omega
  ·have o:¬((low+k:Nat):Int) < (n:Int):=by omega
   have z:k=n-low:=by omega
   subst z;go_wp2;go_ret;exact⟨rfl,HB.u⟩
theorem BJ (h:vg w C zL ls S cap len n low mk Y) (j:n<=len) (f:low<=n) (k:len < 4611686018427387904) (i:(xT S low (n-low)).length<=1000000):Calls Tryz.prog 62 #[H (Q ⟨C,0,Z⟩)] w fun e w'=>e=T (E #[J U (low:Int),J U ((xT S low (n-low)).length:Nat)])/\Below w.heap.size w w':=by
 have x:=zD (lu h j f k i);obtain⟨M,L,I,G,F,D,o,A⟩:=xH h.block;generalize (xT S low (n-low)).length=R at *;go_enter func62,ntmps62;go_wp2_with fail;refine x.u.mono ?_;rintro e w1 ⟨rfl,d⟩;have z:=cell_later d o;have y:=zD d;go_wp2_with fail;refine zT (v:=E #[J U (low:Int),J U (R:Int)]) ?_ rfl ⟨rfl,y.u⟩;simp[results,results62,go_sem]
theorem mM (h:vg w C zL ls S cap len n low mk Y) (l:Int) (d:l < 1\/(G ls:Int) < l):Calls Tryz.prog 64 #[H (Q ⟨C,0,Z⟩),J U l] w fun e w'=>e=T (E #[A W,J U 8])/\Below w.heap.size w w':=by
 obtain⟨F,D,z,y,x,o,k,j⟩:=xH h.block;have i:=h.src.top;by_cases h1:l < 1
 ·go_enter func64,ntmps64;go_wp2_with fail;refine zT (v:=E #[A W,J U 8]) ?_ rfl ⟨rfl,zI _ _⟩;simp[results,results64,go_sem]
 ·have f:(G ls:Int) < l:=by omega
  go_enter func64,ntmps64;go_wp2_with fail;refine zT (v:=E #[A W,J U 8]) ?_ rfl ⟨rfl,zI _ _⟩;simp[results,results64,go_sem]
theorem th (h:vg w C zL ls S cap len n low mk Y) (o:G ls<=100) (d:Rf.nested ls=0) (l:Nat) (k:l < G ls) (j:xx ls l ls[l]=W):Calls Tryz.prog 64 #[H (Q ⟨C,0,Z⟩),J U ((l:Int)+1)] w fun e w'=>e=T (E #[A W,J U 8])/\Below w.heap.size w w':=by
 obtain⟨O,N,M,L,I,F,D,z⟩:=xH h.block;have y:=h.src.top;have i:=zD (fG l h.src k o d);rw[j]at i;go_enter func64,ntmps64;go_wp2_with fail;refine i.u.mono ?_;rintro e w1 ⟨rfl,f⟩;have x:=zD f;go_wp2_with fail;refine zT (v:=E #[A W,J U 8]) ?_ rfl ⟨rfl,x.u⟩;simp[results,results64,go_sem]
structure Ds (C:Nat) (zL:List Rt.PL) (ls:List Ib) (S:Rt.Src) (cap:Int) (len n low:Nat) (mk:List Bool) (Y Y':iQ) (w w':World):Prop where
 cur:vg w' C zL ls S cap len n low mk Y'
 vz:VM w w' (Ev C Y)
 own:∀k∈Dt zL S C Y',k∈Dt zL S C Y\/w.heap.size<=k
theorem vg.marked (h:vg w C zL ls S cap len n low mk Y) {c:Nat} (F:Y.mv=I (Q ⟨g,0,Z⟩) (G mk) c) (l:Nat) (b:Bool):Ds C zL ls S cap len n low (mk.set l b) Y Y w (w.setCell ⟨g,l,Z⟩ (A b)):=by
 have D:Y.mv.ownBlock=Q g:=by rw[F];rfl
 have o:=h.Yw;rw[F]at o;obtain⟨H,d⟩:=yW o rfl;have o:=(o.stored l (A b)).1;have y:qm w g 4:=⟨H,d⟩;have f:∀k,k≠g->(w.setCell ⟨g,l,Z⟩ (A b)).heap[k]?=w.heap[k]?:=fun k hk=>zO w ⟨g,l,Z⟩ _ k hk;have x:∀{t:TypeId} {z m:Nat} {v:Value} {xs:List Value},w.ownsRow 0 t z v m xs->t≠4->∀q,v.ownBlock=Q q->q≠g:=fun hr ht q hq e=>by
  obtain⟨J,j⟩:=yW hr hq;rw[e,d]at j;injection j with j;injection j with _ j;exact ht j.symm
 refine⟨⟨(f C (fun e=>?_)).trans h.block,h.src.stay (fun k t ht hk=>f k (fun e=>hk.ne y (by rcases ht with rfl | rfl | rfl <;> decide) e)),yP h.qo (fun q hq=>f q (x h.qo (by decide) q hq)),yP h.tr (fun q hq=>f q (x h.tr (by decide) q hq)),h.xl,fun i hi=>?_,yP h.oH (fun q hq=>f q (x h.oH (by decide) q hq)),?_,h.iP⟩,⟨rfl,rfl,rfl,by simp[World.setCell],fun k _ hn=>f k (fun e=>hn ?_)⟩,fun k hk=>Or.inl hk⟩
 ·rw[<-e,h.block]at d;injection d with d;injection d with _ d;exact absurd d (by decide)
 ·have hq:=h.GV i hi;refine⟨⟨fun r hr=>yP (hq.own.rows r hr) (fun q hq2=>f q (x (hq.own.rows r hr) (by rcases Yr hr with e | e | e <;> rw[e] <;> decide) q hq2)),hq.own.apart⟩,hq.fl,hq.cl,hq.new⟩
 ·rw[jD,bk,F];exact o
 ·rw[e];exact zm _ (zb _ (YY D))
theorem tg (h:vg w C zL ls S cap len n low mk Y) (M:G ls<=100) (d:Rf.nested ls=0) (l:Nat) (I:l < G ls) (F:xx ls l ls[l]=true) (hm:G mk=G ls+1) (b:Bool) (L:mk[l+1]?=Q b):Calls Tryz.prog 64 #[H (Q ⟨C,0,Z⟩),J U ((l:Int)+1)] w fun e w'=>e=T (E #[A (!b),J U 0])/\Ds C zL ls S cap len n low (mk.set (l+1) (!b)) Y Y w w':=by
 obtain⟨c0,c1,c2,c3,c4,c5,c6,z⟩:=xH h.block;have cS:=h.src.top;have D:=zD (fG l h.src I M d);rw[F]at D;obtain⟨g,c,i,_,_,O⟩:=yD h.Yw (j:=l+1) (u:=A b) (by rw[yt,L];rfl);rw[i]at z;have x:¬(l:Int)+1 < 1:=by omega
 have o:¬(G ls:Int) < (l:Int)+1:=by omega
 have h3:(l:Int)+1 < (G mk:Int):=by omega
 obtain⟨bc,f⟩:=yW h.Yw (g:=g) (by rw[i];rfl);have R:=zD (show ∀w1,Below w.heap.size w w1->_ from fun w1 hb1=>(h.zP hb1).marked i (l+1) (!b));have N:=(qm.intro h.block).ne (qm.intro f) (by decide);have y:=zD f;generalize (G mk)=ml at *;go_enter func64,ntmps64;go_wp2_with fail;refine D.u.mono ?_;rintro e w1 ⟨rfl,hb1⟩;have W:=zD (R.u w1 hb1);have d7:=cell_later hb1 z;have dM:=cell_later hb1 O;have zM:=zS (zU y.u hb1) (l+1);have V:=zD hb1;go_wp2_with fail;go_region;go_wp2_with fail;refine zT (v:=E #[A (!b),J U 0]) ?_ rfl ⟨rfl,?_⟩
 ·simp[results,results64,go_sem]
 ·have x:=W.u;have o:=zh (w1.setCell ⟨g,l+1,Z⟩ (A (!b)));exact⟨x.cur.zP o,((VM.jQ _ V.u).trans x.vz (vd.refl _ _)).trans (VM.jQ _ o) (vd.refl _ _),fun k hk=>Or.inl hk⟩
end
end
namespace Rf
open Rt
section
variable (S:Rt.Src) (m:Mc)
def Whole (e:List qM):Prop:=∀(st:List Int) (r:List qM),evalI S m (e++r) st=if (zr S m e).2=0 then evalI S m r (st++[(zr S m e).1])else (0,(zr S m e).2)
theorem au (o:qM) (v:Int) (h:∀st,workI S m st o=(st++[v],0)):zr S m [o]=(v,0)/\Whole S m [o]:=by
 have e:zr S m [o]=(v,0):=by
  unfold zr;rw[evalI,h,zE rfl,evalI];rfl
 refine⟨e,fun st r=>?_⟩;rw[e,zE rfl];show evalI S m (o::r) st=_;rw[evalI,h,zE rfl]
theorem eval_un {e:List qM} (j:Whole S m e) (o:qM) (g:Int->Int×Int) (h:∀st v,workI S m (st++[v]) o=if (g v).2=0 then (st++[(g v).1],0)else (st,(g v).2)) (i:∀v,(g v).2≠0->(g v).1=0):zr S m (e++[o])=(if (zr S m e).2=0 then g (zr S m e).1 else (0,(zr S m e).2))/\Whole S m (e++[o]):=by
 have d:∀st r,evalI S m (e++(o::r)) st=if (zr S m e).2=0 then (if (g (zr S m e).1).2=0 then evalI S m r (st++[(g (zr S m e).1).1])else (0,(g (zr S m e).1).2))else (0,(zr S m e).2):=by
  intro st r;rw[j st (o::r)];by_cases h0:(zr S m e).2=0
  ·rw[zE h0,zE h0,evalI,h];by_cases h1:(g (zr S m e).1).2=0
   ·rw[zE h1,zE h1,zE rfl]
   ·rw[zA h1,zA h1,zA h1]
  ·rw[zA h0,zA h0]
 have f:zr S m (e++[o])=(if (zr S m e).2=0 then g (zr S m e).1 else (0,(zr S m e).2)):=by
  show evalI S m (e++(o::[])) []=_;rw[d];by_cases h0:(zr S m e).2=0
  ·rw[zE h0,zE h0];by_cases h1:(g (zr S m e).1).2=0
   ·rw[zE h1,evalI];exact Z6 rfl h1.symm
   ·rw[zA h1];exact Z6 (i _ h1).symm rfl
  ·rw[zA h0,zA h0]
 refine⟨f,fun st r=>?_⟩;rw[yK,f];show evalI S m (e++(o::r)) st=_;rw[d];by_cases h0:(zr S m e).2=0
 ·rw[zE h0,zE h0]
 ·rw[zA h0,zA h0,zA h0]
theorem eval_bin {e f:List qM} (z:Whole S m e) (y:Whole S m f) (o:qM) (i:¬(o.code=1\/o.code=2\/o.code=3\/o.code=4)):zr S m (e++f++[o])=(if ¬(zr S m e).2=0 then (0,(zr S m e).2)else if ¬(zr S m f).2=0 then (0,(zr S m f).2)else xF o.code (zr S m e).1 (zr S m f).1)/\Whole S m (e++f++[o]):=by
 have x:∀st a b,workI S m (st++[a]++[b]) o=if (xF o.code a b).2=0 then (st++[(xF o.code a b).1],0)else (st,(xF o.code a b).2):=by
  intro st a b;unfold workI;rw[zA (fun q=>i (Or.inl q)),zA (fun q=>i (Or.inr (Or.inl q))),zA (fun q=>i (Or.inr (Or.inr (Or.inl q)))),zA (fun q=>i (Or.inr (Or.inr (Or.inr q))))];simp only[XV,xo]
 have k:∀a b,(xF o.code a b).2≠0->(xF o.code a b).1=0:=by
  intro a b;unfold xF
  repeat' split
  all_goals intro h;first | rfl | exact absurd rfl h
 have d:∀st r,evalI S m (e++(f++(o::r))) st=if (zr S m e).2=0 then (if (zr S m f).2=0 then (if (xF o.code (zr S m e).1 (zr S m f).1).2=0 then evalI S m r (st++[(xF o.code (zr S m e).1 (zr S m f).1).1])else (0,(xF o.code (zr S m e).1 (zr S m f).1).2))else (0,(zr S m f).2))else (0,(zr S m e).2):=by
  intro st r;rw[z st];by_cases h0:(zr S m e).2=0
  ·rw[zE h0,zE h0,y];by_cases h1:(zr S m f).2=0
   ·rw[zE h1,zE h1,evalI,x];by_cases h2:(xF o.code (zr S m e).1 (zr S m f).1).2=0
    ·rw[zE h2,zE h2,zE rfl]
    ·rw[zA h2,zA h2,zA h2]
   ·rw[zA h1,zA h1]
  ·rw[zA h0,zA h0]
 have j:zr S m (e++f++[o])=(if ¬(zr S m e).2=0 then (0,(zr S m e).2)else if ¬(zr S m f).2=0 then (0,(zr S m f).2)else xF o.code (zr S m e).1 (zr S m f).1):=by
  rw[yK];show evalI S m (e++(f++(o::[]))) []=_;rw[d];by_cases h0:(zr S m e).2=0
  ·rw[zE h0,zA (kW h0)];by_cases h1:(zr S m f).2=0
   ·rw[zE h1,zA (kW h1)];by_cases h2:(xF o.code (zr S m e).1 (zr S m f).1).2=0
    ·rw[zE h2,evalI];exact Z6 rfl h2.symm
    ·rw[zA h2];exact Z6 (k _ _ h2).symm rfl
   ·rw[zA h1,zE h1]
  ·rw[zA h0,zE h0]
 refine⟨j,fun st r=>?_⟩;rw[yK,yK,j];show evalI S m (e++(f++(o::r))) st=_;rw[d];by_cases h0:(zr S m e).2=0
 ·rw[zE h0,zA (kW h0)];by_cases h1:(zr S m f).2=0
  ·rw[zE h1,zA (kW h1)]
  ·rw[zA h1,zE h1,zA h1]
 ·rw[zA h0,zE h0,zA h0]
def celI (x:Ia) (v:Int):Int×Int:=match Rt.kX S m x v with
 | none=>(0,3)
 | some s=>(ZL m s,0)
theorem pj {e:List qM} (d:Whole S m e):zr S m (e++[⟨4,0,⟨#[]⟩⟩])=(if (zr S m e).2=0 then (wrap64 (-(zr S m e).1),0)else (0,(zr S m e).2))/\Whole S m (e++[⟨4,0,⟨#[]⟩⟩]):=
 eval_un S m d ⟨4,0,⟨#[]⟩⟩ (fun v=>(wrap64 (-v),0)) (fun st v=>by simp[workI]) (fun v h=>absurd rfl h)
theorem pk {e:List qM} (d:Whole S m e) (x:Ia):zr S m (e++[⟨3,0,x⟩])=(if (zr S m e).2=0 then celI S m x (zr S m e).1 else (0,(zr S m e).2))/\Whole S m (e++[⟨3,0,x⟩]):=by
 refine eval_un S m d ⟨3,0,x⟩ (celI S m x) (fun st v=>?_) (fun v h=>?_)
 ·unfold workI celI;simp only[XV,xo];cases Rt.kX S m x v <;> simp
 ·unfold celI at h ⊢;cases hc:Rt.kX S m x v with
  | none=>rfl
  | some s=>rw[hc]at h;exact absurd rfl h
theorem Ky (h:kp vJ o=true\/kp kL o=true\/kp kF o=true):¬(yI o=1\/yI o=2\/yI o=3\/yI o=4):=by
 rcases h with h | h | h
 ·have:=(px o).mpr h;omega
 ·have:=(iE o).mpr h;omega
 ·have:=(gn o).mpr h;omega
theorem XG {e:List qM} (h:Cm k t e):Whole S m e:=by
 induction h with
 | num x h=>exact(au S m _ (val x) (fun st=>by simp[workI])).2
 | br x h=>exact(au S m _ (ZL m (vx S m x)) (fun st=>by simp[workI])).2
 | neg p e _ ih=>exact(pj S m ih).2
 | par p e _ ih=>exact ih
 | rE x p e _ _ ih=>exact(pk S m ih x).2
 | t1 p e _ ih=>exact ih
 | t2 p o q e f _ ho _ ih1 ih2=>exact(eval_bin S m ih1 ih2 _ (Ky (Or.inl ho))).2
 | s1 p e _ ih=>exact ih
 | s2 p o q e f _ ho _ ih1 ih2=>exact(eval_bin S m ih1 ih2 _ (Ky (Or.inr (Or.inl ho)))).2
 | e1 p e _ ih=>exact ih
 | e2 p o q e f _ ho _ ih1 ih2=>exact(eval_bin S m ih1 ih2 _ (Ky (Or.inr (Or.inr ho)))).2
end
theorem FV (h:kp vJ o=true\/kp kL o=true\/kp kF o=true) (a b:Int):two a o.toList b=xF (yI o) a b:=by
 have d:∀l:List UInt8,(⟨l.toArray⟩:Ia).toList=l:=jl;rcases h with h | h | h
 ·rcases JO h with rfl | rfl | rfl
  ·rw[show (⟨#[42]⟩:Ia).toList=[42]from d [42]];simp[two,xF,yI]
  ·rw[show (⟨#[47]⟩:Ia).toList=[47]from d [47]];simp[two,xF,yI]
  ·rw[show (⟨#[37]⟩:Ia).toList=[37]from d [37]];simp[two,xF,yI]
 ·rcases JT h with rfl | rfl
  ·rw[show (⟨#[43]⟩:Ia).toList=[43]from d [43]];simp[two,xF,yI]
  ·rw[show (⟨#[45]⟩:Ia).toList=[45]from d [45]];simp[two,xF,yI]
 ·rcases VD h with rfl | rfl
  ·rw[show (⟨#[60]⟩:Ia).toList=[60]from d [60]];simp[two,xF,yI,Vi]
  ·rw[show (⟨#[61]⟩:Ia).toList=[61]from d [61]];simp[two,xF,yI,Vi]
end Rf
theorem rZ {a:Int×Int} (H:Y8 t) (F:Rf.split t=-1) (i:0 < G t) (hx:(t[0].toList==[45])=true) (L:Z5 ls p a (t.drop 1)):Z5 ls p (wrap64 (-a.1),a.2) t:=by
 intro w S g cap P v J I y;have R:=zD J;have N:=zD I;have z:=zD y;have T:=zD H;have O:=zD L;obtain⟨ad,cp,rfl,D⟩:=y.form;obtain⟨Z,d,rfl⟩:=y.qZ (by intro h;rw[h]at i;simp at i);go_enter func154,ntmps154;go_wp2_with fail;refine(JE z.u T.u).mono ?_;rintro e w1 ⟨rfl,j⟩;rw[F];obtain⟨W,U,V,k,M⟩:=(z.u.zP j).cell i;simp only[xJ,zx,Z9,jH,jJ]at k;obtain⟨⟨rfl,rfl⟩,k⟩:=k;have f:=zD j;simp only[qO]at M;generalize t[0]=x at *;go_wp2_with fail
 all_goals
  refine(O.u _ S g cap P _ (R.u.zP f.u) (N.u.zP f.u) (by first | exact xA.gone (by omega) rfl | exact(z.u.zP f.u).drop 1 _ _ rfl (by omega))).mono ?_;rintro e w2 ⟨rfl,o⟩;have A:=zD (f.u.trans (o.mono (B':=w.heap.size) f.u.size));go_wp2;go_ret2;exact⟨rfl,A.u⟩
theorem rY {a:Int×Int} (F:Y8 t) (I:Rf.split t=-1) (i:2<=G t) (hx:(t[0].toList==[45])=W) (hy:(t[0].toList==[40])=true) (M:Z5 ls p a ((t.take (G t-1)).drop 1)):Z5 ls p a t:=by
 intro w S g cap P v L J A;have T:=zD L;have O:=zD J;have k:=zD A;have U:=zD F;have R:=zD M;have hl:=F.1;obtain⟨ad,cp,rfl,H⟩:=A.form;obtain⟨tb,d,rfl⟩:=A.qZ (by intro h;rw[h]at i;simp at i);have o:0 < G t:=by omega
 go_enter func154,ntmps154;go_wp2_with fail;refine(JE k.u U.u).mono ?_;rintro e w1 ⟨rfl,j⟩;rw[I];obtain⟨ub,V,Z,y,N⟩:=(k.u.zP j).cell o;simp only[xJ,zx,Z9,jH,jJ]at y;obtain⟨⟨rfl,rfl⟩,y⟩:=y;have f:=zD j;simp only[qO]at N;generalize t[0]=x at *;go_wp2_with fail
 all_goals
  refine(R.u _ S g cap P _ (T.u.zP f.u) (O.u.zP f.u) (by first | exact(k.u.zP f.u).Ad 1 (G t-1) _ _ (by omega) rfl (by omega)| exact(k.u.zP f.u).Ad 1 (G t-1) _ _ (by omega) (by omega) (by omega))).mono ?_;rintro e w2 ⟨rfl,z⟩;have D:=zD (f.u.trans (z.mono (B':=w.heap.size) f.u.size));go_wp2;go_ret2;exact⟨rfl,D.u⟩
theorem worked_cel {a:Int×Int} (hL:Lawful ls) (H:V9 ls p) (hf:Y8 t) (hs:Rf.split t=-1) (J:3<=G t) (hx:(t[0].toList==[45])=W) (hy:(t[0].toList==[40])=W) (h1:Z5 ls p a ((t.take (G t-1)).drop 2)) (hr:r=if ¬a.2=0 then ((0:Int),a.2)else if a.1 < 0\/((p.cells.getD (Rf.decl ls t[0]) []).length:Int)<=a.1 then (0,3)else ((p.cells.getD (Rf.decl ls t[0]) []).getD a.1.toNat 0,0)):Z5 ls p r t:=by
 intro w S g cap P v hG hP hV;have HG:=zD hG;have HP:=zD hP;have HV:=zD hV;have HF:=zD hf;have HI:=zD h1;have a3:=zD hL;have a0:=zD H;have hl:=hf.1;obtain⟨ad,cp,rfl,b4⟩:=hV.form;obtain⟨tb,f,rfl⟩:=hV.qZ (by intro h;rw[h]at J;simp at J);have HR:=zD hr;clear hG hP hV hf h1 hL H hr;have a6:0 < G t:=by omega
 have b1:(0:Int) < (G t:Int):=by omega
 have b0:(1:Int) < (G t:Int):=by omega
 go_enter func154,ntmps154;go_wp2_with fail;refine(JE HV.u HF.u).mono ?_;rintro e w1 ⟨rfl,D⟩;rw[hs];have HC:Hd (∀w',xA w' (I (Q ⟨tb,f,Z⟩) (G t) cp) t->w'.cell? ⟨tb,f,Z⟩=Q (O t[0])):=zD (by
  intro w' h;obtain⟨b',o',cap',y,c0⟩:=h.cell a6;simp at y;obtain⟨⟨rfl,rfl⟩,rfl⟩:=y;exact c0)
 have ct:=HC.u _ (HV.u.zP D);have k:=zD D;clear D hs;generalize t[0]=x at *;go_wp2_with fail
 all_goals
  refine(HI.u _ S g cap P _ (HG.u.zP k.u) (HP.u.zP k.u) (by first | exact(HV.u.zP k.u).Ad 2 (G t-1) _ _ (by omega) rfl (by omega)| exact(HV.u.zP k.u).Ad 2 (G t-1) _ _ (by omega) (by omega) (by omega))).mono ?_;rintro e w2 ⟨rfl,T⟩;have j:=zD (k.u.trans (T.mono (B':=w.heap.size) k.u.size));clear T ct;obtain⟨a1,a2⟩:=a;by_cases ha:a2=0
  ·subst ha;have V:=HC.u _ (HV.u.zP j.u);obtain⟨cb,co,cc,cv,R⟩:=(HP.u.zP j.u).cells;have a7:=Qb ls x;have z:Rf.decl ls x < G p.cells:=by have:=a0.u.cells;omega
   obtain⟨dv,cd,N⟩:=R (Rf.decl ls x) z;have M:p.cells.getD (Rf.decl ls x) []=p.cells[Rf.decl ls x]:=by simp[z]
   have o:=zD (HR.u.trans (zA (by simp)));rw[M]at o;generalize p.cells[Rf.decl ls x]=cl at *;clear M R HR;obtain⟨d,hd⟩:∃d,d=Rf.decl ls x:=⟨_,rfl⟩;have HD:=zD hd;rw[<-hd]at cd z;clear hd a7;have b3:(d:Int) < (G p.cells:Int):=by omega
   have b7:(0:Int)<=(d:Int):=by omega
   have b5:G p.cells<=1000:=by have:=a0.u.cells;have:=a3.u.len;omega
   have a5:=zD N;obtain⟨a8,U,rfl,_⟩:=N;have HK:=XX cv V cd;go_wp2_with fail;go_region_held3 (fun w'=>w'.cell? ⟨P,2,Z⟩=Q (I (Q ⟨cb,co,Z⟩) (G p.cells) cc)/\w'.cell? ⟨tb,f,Z⟩=Q (O x)/\w'.cell? ⟨cb,co+d,Z⟩=Q (I a8 (G cl) U)) (first | go_keep | exact⟨cell_later (yh hb3) HK.u.1,cell_later (yh hb3) HK.u.2.1,cell_later (yh hb3) HK.u.2.2⟩) ((go_at_call 84;refine(qg x ((HG.u.zP j.u).zP (zh _)) a3.u).mono ?_;rintro e w3 ⟨rfl,hb3⟩;rw[<-HD.u]));have A:=yh hb3;have a4:=zD (a5.u.zP A);have F:=zD (j.u.trans (A.mono (B':=w.heap.size) j.u.size));clear hb3 A a5 V cv cd;by_cases hlo:a1 < 0
   ·go_wp2;go_ret2;exact⟨by rw[o.u.trans (zE (Or.inl hlo))];rfl,F.u⟩
   ·by_cases hhi:(G cl:Int)<=a1
    ·go_wp2;go_ret2;exact⟨by rw[o.u.trans (zE (Or.inr hhi))];rfl,F.u⟩
    ·obtain⟨i,rfl⟩:=yr (show 0<=a1 by omega);have L:i < G cl:=by omega
     obtain⟨ib,io,ic,y,ci⟩:=a4.u.get L;simp only[xJ,jH]at y;obtain⟨rfl,y⟩:=y;clear y;have a9:Hd (r=(cl[i],0)):=zD (o.u.trans ((zA (show ¬((i:Int) < 0\/(G cl:Int)<=(i:Int)) by omega)).trans (by simp[L])));have b2:(i:Int) < (G cl:Int):=by omega
     have b6:(0:Int)<=(i:Int):=by omega
     generalize cl[i]=rv at *;go_wp2;go_ret2;exact⟨by rw[a9.u];rfl,F.u⟩
  ·have b8:(a2 != 0)=true:=by simpa using ha
   go_wp2;go_ret2;exact⟨by rw[HR.u.trans (zE ha)];rfl,j.u⟩
theorem ey (T:Lawful ls) (k:V9 ls p) (z:Y8 t) (hs:Rf.split t=-1) (i:0 < G t) (a2:G t<=1) (hx:(t[0].toList==[45])=W) (hy:(t[0].toList==[40])=W) (L:r=if xi t[0]=true then (Rf.worth t[0],(0:Int))else (Rf.value ls p t[0],0)):Z5 ls p r t:=by
 intro w S g cap P v U R y;have HG:=zD U;have HP:=zD R;have V:=zD y;have HF:=zD z;have F:=zD T;have D:=zD k;obtain⟨ad,cp,rfl,N⟩:=y.form;obtain⟨J,d,rfl⟩:=y.qZ (by intro h;rw[h]at i;simp at i);have a0:=z.2 _ (zj i);have j:t[0].size<=maxLen:=by unfold maxLen;omega
 have HR:=zD L;clear U R y z T k L;have a1:¬(1:Int) < (G t:Int):=by omega
 have HT:Hd (∀w' c,xA w' (I (Q ⟨J,d,Z⟩) (G t) c) t->w'.cell? ⟨J,d,Z⟩=Q (O t[0])):=zD (by
  intro w' c h;obtain⟨b',o',cap',M,c0⟩:=h.cell i;simp at M;obtain⟨⟨rfl,rfl⟩,rfl⟩:=M;exact c0)
 go_enter func154,ntmps154;go_wp2_with fail;refine(JE V.u HF.u).mono ?_;rintro e w1 ⟨rfl,o⟩;rw[hs];have ct:=HT.u _ _ (V.u.zP o);have f:=zD o;generalize t[0]=x at *;go_wp2_with fail;refine(Yv x j).mono ?_;rintro e w2 ⟨rfl,rfl⟩;cases hn:xi x with
 | true=>
  go_wp2_with fail;refine(bx x j).mono ?_;rintro e w3 ⟨rfl,rfl⟩;go_wp2;go_ret2;exact⟨by rw[HR.u.trans (zE hn)];rfl,f.u⟩
 | false=>
  go_wp2_with fail;refine(wK x (HG.u.zP f.u) F.u (HP.u.zP f.u) D.u).mono ?_;rintro e w3 ⟨rfl,A⟩;have H:=zD (f.u.trans (A.mono (B':=w.heap.size) f.u.size));go_wp2;go_ret2;exact⟨by rw[HR.u.trans (zA (by rw[hn];simp))];rfl,H.u⟩
namespace Rf
open Rt
theorem vm {u:Ib} (h:Y8 t) (f:G u<=G t) (d:∀x∈u,x∈t):Y8 u:=⟨by have:=h.1;omega,fun x hx=>h.2 x (d x hx)⟩
theorem mH (S:Rt.Src) (m:Mc):∀(e:List qM) (st:List Int),(evalI S m e st).2≠0->(evalI S m e st).1=0
 | [],st,h=>absurd rfl h
 | o::r,st,h=>by
  rw[evalI]at h ⊢;split
  ·next h0=>rw[zE h0]at h;exact mH S m r _ h
  ·rfl
theorem Ch (l:List UInt8) (r:List UInt8):((⟨l.toArray⟩:Ia).toList==r)=(l==r):=by rw[jl]
theorem fg (h:yg x=true\/xi x=true):(x.toList==[45])=W/\(x.toList==[40])=W:=by
 constructor
 ·rw[ZF,kH];exact Jm h 45 (by decide) (by decide)
 ·rw[ZF,kH];exact Jm h 40 (by decide) (by decide)
theorem EY (h:yg x=true):xi x=W:=by
 cases hn:xi x with
 | false=>rfl
 | true=>
  exfalso;simp[yg]at h;simp[xi]at hn;have f:=h.1.2;have d:=hn.2;simp[qt]at f;simp[jo]at d;omega
theorem BP (p:Ib) (o:Ia) (q:Ib):(p++o::q).take (G p)=p/\(p++o::q).drop (G p+1)=q/\∃h:G p < (p++o::q).length,(p++o::q)[G p]=o:=by
 refine⟨by simp,?_,by simp,by simp⟩;rw[Zr,zp (by omega),show (G p)+1-G p=1 by omega];rfl
theorem rX {p:Ib}:((x::(p++[y])).take ((x::(p++[y])).length-1)).drop 1=p:=by
 rw[show (x::(p++[y])).length-1=G p+1 by simp,qz,jX,Yf,kG (zB _),Zp]
theorem BM {u:Ia} {p:Ib}:((x::u::(p++[y])).take ((x::u::(p++[y])).length-1)).drop 2=p:=by
 rw[show (x::u::(p++[y])).length-1=G p+2 by simp,qz,qz,jX,jX,Yf,kG (zB _),Zp]
section
variable {zL:List PL} {ls:List Ib} {S:Rt.Src} {m:Mc}
theorem dI {p q:Ib} {e f:List qM} (i:Y8 (p++o::q)) (h:split (p++o::q)=G p) (d:kp vJ o=true\/kp kL o=true\/kp kF o=true) (k:Z5 ls (yT zL m) (zr S m e) p) (j:Z5 ls (yT zL m) (zr S m f) q) (w1:Whole S m e) (w2:Whole S m f):Z5 ls (yT zL m) (zr S m (e++f++[⟨yI o,0,⟨#[]⟩⟩])) (p++o::q):=by
 obtain⟨A,z,y,x⟩:=BP p o q;have:=rb (ls:=ls) (p:=yT zL m) i h y (by rw[A];exact k) (by rw[z];exact j);rw[x,FV d]at this;rw[(eval_bin S m w1 w2 ⟨yI o,0,⟨#[]⟩⟩ (Ky d)).1];exact this
theorem JB (E:Env zL ls S m) {e:List qM} (h:Cm k t e):Y8 t->ZG (Rt.isVar zL (qJ S m)) (ZW zL (qJ S m)) e=true->Z5 ls (yT zL m) (zr S m e) t:=by
 induction h with
 | num x hx=>
  intro d i;obtain⟨z,n2⟩:=fg (Or.inr hx);have:=ey (p:=yT zL m) E.law E.ok d (QD (.num x hx)) Nat.zero_lt_one (zB 1) z n2 rfl;rw[show ([x]:Ib)[0]=x from rfl,zE hx]at this;rw[(au S m ⟨1,val x,⟨#[]⟩⟩ (val x) (fun st=>by simp[workI])).1,cB];exact this
 | br x hx=>
  intro d i;obtain⟨z,n2⟩:=fg (Or.inl hx);have:=ey (p:=yT zL m) E.law E.ok d (QD (.br x hx)) Nat.zero_lt_one (zB 1) z n2 rfl;have A:Rt.isVar zL (qJ S m) x=true:=by simpa[ZG] using i
  rw[show ([x]:Ib)[0]=x from rfl,zA (by rw[EY hx];simp),Bl E A]at this;rw[(au S m ⟨2,0,x⟩ (ZL m (vx S m x)) (fun st=>by simp[workI])).1];exact this
 | neg p e hp ih=>
  intro d i;rw[jm,zy]at i;have:=rZ (ls:=ls) (p:=yT zL m) d (QD (.neg p hp.is)) (by simp) (Ch [45] [45]) (ih (vm d (by simp) (fun x hx=>by simp[hx])) i.1);rw[(pj S m (XG S m hp)).1];by_cases h0:(zr S m e).2=0
  ·rw[zE h0];rw[h0]at this;exact this
  ·rw[zA h0];have D:(zr S m e).1=0:=mH S m e [] h0;rw[D,show wrap64 (-(0:Int))=0 from yC _ (by omega)]at this;exact this
 | par p e hp ih=>
  intro d i;refine rY (ls:=ls) (p:=yT zL m) d (QD (.par p hp.is)) (by simp) (Ch [40] [45]) (Ch [40] [40]) ?_;rw[rX];exact ih (vm d (by simp;omega) (fun x hx=>by simp[hx])) i
 | rE x p e hx hp ih=>
  intro d i;rw[jm,zy]at i;obtain⟨z,n2⟩:=fg (Or.inl hx);have A:ZW zL (qJ S m) x=true:=by simpa[ZG] using i.2
  have:=worked_cel (ls:=ls) (p:=yT zL m) E.law E.ok d (QD (.rE x p hx hp.is)) (by simp) z n2 (by rw[BM];exact ih (vm d (by simp;omega) (fun y hy=>by simp[hy])) i.1) rfl;rw[(pk S m (XG S m hp) x).1];obtain⟨F,H,G⟩:=GD E A;rw[show (x::qI::(p++[kM]))[0]=x from rfl,F]at this;by_cases h0:(zr S m e).2=0
  ·rw[zE h0];rw[zA (kW h0)]at this;unfold celI Rt.kX Q6 ZL;generalize (zr S m e).1=v at *;by_cases hr:v < 0\/((cellsOf m (xb S.zL x:Nat)).length:Int)<=v
   ·rw[zE hr]at this;rw[zA (by simp only[yS];omega)];exact this
   ·rw[zA hr]at this;rw[zE (by simp only[yS];omega)];simp only;rw[zA (by omega),<-xL];exact this
  ·rw[zA h0];rw[zE h0]at this;exact this
 | t1 p e _ ih=>exact ih
 | t2 p o q e f hp i hq ih1 ih2=>
  intro d j;rw[jm,jm,zy,zy]at j;exact dI d (wT hp.is i hq.is) (Or.inl i) (ih1 (vm d (by simp) (fun x hx=>by simp[hx])) j.1.1) (ih2 (vm d (by simp;omega) (fun x hx=>by simp[hx])) j.1.2) (XG S m hp) (XG S m hq)
 | s1 p e _ ih=>exact ih
 | s2 p o q e f hp i hq ih1 ih2=>
  intro d j;rw[jm,jm,zy,zy]at j;exact dI d (wV hp.is i hq.is) (Or.inr (Or.inl i)) (ih1 (vm d (by simp) (fun x hx=>by simp[hx])) j.1.1) (ih2 (vm d (by simp;omega) (fun x hx=>by simp[hx])) j.1.2) (XG S m hp) (XG S m hq)
 | e1 p e _ ih=>exact ih
 | e2 p o q e f hp i hq ih1 ih2=>
  intro d j;rw[jm,jm,zy,zy]at j;exact dI d (wU hp.is i hq.is) (Or.inr (Or.inr i)) (ih1 (vm d (by simp) (fun x hx=>by simp[hx])) j.1.1) (ih2 (vm d (by simp;omega) (fun x hx=>by simp[hx])) j.1.2) (XG S m hp) (XG S m hq)
end
end Rf
end Go.Proofs.YthleadfkfnnadaaGreat
