/- A step is taken back: a frame comes back, and its parameters. -/
import Derived.Test.YthleadfkfnnadaaGreatRnD
set_option maxHeartbeats 4000000
set_option maxRecDepth 100000
set_option linter.unusedSimpArgs false
namespace Go.Proofs.YthleadfkfnnadaaGreat
open Rt Go.Proofs.Tryz
open Go.RowKit
variable {cs:Array Value} {cap low:Int} {rs:List Rt.Rec} {tail:List Value} {X:ZK} {B g P i M:Nat} {S:Rt.Src} {ty:TypeId} {w w1:World}
section
attribute [local go_sem ↓] Go.wp_at_zero Go.wp_at_succ
namespace Rt
def lastFrom (rs:List Rec):Nat->Nat
 | 0=>0
 | k+1=>match rs[k+1]? with
  | some r=>if jt r=true then k+1 else lastFrom rs k
  | none=>lastFrom rs k
def G5 (rs:List Rec):Nat:=lastFrom rs (rs.length-1)
end Rt
def WdrP (P:Nat) (ty:TypeId) (cs:Array Value) (cap:Int) (rs:List Rt.Rec) (low:Int) (jv:Value) (w:World) (e:Ending) (w':World):Prop:=
 ∃jv' v,e=.returned v/\aD w' P ty (cs.setIfInBounds 9 jv') cap (rs.take (G5 rs)) low jv'/\KB P jv w w'/\jv'.ownBlock=jv.ownBlock/\w'.ownsRow w.heap.size 162 5 v (rs.drop (G5 rs)).length (xE (rs.drop (G5 rs)))
theorem recs_take (rs:List Rt.Rec) (k:Nat):xE rs=xE (rs.take k)++xE (rs.drop k):=by
 rw[<-Z0,kt]
theorem recs_news {n cap:Nat} (h:w.ownsRow B 162 5 (.slice (some ⟨g,0,none⟩) n cap) n (xE rs)) (k:Nat) (i:k<=rs.length) (j:Nat) (u:Value) (f:(xE (rs.drop k))[j]?=some u):w.cell? ((⟨g,k*5,none⟩:Addr).add j)=some u:=by
 obtain⟨g',x,d,_,_,o⟩:=yD h (j:=k*5+j) (u:=u) (by
  rw[recs_take rs k,yU (by rw[XB,jw];omega),XB,jw,vD i,vY];exact f)
 simp at d;obtain⟨rfl,rfl⟩:=d;rw[show (⟨g,k*5,none⟩:Addr).add j=⟨g,k*5+j,none⟩ by unfold Addr.add;split <;> simp_all];exact o
theorem recs_one {st:List Rt.Rec}:∀u∈xE st,u.oneCell'=true:=fun u hu=>by
 obtain⟨r,_,hr⟩:=List.mem_flatMap.mp hu;simp[YV]at hr;rcases hr with rfl | rfl | rfl | rfl | rfl <;> rfl
theorem wdr_end {wr:World} {jcap k:Nat} (G:P < w.heap.size) (h:aD wr P ty cs cap rs low (.slice (some ⟨g,0,none⟩) rs.length jcap)) (D:Below w.heap.size w wr) (A:k < rs.length) (j:G5 rs=k) {g1 cap1:Nat} (f:w1.ownsRow w.heap.size 162 5 (.slice (some ⟨g1,0,none⟩) (rs.length-k) cap1) (rs.length-k) (xE (rs.drop k))) (o:wr.grownBy w1 none):WdrP P ty cs cap rs low (.slice (some ⟨g,0,none⟩) rs.length jcap) w (.returned (.slice (some ⟨g1,0,none⟩) (rs.length-k) cap1)) (w1.setCell ⟨P,9,none⟩ (.slice (some ⟨g,0,none⟩) k jcap))/\w1.cell? ⟨P,9,none⟩=some (.slice (some ⟨g,0,none⟩) rs.length jcap)/\w1.frozen? ⟨P,9,none⟩=false:=by
 have x:Below wr.heap.size wr w1:=⟨o.os,o.tape,o.output,o.size,fun k A=>o.block k A (by simp)⟩;have y:=h.zP x;have hcut:=ES (n':=k) (a:=xE (rs.take k)) (b:=xE (rs.drop k)) (by rw[<-recs_take];exact y.own) (by omega) (by rw[XB,jw,vD (by omega)]);have F:10 < cs.size:=(Zd.mp h.GF).1;have z:∀q,(Value.slice (some ⟨g,0,none⟩) k jcap).ownBlock=some q->q≠P:=fun q hq e=>y.ne (by rw[<-e];exact hq);have i:∀q,(Value.slice (some ⟨g1,0,none⟩) (rs.length-k) cap1).ownBlock=some q->q≠P:=fun q hq e=>by
  have:=(f.lt q hq).1;omega
 have d:=D.trans (x.mono (B':=w.heap.size) D.size);refine⟨⟨.slice (some ⟨g,0,none⟩) k jcap,_,rfl,⟨zf y.block 9 _,?_,?_,?_,?_,h.ty⟩,⟨d.os,d.tape,d.output,zi d.size (by simp[World.setCell]),fun q hq hp _=>?_⟩,rfl,?_⟩,y.k9,y.fz 9⟩
 ·rw[xn (by omega)];exact h.c8
 ·rw[qj (by omega)]
 ·rw[xn (by omega)];exact h.GF
 ·rw[j,jw,vD (by omega)];exact yP hcut (fun q hq=>zO _ _ _ _ (z q hq))
 ·rw[zO _ _ _ _ hp];exact d.block q hq
 ·rw[j,xp];exact yP f (fun q hq=>zO _ _ _ _ (i q hq))
theorem withdraw_any {jv:Value} (h:aD w P ty cs cap rs low jv) (hl:rs.length<=1000) (h0:0 < rs.length):Calls Tryz.prog 160 #[.pointer (some ⟨P,8,none⟩)] w (WdrP P ty cs cap rs low jv w):=by
 obtain⟨i0,N,J,I,H⟩:=yi C1;obtain⟨g,jcap,rfl⟩:∃g jcap,jv=.slice (some ⟨g,0,none⟩) rs.length jcap:=by
  rcases h.own.2 with⟨e,e2⟩| ⟨g,jcap,cur,e,_⟩
  ·omega
  ·exact⟨g,jcap,e⟩
 obtain⟨n,Z⟩:∃n,rs.length=n+1:=⟨rs.length-1,by omega⟩;have HH:=zD h;have T:=h.k9;have a5:IntKind.i64.wrap ((n:Int)+1-1)=(n:Int):=by rw[yv,yC _ (by omega)];omega
 have a4:IntKind.i64.wrap (n:Int)=(n:Int):=by rw[yv,yC _ (by omega)]
 have i1:¬(n:Int) < 0:=by omega
 have F:=zD Z;have z:=zQ h.block;have a2:n+1<=jcap:=by
  rcases h.own.2 with⟨e,_⟩| ⟨g',a3,cur,e,_,_,e3,_⟩
  ·cases e
  ·simp at e;omega
 have a7:¬jcap=0:=by omega
 rw[Z]at T;clear h Z;go_enter func160,ntmps160;go_wp2_with fail;go_loopw [3] (fun c wr=>∃k:Nat,k<=n/\c=.int .i64 k/\Rt.lastFrom rs k=G5 rs/\Below w.heap.size w wr) (fun c _=>(intOf c).toNat)
 case atStart=>exact⟨n,zB _,rfl,by unfold G5;rw[F.u];rfl,zI _ _⟩
 case round=>
  obtain⟨k,hk,rfl,o,i⟩:=hrel;have M:=HH.u.zP i;have T:=M.k9;rw[F.u]at T;have U:=zD o;clear o;cases k with
  | zero=>
   have R:=zD (show G5 rs=0 by rw[<-U.u];rfl);have D:=qG M i;have hM:=i.size;have q1:(0:Int)<=(n:Int)+1:=by omega
   have a0:=F.u;clear M i U;go_wp2_with (at_builtin;refine wpList_append_lies _ rfl _ _ 94 rfl w.heap.size 162 i0 _ 5 40 underlying94 N J I H rfl (by decide) (.slice none 0 0) 0 [] rfl (zW _ _ _ _) ⟨g,0*5,none⟩ (n+1) jcap (xE (rs.drop 0)) rfl (by have:=F.u;rw[XB,xp];omega) (recs_news D.u.1.own 0 (zo _)) (recs_one) (by omega) (by unfold maxLen;omega) (by omega) hM wr.heap.size rfl ?_);intro g1 cap1 w1 d f A j;obtain⟨G,p2,p3⟩:=wdr_end z D.u.1 D.u.2 h0 R.u (g1:=g1) (cap1:=cap1) (by rw[show rs.length-0=n+1 by omega];first | exact d | simpa using d) f;have HF:=zD G;clear d f A j G;go_wp2;go_ret;have:=HF.u;rw[show rs.length-0=n+1 by omega]at this;exact this
  | succ k=>
   have x:k+1 < rs.length:=by have:=F.u;omega
   have j1:(0:Int) < (k:Int)+1:=by omega
   have j2:(0:Int)<=(k:Int)+1:=by omega
   have j3:(k:Int)+1 < (n:Int)+1:=by omega
   have y:=M.own;obtain⟨r0,r1,r2,r3,r4⟩:=sB y (k+1) x;have HC:=zD (fun (W:World)=>tn W rs[k+1]);have HY:=zD (show jt rs[k+1]=true->G5 rs=k+1 from fun e=>by rw[<-U.u,Rt.lastFrom,zJ x];simp[e]);have R:=zD (show jt rs[k+1]=false->Rt.lastFrom rs k=G5 rs from fun e=>by rw[<-U.u,Rt.lastFrom,zJ x];simp[e]);have HB:=zD i;clear M y i;generalize rs[k+1]=r at *;go_wp2_with fail;refine(HC.u _).mono ?_;rintro e w1 ⟨rfl,O⟩;have HB1:=zD (HB.u.trans (O.mono HB.u.size));clear O;cases hb:jt r with
   | true=>
    have HE:=zD (HY.u hb);clear HY R;have V:=(HH.u.zP HB1.u).k9;rw[F.u]at V;have a6:¬jcap=k+1:=by omega
    have a1:=HB1.u.size;have D:=qG (HH.u.zP HB1.u) HB1.u;have a0:=F.u;clear r0 r1 r2 r3 r4 T;go_wp2_with (at_builtin;refine wpList_append_lies _ rfl _ _ 94 rfl w.heap.size 162 i0 _ 5 40 underlying94 N J I H rfl (by decide) (.slice none 0 0) 0 [] rfl (zW _ _ _ _) ⟨g,(k+1)*5,none⟩ (n-k) (jcap-(k+1)) (xE (rs.drop (k+1))) rfl (by rw[XB,xp];omega) (recs_news D.u.1.own (k+1) (by omega)) (recs_one) (by omega) (by unfold maxLen;omega) (by omega) a1 w1.heap.size rfl ?_);intro g1 cap1 w2 d f A j;have L:rs.length-(k+1)=n-k:=by omega
    obtain⟨G,p2,p3⟩:=wdr_end z D.u.1 D.u.2 x HE.u (g1:=g1) (cap1:=cap1) (by rw[L];first | exact d | simpa using d) f;have HF:=zD G;clear d f A j G;go_wp2;go_ret;have:=HF.u;rw[L]at this;exact this
   | false=>
    have HE:=zD (R.u hb);clear HY R;go_wp2_with fail;go_roundw
    case rel=>exact⟨k,by omega,by go_num,HE.u,HB1.u⟩
    case measure=>simp[intOf]
end
namespace Rt
def G9 (m:Mc) (v:Int):Mc:={ m with zH:=m.zH.modify (m.zH.length-1) (fun f=>⟨f.params++[v],f.call⟩) }
def G8 (m:Mc) (r:Rec):Mc:=if jt r=true then { m with line:=r.line,fin:=0 }else m
def G3 (m:Mc) (r:Rec):Mc:=
 if r.kind=2 then { G8 m r with zH:=(G8 m r).zH.dropLast }
 else if r.kind=3 then { G8 m r with zH:=(G8 m r).zH++[⟨[],r.value⟩] }
 else if r.kind=4 then jN (G8 m r) r.at_ r.value
 else if r.kind=5 then { G8 m r with output:=(G8 m r).output.dropLast }
 else if r.kind=6 then { G8 m r with taken:=wrap64 ((G8 m r).taken-1) }
 else if r.kind=7 then G9 (G8 m r) r.value
 else G8 m r
def Hb (m:Mc) (rs:List Rec):Mc:=rs.foldl G3 m
theorem Hi {α:Type} (l:List α) (f g:α->α):(l.modify i f).modify i g=l.modify i (fun x=>g (f x)):=by
 apply List.ext_getElem?;intro j;simp only[qW];cases l[j]? with
 | none=>rfl
 | some x=>
  simp only[Qv,Xf];split <;> rfl
theorem modify_id {α:Type} (l:List α) (f:α->α) (h:∀x,l[i]?=some x->f x=x):l.modify i f=l:=by
 apply List.ext_getElem?;intro j;rw[qW];cases e:l[j]? with
 | none=>rfl
 | some x=>
  simp only[Qv,Xf];split
  ·next hij=>subst hij;rw[h x e]
  ·rfl
theorem cellsOf_put (m:Mc) (s:Q9) (v:Int) (h:Q6 m s=true):Q6 (jN m s v) s=true:=by
 unfold Q6 at h ⊢;rw[yS]at h ⊢;have d:(cellsOf (jN m s v) s.line).length=(cellsOf m s.line).length:=by
  have f:Q6 m s=true:=by unfold Q6;rw[yS];exact h
  unfold jN;rw[zE f];by_cases hs:0 < s.line
  ·rw[zE hs];unfold cellsOf;simp only[YK];by_cases hb:0 < s.line/\s.line < (m.values.length:Int)
   ·rw[zE hb,zE hb];simp only[qW];cases m.values[s.line.toNat]? with
    | none=>rfl
    | some x=>simp
   ·rw[zA hb,zA hb]
  ·rw[zA hs];have e:∀m:Mc,cellsOf m s.line=if s.line=0/\0 < m.zH.length then (m.zH.getLastD Qe).params else []:=fun m=>by unfold cellsOf;rw[zA (fun h=>hs h.1)]
   rw[e,e];simp only[YK];by_cases hb:s.line=0/\0 < m.zH.length
   ·rw[zE hb,zE hb];rw[xk,xk,List.getLast?_eq_getElem?,List.getLast?_eq_getElem?,qW];simp only[YK];rw[zJ (by omega)];simp
   ·rw[zA hb,zA hb]
 rw[d];exact h
theorem put_back {m:Mc} (s:Q9) {v:Int}:jN (jN m s v) s (ZL m s)=m:=by
 by_cases h:Q6 m s=true
 ·have y:=cellsOf_put m s v h;have d:=h;unfold Q6 at d;rw[yS]at d;rw[jN,zE y];unfold jN;rw[zE h];by_cases hs:0 < s.line
  ·rw[zE hs,zE hs];have k:ZL m s=((cellsOf m s.line)[s.cell.toNat]?).getD 0:=by unfold ZL;rw[zA (by omega)]
   have:(m.values.modify s.line.toNat (fun c=>c.set s.cell.toNat v)).modify s.line.toNat (fun c=>c.set s.cell.toNat (ZL m s))=m.values:=by
    rw[Hi];refine modify_id _ _ (fun x hx=>?_);rw[List.set_set];have i:cellsOf m s.line=x:=by
     unfold cellsOf;have j:s.line < (m.values.length:Int):=by
      have:=(qy.mp hx).1;omega
     rw[zE ⟨hs,j⟩,hx];rfl
    rw[k,i];rw[i]at d;rw[zJ (by omega)];exact List.set_getElem_self _
   simp only[this]
  ·rw[zA hs,zA hs];have k:ZL m s=((cellsOf m s.line)[s.cell.toNat]?).getD 0:=by unfold ZL;rw[zA (by omega)]
   have o:s.line=0/\0 < m.zH.length:=by
    unfold cellsOf at d;rw[zA (by omega)]at d;by_cases hb:s.line=0/\0 < m.zH.length
    ·exact hb
    ·rw[zA hb]at d;simp at d;omega
   have:(m.zH.modify (m.zH.length-1) (fun f=>⟨f.params.set s.cell.toNat v,f.call⟩)).modify (m.zH.length-1) (fun f=>⟨f.params.set s.cell.toNat (ZL m s),f.call⟩)=m.zH:=by
    rw[Hi];refine modify_id _ _ (fun x hx=>?_);show (⟨(x.params.set s.cell.toNat v).set s.cell.toNat (ZL m s),x.call⟩:Fm)=x;rw[List.set_set];have i:cellsOf m s.line=x.params:=by
     unfold cellsOf;rw[zA (by omega),zE o,xk,List.getLast?_eq_getElem?,hx];rfl
    rw[k,i];rw[i]at d;rw[zJ (by omega)];simp
   simp only[YK,this]
 ·have y:jN m s v=m:=by unfold jN;rw[zA h]
  rw[y];unfold jN;rw[zA h]
theorem Hh {α:Type} (f:α->α) (x:α):∀l:List α,(l++[x]).modify l.length f=l++[f x]
 | []=>rfl
 | y::l=>by
  show y::(l++[x]).modify l.length f=y::(l++[f x]);rw[Hh f x l]
theorem addPars {m:Mc} (d:List Fm) (c:Int):∀(vs acc:List Int),m.zH=d++[⟨acc,c⟩]->(vs.map (fun v=>(⟨7,0,⟨0,0⟩,v⟩:Rec))).foldl G3 m={ m with zH:=d++[⟨acc++vs,c⟩] }
 | [],acc,h=>by
  simp only[Ye,List.foldl_nil,yX];rw[<-h]
 | v::vs,acc,h=>by
  have e:G3 m ⟨7,0,⟨0,0⟩,v⟩={ m with zH:=d++[⟨acc++[v],c⟩] }:=by
   show G9 (G8 m ⟨7,0,⟨0,0⟩,v⟩) v=_;show G9 m v=_;unfold G9;rw[h];congr 1;rw[ze,yl,zu,Hh]
  rw[qp,List.foldl_cons,e,addPars d c vs (acc++[v]) rfl];simp
theorem putS_with (m:Mc) (s:Q9) (v l f:Int):jN { m with line:=l,fin:=f } s v={ jN m s v with line:=l,fin:=f }:=by
 unfold jN;have:Q6 { m with line:=l,fin:=f } s=Q6 m s:=rfl;rw[this];split
 ·split <;> rfl
 ·rfl
theorem putS_taken (m:Mc) (s:Q9) (v t:Int):jN { m with taken:=t } s v={ jN m s v with taken:=t }:=by
 unfold jN;have:Q6 { m with taken:=t } s=Q6 m s:=rfl;rw[this];split
 ·split <;> rfl
 ·rfl
theorem undo_stored2 {m' m:Mc} (s:Q9):G3 m' (stored m s)=jN m' s (ZL m s):=rfl
theorem read_back (m:Mc) (d:Q9) (x t l:Int):jN ({ ({ jN m d x with taken:=t }:Mc)with line:=l,fin:=0 }) d (ZL m d)={ m with taken:=t,line:=l,fin:=0 }:=by
 have h:=putS_with { jN m d x with taken:=t } d (ZL m d) l 0;have f:=putS_taken (jN m d x) d (ZL m d) t;rw[put_back]at f;rw[f]at h;exact h
theorem Hk {m:Mc} {r:Rec} {rs:List Rec}:Hb m (r::rs)=Hb (G3 m r) rs:=rfl
theorem undoM_nil {m:Mc}:Hb m []=m:=rfl
theorem Hf (m:Mc):G3 m ⟨6,0,⟨0,0⟩,0⟩={ m with taken:=wrap64 (m.taken-1) }:=rfl
theorem perform_undo (S:Src) (m:Mc) {f:qS} (D:m.fin=0) (G:S.input.length<=100):(perform S m f).fin=0->∀l,Hb { (perform S m f).m with line:=l } (perform S m f).YU=m:=by
 have i:({ m with line:=m.line,fin:=0 }:Mc)=m:=by rw[<-D]
 have base:∀(m':Mc) (l:Int),G3 { m' with line:=l } (stay m.line)={ m' with line:=m.line,fin:=0 }:=fun _ _=>rfl;have h:∀(s:Q9) (v l:Int),Hb { jN m s v with line:=l } [stay m.line,stored m s]=m:=fun s v l=>by
  show G3 (G3 { jN m s v with line:=l } (stay m.line)) (stored m s)=m;rw[base];show jN { jN m s v with line:=m.line,fin:=0 } s (ZL m s)=m;rw[putS_with,put_back];exact i
 by_cases k8:f.kind=8
 ·have e:perform S m f=if (kP S m f).2=0 then ⟨0,wrap64 (m.line+1),[stay m.line,stored m (vx S m f.name)],jN m (vx S m f.name) (kP S m f).1⟩else ended m (kP S m f).2:=by unfold perform;simp only;rw[zE k8]
  rw[e];by_cases hv:(kP S m f).2=0
  ·rw[zE hv];intro _ l;exact h _ _ _
  ·rw[zA hv];intro d;exact absurd d hv
 by_cases k9:f.kind=9
 ·have e:perform S m f=if (zr S m f.index).2=0 then (if (kP S m f).2=0 then (match kX S m f.name (zr S m f.index).1 with | none=>ended m 3 | some s=>⟨0,wrap64 (m.line+1),[stay m.line,stored m s],jN m s (kP S m f).1⟩)else ended m (kP S m f).2)else ended m (zr S m f.index).2:=by unfold perform;simp only;rw[zA k8,zE k9];rfl
  rw[e];by_cases hx:(zr S m f.index).2=0
  ·rw[zE hx];by_cases hv:(kP S m f).2=0
   ·rw[zE hv];cases kX S m f.name (zr S m f.index).1 with
    | none=>intro d;exact absurd d (show ¬(3:Int)=0 by decide)
    | some s=>intro _ l;exact h _ _ _
   ·rw[zA hv];intro d;exact absurd d hv
  ·rw[zA hx];intro d;exact absurd d hx
 by_cases ud:f.kind=10
 ·have e:perform S m f=if (kP S m f).2=0 then (if 50<=m.output.length then ended m 6 else ⟨0,wrap64 (m.line+1),[stay m.line,⟨5,0,⟨0,0⟩,0⟩],{ m with output:=m.output++[(kP S m f).1] }⟩)else ended m (kP S m f).2:=by unfold perform;simp only;rw[zA k8,zA k9,zE ud]
  rw[e];by_cases hv:(kP S m f).2=0
  ·rw[zE hv];by_cases ho:50<=m.output.length
   ·rw[zE ho];intro d;exact absurd d (show ¬(6:Int)=0 by decide)
   ·rw[zA ho];intro _ l;show ({ m with output:=(m.output++[(kP S m f).1]).dropLast,line:=m.line,fin:=0 }:Mc)=m;rw[xo];exact i
  ·rw[zA hv];intro d;exact absurd d hv
 by_cases k11:f.kind=11
 ·have e:perform S m f=if m.taken < 0\/S.input.length<=m.taken then ended m 4 else ⟨0,wrap64 (m.line+1),[stay m.line,stored m (vx S m f.name),⟨6,0,⟨0,0⟩,0⟩],{ jN m (vx S m f.name) ((S.input[m.taken.toNat]?).getD 0)with taken:=wrap64 (m.taken+1) }⟩:=by unfold perform;simp only;rw[zA k8,zA k9,zA ud,zE k11]
  rw[e];by_cases hin:m.taken < 0\/S.input.length<=m.taken
  ·rw[zE hin];intro d;exact absurd d (show ¬(4:Int)=0 by decide)
  ·rw[zA hin];intro _ l;have y:wrap64 (m.taken+1)=m.taken+1:=yC _ (by omega);have j:wrap64 (m.taken+1-1)=m.taken:=by rw[yC _ (by omega)];omega
   rw[y];generalize (S.input[m.taken.toNat]?).getD 0=x;generalize vx S m f.name=sp;rw[Hk,Hk,Hk,undoM_nil,Hf];have F:G3 (G3 { { jN m sp x with taken:=m.taken+1 }with line:=l } (stay m.line)) (stored m sp)={ m with taken:=m.taken+1,line:=m.line,fin:=0 }:=by
    rw[base { jN m sp x with taken:=m.taken+1 } l,undo_stored2];exact read_back m sp x (m.taken+1) m.line
   rw[F];simp only[j];exact i
 by_cases k5:f.kind=5\/f.kind=7
 ·have e:perform S m f=if (kP S m f).2=0 then ⟨0,if (kP S m f).1=0 then ky S.lk m.line else wrap64 (m.line+1),[stay m.line],m⟩else ended m (kP S m f).2:=by unfold perform;simp only;rw[zA k8,zA k9,zA ud,zA k11,zE k5]
  rw[e];by_cases hv:(kP S m f).2=0
  ·rw[zE hv];intro _ l;exact i
  ·rw[zA hv];intro d;exact absurd d hv
 by_cases k12:f.kind=12
 ·have e:perform S m f=if (argsI S m f.values []).2=0 then (if 6<=m.zH.length then ended m 5 else ⟨0,wrap64 (xb S.zL f.name+1),[⟨2,m.line,⟨0,0⟩,0⟩],{ m with zH:=m.zH++[⟨(argsI S m f.values []).1,m.line⟩] }⟩)else ended m (argsI S m f.values []).2:=by unfold perform;simp only;rw[zA k8,zA k9,zA ud,zA k11,zA k5,zE k12]
  rw[e];by_cases hv:(argsI S m f.values []).2=0
  ·rw[zE hv];by_cases ho:6<=m.zH.length
   ·rw[zE ho];intro d;exact absurd d (show ¬(5:Int)=0 by decide)
   ·rw[zA ho];intro _ l;show ({ m with zH:=(m.zH++[(⟨(argsI S m f.values []).1,m.line⟩:Fm)]).dropLast,line:=m.line,fin:=0 }:Mc)=m;rw[xo];exact i
  ·rw[zA hv];intro d;exact absurd d hv
 rw[iX S m f k8 k9 ud k11 (fun e=>k5 (Or.inl e)) (fun e=>k5 (Or.inr e)) k12];unfold Vv;by_cases hn:m.zH.length < 2
 ·rw[zE hn];intro d;exact absurd d (show ¬(1:Int)=0 by decide)
 ·rw[zA hn];intro _ l;obtain⟨o,g,k,_,z,A⟩:=gH hn;rw[z,A];show ((g.params.map (fun v=>(⟨7,0,⟨0,0⟩,v⟩:Rec))).foldl G3 (G3 { { m with zH:=o }with line:=l } ⟨3,m.line,⟨0,0⟩,g.call⟩))=m;rw[addPars o g.call g.params [] rfl];show ({ m with zH:=o++[⟨[]++g.params,g.call⟩],line:=m.line,fin:=0 }:Mc)=m;rw[xN,<-k];exact i
theorem undo_step (S:Src) (m:Mc) (h0:m.fin=0) (ht:S.input.length<=100):Hb (qd S m).1 (qd S m).2=m:=by
 unfold qd;rw[zE h0];simp only;split
 ·next hf=>exact perform_undo S m h0 ht hf _
 ·show ({ m with line:=m.line,fin:=0 }:Mc)=m;rw[<-h0]
end Rt
section
attribute [local go_sem ↓] Go.wp_at_zero Go.wp_at_succ
theorem jz.outPop {m:Rt.Mc} (h:jz w M B ty tail S m X) (o:List Int) (x:Int) (G:m.output=o++[x]) (g cap:Nat) (A:X.ov=.slice (some ⟨g,0,none⟩) (o.length+1) cap) (f:Below w.heap.size w w1):jz (w1.setCell ⟨M,5,none⟩ (.slice (some ⟨g,0,none⟩) o.length cap)) M B ty tail S { m with output:=o } { X with ov:=.slice (some ⟨g,0,none⟩) o.length cap }/\VM w (w1.setCell ⟨M,5,none⟩ (.slice (some ⟨g,0,none⟩) o.length cap)) (M::Z4 X)/\vd w (Z4 X) (Z4 { X with ov:=.slice (some ⟨g,0,none⟩) o.length cap }):=by
 have z:∀k,k < w.heap.size->X.ov.ownBlock≠some k->w1.heap[k]?=w.heap[k]?:=fun k hk _=>f.block k hk;have hk:∀(k:Nat) (x:Obj),w.heap[k]?=some x->(∃c t,x=Obj.cells c t (0,0)/\Xe t)->w1.heap[k]?=some x:=fun k x hx _=>(f.block k (zQ hx)).trans hx;have j:w1.ownsRow 0 3 1 (.slice (some ⟨g,0,none⟩) o.length cap) o.length (xR o):=by
  have D:=yG h.out f;rw[G,A,ze,yl,xR,yB]at D;exact ES D (by omega) (by simp[xR])
 have i:rowsOf S.input X m=[zz X.iv S.input,⟨153,2,X.fv,m.zH.length,fCells X.xg m.zH⟩,⟨24,1,X.vv,m.values.length,X.YR⟩]++zz X.ov m.output::(List.zipWith zz X.xg (m.zH.map Rt.Fm.params)++List.zipWith zz X.YR m.values):=rfl;have d:=h.own.zP f;rw[i]at d;obtain⟨F,o2⟩:=Own.swap (w':=w1) d (r':=zz (.slice (some ⟨g,0,none⟩) o.length cap) o) (fun _ _ _=>rfl) j (fun k hk=>Or.inl (by show X.ov.ownBlock=some k;rw[A];exact hk));have y:=h.step (w1:=w1) (m':={ m with output:=o }) (X':={ X with ov:=.slice (some ⟨g,0,none⟩) o.length cap }) f.size (f.block M (zQ h.block)) hk 5 (.slice (some ⟨g,0,none⟩) o.length cap) (by simp[xC]) F rfl rfl h.fl h.vl;refine⟨y,VM.B5 (VM.jQ _ f) _ _,?_⟩;rw[<-h.xh,<-y.xh];intro k hk3;rcases o2 k hk3 with hk4 | hk4
 ·exact Or.inl hk4
 ·exact Or.inr (zi f.size hk4)
theorem dropPrinted_any {m:Rt.Mc} (h:jz w M B ty tail S m X) (i:m.output.length<=1000):Calls Tryz.prog 211 #[.pointer (some ⟨M,0,none⟩)] w fun e w'=>e=.returned (.tuple #[])/\∃X',Z8 M B ty tail S X X' { m with output:=m.output.dropLast } w w':=by
 by_cases h0:m.output=[]
 ·have y:=h.c5;obtain⟨F,A,d⟩:=zK h.out;rw[d,h0]at y;have z:=zD (show Z8 M B ty tail S X X { m with output:=m.output.dropLast } w w by
   have e:m.output.dropLast=m.output:=by rw[h0];rfl
   rw[e];exact Z8.start h (zI _ _))
  clear h d;go_enter func211,ntmps211;go_wp2_with fail;go_end0;exact⟨rfl,_,z.u⟩
 ·obtain⟨o,x,k⟩:∃o x,m.output=o++[x]:=⟨m.output.dropLast,m.output.getLast h0,(xj h0).symm⟩;obtain⟨g,cap,d,D⟩:∃g cap,X.ov=.slice (some ⟨g,0,none⟩) (o.length+1) cap/\o.length+1<=cap:=by
   have h1:=h.out;rw[k,ze,yl]at h1;rcases h1.2 with⟨e,e2⟩| ⟨g,cap,cur,e,_,_,e3,_⟩
   ·simp at e2
   ·exact⟨g,cap,e,e3⟩
  have y:=h.c5;rw[d]at y;have O:=h.fz 5;have N:o.length+1<=1000:=by rw[k]at i;simpa using i
  have H:IntKind.i64.wrap ((o.length:Int)+1-1)=(o.length:Int):=by rw[yv,yC _ (by omega)];omega
  have G:IntKind.i64.wrap (o.length:Int)=(o.length:Int):=by rw[yv,yC _ (by omega)]
  have L:(0:Int) < (o.length:Int)+1:=by omega
  have J:(0:Int)<=(o.length:Int):=by omega
  have I:(o.length:Int)<=(cap:Int):=by omega
  have j:=zQ h.block;have f:=h.outPop (w1:=w.drew) o x k g cap d (zh w);have z:=zD (show Z8 M B ty tail S X _ { m with output:=m.output.dropLast } w _ from⟨by rw[k,xo];exact f.1,f.2.1,f.2.2,j⟩);clear h d f h0;go_enter func211,ntmps211;go_wp2_with fail;go_region_law (fail)
  all_goals
   go_wp2_with fail;go_end0;exact⟨rfl,_,z.u⟩
theorem fCells_set (h:List Value) (d:List Rt.Fm) (v j:Value) (f k:Rt.Fm) (i:h.length=d.length) (o:k.call=f.call):(fCells (h++[v]) (d++[f])).set (d.length*2) j=fCells (h++[j]) (d++[k]):=by
 rw[Kf _ _ _ _ i,Kf _ _ _ _ i,o];have x:=V3 h d i;rw[qe _ _ (by omega),x,jC];rfl
theorem jz.parPush {wx:World} {m:Rt.Mc} (h:jz w M B ty tail S m X) (fs:List Rt.Fm) (f:Rt.Fm) (hf:m.zH=fs++[f]) (g cap:Nat) (A:X.fv=.slice (some ⟨g,0,none⟩) (fs.length+1) cap) (xg:List Value) (pv:Value) (z:X.xg=xg++[pv]) (I:Below w.heap.size w wx) (R:wx.grownBy w1 pv.ownBlock) (x:Int) (pv':Value) (V:w1.ownsRow 0 3 1 pv' (f.params.length+1) (xR (f.params++[x]))) (a2:∀k,pv'.ownBlock=some k->pv.ownBlock=some k\/w.heap.size<=k):jz (w1.setCell ⟨g,fs.length*2,none⟩ pv') M B ty tail S { m with zH:=fs++[⟨f.params++[x],f.call⟩] } { X with xg:=xg++[pv'] }/\VM w (w1.setCell ⟨g,fs.length*2,none⟩ pv') (M::Z4 X)/\vd w (Z4 X) (Z4 { X with xg:=xg++[pv'] })/\w1.cell? ⟨g,fs.length*2,none⟩=some pv/\w1.frozen? ⟨g,fs.length*2,none⟩=false/\w1.heap[M]?=w.heap[M]?:=by
 have O:xg.length=fs.length:=by
  have:=h.fl;rw[hf,z]at this;simpa using this
 have hkeep:∀k,k < w.heap.size->pv.ownBlock≠some k->w1.heap[k]?=w.heap[k]?:=fun k hk A=>(R.block k (zX hk I.size) (xK A)).trans (I.block k hk);have T:List.zipWith zz X.xg (m.zH.map Rt.Fm.params)=List.zipWith zz xg (fs.map Rt.Fm.params)++[zz pv f.params]:=by
  rw[hf,z,yB,kN (by rw[qR];exact O)];rfl
 have N:rowsOf S.input X m=([zz X.iv S.input,XM X m,⟨24,1,X.vv,m.values.length,X.YR⟩,zz X.ov m.output]++List.zipWith zz xg (fs.map Rt.Fm.params))++zz pv f.params::List.zipWith zz X.YR m.values:=by
  rw[fP,T];simp
 have D:=h.own;rw[N]at D;obtain⟨o1,o2⟩:=Own.swap (w':=w1) D (r':=zz pv' (f.params++[x])) hkeep (by show World.ownsRow _ 0 3 1 _ (f.params++[x]).length _;rw[ze];exact V) a2;have G:([zz X.iv S.input,XM X m,⟨24,1,X.vv,m.values.length,X.YR⟩,zz X.ov m.output]++List.zipWith zz xg (fs.map Rt.Fm.params))++zz pv' (f.params++[x])::List.zipWith zz X.YR m.values=[zz X.iv S.input]++XM X m::([⟨24,1,X.vv,m.values.length,X.YR⟩,zz X.ov m.output]++(List.zipWith zz xg (fs.map Rt.Fm.params)++zz pv' (f.params++[x])::List.zipWith zz X.YR m.values)):=by simp
 have J:=o1;rw[G]at J;have d:w1.ownsRow 0 153 2 (.slice (some ⟨g,0,none⟩) (fs.length+1) cap) (fs.length+1) (fCells (xg++[pv]) (fs++[f])):=by
  have:=J.rows (XM X m) (by simp);have e:(XM X m)=⟨153,2,.slice (some ⟨g,0,none⟩) (fs.length+1) cap,fs.length+1,fCells (xg++[pv]) (fs++[f])⟩:=by
   unfold XM;rw[A,hf,z,ze,yl]
  rw[e]at this;exact this
 have U:=(d.stored (fs.length*2) pv').1;rw[fCells_set xg fs pv pv' f ⟨f.params++[x],f.call⟩ O rfl]at U;obtain⟨p1,p2⟩:=Own.swap (w':=w1.setCell ⟨g,fs.length*2,none⟩ pv') J (r':=⟨153,2,.slice (some ⟨g,0,none⟩) (fs.length+1) cap,fs.length+1,fCells (xg++[pv']) (fs++[⟨f.params++[x],f.call⟩])⟩) (fun k _ hk=>zO w1 ⟨g,fs.length*2,none⟩ pv' k (fun e=>hk (by show X.fv.ownBlock=some k;rw[A,show k=g from e];rfl))) U (fun k hk=>Or.inl (by show X.fv.ownBlock=some k;rw[A];exact hk));have o:rowsOf S.input { X with xg:=xg++[pv'] } { m with zH:=fs++[⟨f.params++[x],f.call⟩] }=[zz X.iv S.input]++⟨153,2,.slice (some ⟨g,0,none⟩) (fs.length+1) cap,fs.length+1,fCells (xg++[pv']) (fs++[⟨f.params++[x],f.call⟩])⟩::([⟨24,1,X.vv,m.values.length,X.YR⟩,zz X.ov m.output]++(List.zipWith zz xg (fs.map Rt.Fm.params)++zz pv' (f.params++[x])::List.zipWith zz X.YR m.values)):=by
  unfold rowsOf;have e:List.zipWith zz (xg++[pv']) ((fs++[(⟨f.params++[x],f.call⟩:Rt.Fm)]).map Rt.Fm.params)=List.zipWith zz xg (fs.map Rt.Fm.params)++[zz pv' (f.params++[x])]:=by
   rw[yB,kN (by rw[qR];exact O)];rfl
  simp only[e,A,ze,yl];simp
 have hMg:M≠g:=fun e=>h.uk (by rw[A,e];rfl);have hMp:pv.ownBlock≠some M:=fun e=>by
  have:=D.rows (zz pv f.params) (by simp);obtain⟨c,i⟩:=yW this e;rw[h.block]at i;injection i with i;injection i with _ i;exact h.ty.1 i
 have a0:∃c,w.heap[g]?=some (.cells c 153 (0,0)):=yW h.zH (by rw[A];rfl);have hot:∀k,k≠g->(w1.setCell ⟨g,fs.length*2,none⟩ pv').heap[k]?=w1.heap[k]?:=fun k hk=>zO w1 ⟨g,fs.length*2,none⟩ pv' k hk;have W:=h.next (w':=w1.setCell ⟨g,fs.length*2,none⟩ pv') (tail':=tail) (m':={ m with zH:=fs++[⟨f.params++[x],f.call⟩] }) (X':={ X with xg:=xg++[pv'] }) (by rw[hot M hMg,hkeep M (zQ h.block) hMp];exact h.block) (zi (zi I.size R.size) (by simp[World.setCell])) (by
  intro k y L a3 H;have Z:k≠g:=fun e=>by
   obtain⟨c,i⟩:=a0;rw[e,i]at L;injection L with L;obtain⟨c',t',F,H⟩:=H;rw[<-L]at F;injection F with _ F;rw[<-F]at H;exact absurd H (by unfold Xe;decide)
  rw[hot k Z,hkeep k (zQ L) (fun e=>by
   have:=D.rows (zz pv f.params) (by simp);obtain⟨c,i⟩:=yW this e;rw[L]at i;injection i with i;obtain⟨c',t',F,H⟩:=H;rw[i]at F;injection F with _ F;have e3:(zz pv f.params).t=3:=rfl;rw[<-F,e3]at H;exact absurd H (by unfold Xe;decide))]
  exact L) (by rw[o];exact p1) rfl rfl (by simp[O]) h.vl
 have a1:g∈Z4 X:=by rw[<-h.xh];exact qU (r:=XM X m) (by rw[fP];simp) (by show X.fv.ownBlock=some g;rw[A];rfl)
 refine⟨W,⟨R.os.trans I.os,R.tape.trans I.tape,R.output.trans I.output,zi (zi I.size R.size) (by simp[World.setCell]),fun k hk hn=>?_⟩,?_,?_,d.frozenAt _,hkeep M (zQ h.block) hMp⟩
 ·rw[hot k (fun e=>hn (zm _ (by rw[e];exact a1)))];exact hkeep k hk (fun e=>hn (zm _ (by rw[<-h.xh,N];exact qU (r:=zz pv f.params) (by simp) e)))
 ·rw[<-h.xh,<-W.xh,o];intro k hk3;rcases p2 k hk3 with hk4 | hk4
  ·rw[<-G]at hk4;rcases o2 k hk4 with hk5 | hk5
   ·rw[N];exact Or.inl hk5
   ·exact Or.inr hk5
  ·exact Or.inr (zi (zi I.size R.size) hk4)
 ·obtain⟨g',c',he,_,_,i⟩:=yD d (j:=fs.length*2) (u:=pv) (by rw[Kf _ _ _ _ O,yU (Nat.le_of_eq (V3 _ _ O)),V3 _ _ O,jC];rfl);simp at he;obtain⟨rfl,rfl⟩:=he;exact i
theorem addParam_any {m:Rt.Mc} (h:jz w M B ty tail S m X) (hm:dL S m) (x:Int) (d:List Rt.Fm) (f:Rt.Fm) (R:m.zH=d++[f]) (a4:f.params.length<=900):Calls Tryz.prog 212 #[.pointer (some ⟨M,0,none⟩),.int .i64 x] w fun e w'=>e=.returned (.tuple #[])/\∃X',Z8 M B ty tail S X X' { m with zH:=d++[⟨f.params++[x],f.call⟩] } w w':=by
 obtain⟨i0,W,V,U,T⟩:=yi XL;have Z:=hm.zH;have o:m.zH.length=d.length+1:=by rw[R];simp
 obtain⟨g,cap,A,a0⟩:∃g cap,X.fv=.slice (some ⟨g,0,none⟩) (d.length+1) cap/\d.length+1<=cap:=by
  have h1:=h.zH;rw[o]at h1;rcases h1.2 with⟨e,e2⟩| ⟨g,cap,cur,e,_,_,e3,_⟩
  ·simp at e2
  ·exact⟨g,cap,e,e3⟩
 obtain⟨xg,pv,i⟩:∃xg pv,X.xg=xg++[pv]:=by
  have H:X.xg≠[]:=by intro e;have:=h.fl;rw[e,o]at this;simp at this
  exact⟨X.xg.dropLast,X.xg.getLast H,(xj H).symm⟩
 have hl:xg.length=d.length:=by have:=h.fl;rw[o,i]at this;simpa using this
 have j:=h.sR d.length (by omega);have L:m.zH[d.length]'(by omega)=f:=by simp[R]
 have F:X.xg[d.length]'(by rw[i];simp[hl])=pv:=by simp[i,<-hl]
 rw[L,F]at j;obtain⟨G,D,rfl⟩:=zK j;have k0:w.cell? ⟨g,d.length*2,none⟩=some (.slice G f.params.length D):=by
  obtain⟨g',c',he,_,_,hc⟩:=yD h.zH (Js X.xg m.zH h.fl d.length (by omega)).1;rw[A]at he;simp at he;obtain⟨rfl,_⟩:=he;rw[F]at hc;exact hc
 have J:g < w.heap.size:=by
  have:=(h.zH.lt g (by rw[A];rfl)).2;exact this
 have a1:(w.alloc (Obj.cells #[.int .i64 x] 3)).cell? ⟨g,d.length*2,none⟩=some (.slice G f.params.length D):=(World.cell?_alloc_past _ _ _ J).trans k0;have c2:=h.c2;rw[A]at c2;have N:=zQ h.block;have a3:IntKind.i64.wrap ((d.length:Int)+1-1)=(d.length:Int):=by rw[yv,yC _ (by omega)];omega
 have a2:IntKind.i64.wrap (d.length:Int)=(d.length:Int):=by rw[yv,yC _ (by omega)]
 have i1:(0:Int)<=(d.length:Int):=by omega
 have i2:(d.length:Int) < (d.length:Int)+1:=by omega
 have i3:¬(d.length:Int) < 0:=by omega
 have O:=DA h j A i R;clear h A i R j F L hm Z o;go_enter func212,ntmps212;go_wp2_with fail;go_region_law
     ((refine step_append_lies _ (by rfl) _ _ _ (by rfl) 0 3 i0 _ 1 8 underlying24 W V U T rfl (by omega) _ f.params.length (xR f.params) (by rfl) ((O.u.2.1.alloc _).drew) ⟨w.heap.size,0,none⟩ 1 1 [.int .i64 x] (by rfl) (by rfl) (World.news_of_block (cs:=#[.int .i64 x]) (t:=3) (fr:=(0,0)) (zN w _)) (by simp[Value.oneCell']) (by omega) (by unfold maxLen;omega) (by omega) (zo _) (w.heap.size+1) (by simp) ?_;intro g' cap' w4 y z hat I;obtain⟨q1,q2,q3,q4,q5,q6⟩:=O.u.1.parPush d f O.u.2.2.2.2 g cap O.u.2.2.1 xg _ O.u.2.2.2.1 (((zI _ w).alloc (zB _) _).drew) z x (.slice (some ⟨g',0,none⟩) (f.params.length+1) cap') (by rw[xR,yB];exact y) (fun k hk=>by simp[Value.ownBlock]at hk;subst hk;rcases hat with e | e;exact Or.inl e;exact Or.inr (by omega));have HF:=XX q1 q2 q3;have a5:w4.cell? ⟨M,2,none⟩=some (.slice (some ⟨g,0,none⟩) (d.length+1) cap):=(xG (a:=⟨M,2,none⟩) q6).trans c2;clear q1 q2 q3 q6 y z hat I))
 all_goals
  go_wp2_with fail;go_end0;exact⟨rfl,_,⟨HF.u.1,HF.u.2.1,HF.u.2.2,N⟩⟩
end
end Go.Proofs.YthleadfkfnnadaaGreat
