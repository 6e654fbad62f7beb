/- The document's answer: a run. -/
import Derived.Test.YthleadfkfnnadaaGreatSeA
import Derived.Deep.OwnRows
import Derived.Test.YthleadfkfnnadaaGreatPlG
import Derived.Test.YthleadfkfnnadaaGreatRgM
set_option maxHeartbeats 4000000
set_option maxRecDepth 100000
set_option linter.unusedSimpArgs false
namespace Go.Proofs.YthleadfkfnnadaaGreat
open Rf Rt Go.Proofs.Tryz
open Go.RowKit
variable {l:Int} {ls:List (List ByteArray)} {zL:List Rt.PL} {i B P g k n D a:Nat} {X:Qg} {p:Rf.Pl} {S:Rt.Src} {t:TypeId} {w w1:World}
theorem uC {α β γ:Type} (f:α->β->γ):∀(xs:List α) (ys:List β) (i:Nat) (a:α) (b:β),List.zipWith f (xs.set i a) (ys.set i b)=(List.zipWith f xs ys).set i (f a b)
 | [],_,_,_,_=>by simp
 | _::_,[],i,_,_=>by cases i <;> simp
 | _::_,_::_,0,_,_=>rfl
 | _::xs,_::ys,i+1,a,b=>by simp[uC f xs ys i a b]
theorem uD {α β γ:Type} (f:α->β->γ) (a:α) (b:β):∀n:Nat,List.zipWith f (List.replicate n a) (List.replicate n b)=List.replicate n (f a b)
 | 0=>rfl
 | n+1=>by simp[List.replicate_succ,uD f a b n]
theorem wZ {α:Type} (l:List α) (h:i < l.length) (y:α):l=l.take i++l[i]::l.drop (i+1)/\l.set i y=l.take i++y::l.drop (i+1):=
 ⟨by simp,by rw[List.set_eq_take_append_cons_drop,zE h]⟩
theorem Own.nils {R N:List Rw} (h:Own w R) (d:∀r∈N,r.v.ownBlock=none/\w.ownsRow 0 r.t r.size r.v r.n r.xs):Own w (R++N)/\xh (R++N)=xh R:=by
 have f:xh N=[]:=by
  unfold xh;rw[List.filterMap_eq_nil_iff];exact fun r hr=>(d r hr).1
 have e:xh (R++N)=xh R:=by rw[jd,f,yX]
 refine⟨⟨fun r hr=>?_,by rw[e];exact h.apart⟩,e⟩;rcases zd.mp hr with hr | hr
 ·exact h.rows r hr
 ·exact(d r hr).2
theorem vC.EZ (h:vC w B P p X) (I:B<=w.heap.size) (o:Below w.heap.size w w1) (v:Value) (n:Nat) (H:p.cells=[]) (G:X.kB=[]) (y:w1.ownsRow w.heap.size 24 1 v n (List.replicate n (.slice none 0 0))):vC (w1.setCell ⟨P,2,none⟩ v) B P { p with cells:=List.replicate n [] } { X with cv:=v,kB:=List.replicate n (.slice none 0 0) }/\Below B w (w1.setCell ⟨P,2,none⟩ v):=by
 have z:=zQ h.block;have j:=zU h.block o;have f:yO X p=[jy X.fv X.xg p.zH,zz X.vv p.vars]++YF X.cv [] 0::(zz X.ov p.out::List.zipWith zz X.xg (p.zH.map Rf.Fr.args)):=by
  unfold yO;rw[H,G];simp
 have x:=h.own;rw[f]at x;obtain⟨F,D⟩:=Own.swap (w':=w1) x (r':=YF v (List.replicate n (.slice none 0 0)) n) (fun k hk _=>o.block k hk) (vr y) (fun g hg=>Or.inr (y.lt g hg).1);obtain⟨i,A⟩:=F.nils (N:=List.replicate n (zz (.slice none 0 0) [])) (fun r hr=>by
  rw[List.mem_replicate]at hr;rw[hr.2];exact⟨rfl,zW _ _ _ _⟩)
 have d:yO { X with cv:=v,kB:=List.replicate n (.slice none 0 0) } { p with cells:=List.replicate n [] }=([jy X.fv X.xg p.zH,zz X.vv p.vars]++YF v (List.replicate n (.slice none 0 0)) n::(zz X.ov p.out::List.zipWith zz X.xg (p.zH.map Rf.Fr.args)))++List.replicate n (zz (.slice none 0 0) []):=by
  unfold yO;simp only[uD,qN];simp
 have hcase:∀k∈xh (yO { X with cv:=v,kB:=List.replicate n (.slice none 0 0) } { p with cells:=List.replicate n [] }),k∈xh (yO X p)\/w.heap.size<=k:=by
  intro k hk;rw[d,A]at hk;rw[f];exact D k hk
 refine⟨⟨by rw[zf j];rfl,?_,h.fl,by simp,fun k hk=>?_,h.here⟩,?_⟩
 ·rw[<-d]at i;exact⟨fun r hm=>yP (i.rows r hm) (fun g hg=>zO w1 ⟨P,2,none⟩ _ g (by
   show g≠P;rcases hcase g (qU hm hg)with hk | hk
   ·exact h.apart hk
   ·omega)),i.apart⟩
 ·rcases hcase k hk with hk | hk
  ·exact h.new k hk
  ·omega
 ·exact yx (o.mono I) h.here _ _
theorem vC.F3 (h:vC w B P p X) (hB:B<=w.heap.size) (A:Below w.heap.size w w1) (hi:i < p.cells.length) (hg:X.cv.ownBlock=some g) (U:X.kB[i]?=some (.slice none 0 0)) (v:Value) (xs:List Int) (hn:w1.ownsRow w.heap.size 3 1 v xs.length (xR xs)):vC (w1.setCell ⟨g,i,none⟩ v) B P { p with cells:=p.cells.set i xs } { X with kB:=X.kB.set i v }/\Below B w (w1.setCell ⟨g,i,none⟩ v):=by
 have L:i < X.kB.length:=by rw[h.cl];exact hi
 have J:X.kB[i]=.slice none 0 0:=by rw[zJ L]at U;exact Option.some.inj U
 obtain⟨Z,D⟩:∃Z,Z=List.zipWith zz X.kB p.cells:=⟨_,rfl⟩;have H:i < Z.length:=by rw[D,List.length_zipWith];omega
 have I:Z[i]=zz (.slice none 0 0) p.cells[i]:=by subst D;rw[List.getElem_zipWith,J]
 obtain⟨N,s2⟩:=wZ Z H (zz v xs);rw[I]at N;have o:g∈xh (yO X p):=qU (r:=YF X.cv X.kB p.cells.length) (by simp[yO]) hg;have M:=h.apart o;have a0:=zQ h.block;have a1:=h.own.lt g o;obtain⟨F,hF⟩:∃F,F=List.zipWith zz X.xg (p.zH.map Rf.Fr.args):=⟨_,rfl⟩;have z:yO X p=([jy X.fv X.xg p.zH,zz X.vv p.vars,YF X.cv X.kB p.cells.length,zz X.ov p.out]++(F++Z.take i))++zz (.slice none 0 0) p.cells[i]::Z.drop (i+1):=by
  unfold yO;rw[<-D,<-hF]
  conv=>lhs;rw[N]
  simp
 have W:=h.own;rw[z]at W;obtain⟨T,R⟩:=Own.swap (w':=w1) W (r':=zz v xs) (fun k hk _=>A.block k hk) (vr hn) (fun g hg=>Or.inr (hn.lt g hg).1);have x:([jy X.fv X.xg p.zH,zz X.vv p.vars,YF X.cv X.kB p.cells.length,zz X.ov p.out]++(F++Z.take i))++zz v xs::Z.drop (i+1)=[jy X.fv X.xg p.zH,zz X.vv p.vars]++YF X.cv X.kB p.cells.length::(zz X.ov p.out::(F++Z.set i (zz v xs))):=by
  rw[s2];simp
 rw[x]at T R;have hrow:w1.ownsRow 0 24 1 X.cv p.cells.length X.kB:=yG h.eB A;obtain⟨ad,cap,j⟩:=zK hrow;have V:X.cv=.slice (some ⟨g,0,none⟩) p.cells.length cap:=by
  rcases hrow.2 with⟨G,_⟩| ⟨g',cap',cur,G,_⟩
  ·rw[G]at hg;cases hg
  ·rw[G]at hg j;simp[Value.ownBlock]at hg;injection j with _ _ j;rw[G,hg,j]
 have f:=hrow;rw[V]at f;have f:=(f.stored i v).1;rw[<-V]at f;have d:∀k,k≠g->(w1.setCell ⟨g,i,none⟩ v).heap[k]?=w1.heap[k]?:=fun k hk=>zO w1 ⟨g,i,none⟩ _ k hk;obtain⟨O,o4⟩:=Own.swap (w':=w1.setCell ⟨g,i,none⟩ v) T (r':=YF X.cv (X.kB.set i v) p.cells.length) (fun k _ hk=>d k (fun e=>hk (by rw[e];exact hg))) f (fun g' hg'=>Or.inl hg');have y:yO { X with kB:=X.kB.set i v } { p with cells:=p.cells.set i xs }=[jy X.fv X.xg p.zH,zz X.vv p.vars]++YF X.cv (X.kB.set i v) p.cells.length::(zz X.ov p.out::(F++Z.set i (zz v xs))):=by
  unfold yO;simp only[uC,jD,<-D,<-hF];simp
 rw[<-y]at O o4;have hcase:∀k∈xh (yO { X with kB:=X.kB.set i v } { p with cells:=p.cells.set i xs }),k∈xh (yO X p)\/w.heap.size<=k:=by
  intro k hk;rcases o4 k hk with hk | hk
  ·rw[z];exact R k hk
  ·have:=A.size;exact Or.inr (by omega)
 refine⟨⟨by rw[d P (xK M)];exact zU h.block A,O,h.fl,by simp[h.cl],fun k hk=>?_,h.here⟩,yx (A.mono hB) (h.new g o) _ _⟩;rcases hcase k hk with hk | hk
 ·exact h.new k hk
 ·omega
theorem Xd.ZX (h:Xd w B p X):∃xa xc ya yc za zc oa oc,X.fv=.slice xa p.zH.length xc/\X.vv=.slice ya p.vars.length yc/\X.cv=.slice za p.cells.length zc/\X.ov=.slice oa p.out.length oc:=by
 obtain⟨xa,xc,i⟩:=zK (h.own.rows (jy X.fv X.xg p.zH) (by simp[yO]));obtain⟨ya,yc,f⟩:=zK (h.own.rows (zz X.vv p.vars) (by simp[yO]));obtain⟨za,zc,d⟩:=zK (h.own.rows (YF X.cv X.kB p.cells.length) (by simp[yO]));obtain⟨oa,oc,j⟩:=zK (h.own.rows (zz X.ov p.out) (by simp[yO]));exact⟨xa,xc,ya,yc,za,zc,oa,oc,i,f,d,j⟩
theorem Xd.zP {w w':World} {B:Nat} {p:Rf.Pl} {X:Qg} (h:Xd w B p X) (d:Below w.heap.size w w'):Xd w' B p X:=⟨h.own.zP d,h.fl,h.cl,h.new⟩
section
variable (f:Nat -> Rf.Pl)
def trC:Nat->List Qg->List Value
 | _,[]=>[]
 | i,X::r=>(jh X.fv X.vv X.cv X.ov (f i)).toList++trC (i+1) r
theorem np:∀i xs (X:Qg),trC f i (xs++[X])=trC f i xs++(jh X.fv X.vv X.cv X.ov (f (i+xs.length))).toList
 | i,[],X=>by simp[trC]
 | i,Y::r,X=>by
  rw[yF,trC,trC,np (i+1) r X,yK];simp only[yE];rw[show i+1+r.length=i+(r.length+1) by omega]
theorem uH:∀i (xs:List Qg) k (h:k < xs.length) j (hj:j < 7),(trC f i xs)[k*7+j]?=some ((jh xs[k].fv xs[k].vv xs[k].cv xs[k].ov (f (i+k)))[j]'(by simpa[jh] using hj))
 | _,[],k,h,_,_=>by simp at h
 | i,X::r,0,_,j,hj=>by
  have d:(jh X.fv X.vv X.cv X.ov (f i)).toList.length=7:=by simp[jh]
  rw[trC,Nat.zero_mul,xW,yp (by omega)];simp
 | i,X::r,k+1,h,j,hj=>by
  have d:(jh X.fv X.vv X.cv X.ov (f i)).toList.length=7:=by simp[jh]
  have:=uH (i+1) r k (by simpa using h) j hj;rw[trC,yU (by omega),d,show (k+1)*7+j-7=k*7+j by omega,this];simp only[yH];rw[show i+1+k=i+(k+1) by omega]
end
structure iQ where
 sb:Nat
 sg:Nat
 sc:Nat
 iv:Value
 tv:Value
 rv:Value
 mv:Value
 xs:List Qg
def Du (Y:iQ) (cap:Int) (n low:Nat):Array Value:=#[.pointer (some ⟨Y.sb,0,none⟩),Y.iv,.int .i64 cap,Y.tv,Y.rv,.int .i64 n,.int .i64 low,Y.mv]
def sC (S:Rt.Src) (n:Nat):List Int:=(List.range n).map (fun i=>((ku S i).length:Int))
def ZN (zL:List Rt.PL) (S:Rt.Src) (i:Nat):Rf.Pl:=Rf.yT zL (Rt.atM S i)
structure vg (w:World) (C:Nat) (zL:List Rt.PL) (ls:List (List ByteArray)) (S:Rt.Src) (cap:Int) (len n low:Nat) (mk:List Bool) (Y:iQ):Prop where
 block:w.heap[C]?=some (.cells (Du Y cap n low) 109 (0,0))
 src:jA w Y.sb Y.sg Y.sc ls
 qo:w.ownsRow 0 3 1 Y.iv S.input.length (xR S.input)
 tr:w.ownsRow 0 72 7 Y.tv (len+1) (trC (ZN zL S) 0 Y.xs)
 xl:Y.xs.length=len+1
 GV:∀i (h:i < Y.xs.length),Xd w 0 (ZN zL S i) Y.xs[i]
 oH:w.ownsRow 0 3 1 Y.rv len (xR (sC S len))
 Yw:w.ownsRow 0 4 1 Y.mv mk.length (mk.map Value.bool)
 iP:∀g,Y.rv.ownBlock=some g->Y.iv.ownBlock≠some g/\∀i (h:i < Y.xs.length),g∉xh (yO Y.xs[i] (ZN zL S i))
def Ev (C:Nat) (Y:iQ):List Nat:=C::(Y.tv.ownBlock.toList++Y.rv.ownBlock.toList++Y.mv.ownBlock.toList)
def Gn (zL:List Rt.PL) (S:Rt.Src):Nat->List Qg->List Nat
 | _,[]=>[]
 | i,X::r=>xh (yO X (ZN zL S i))++Gn zL S (i+1) r
def Dt (zL:List Rt.PL) (S:Rt.Src) (C:Nat) (Y:iQ):List Nat:=Ev C Y++(Y.iv.ownBlock.toList++Gn zL S 0 Y.xs)
theorem td {zL:List Rt.PL} {S:Rt.Src}:∀{i:Nat} {xs:List Qg} {k:Nat} (h:k < xs.length) {g:Nat},g∈xh (yO xs[k] (ZN zL S (i+k)))->g∈Gn zL S i xs
 | _,[],k,h,_,_=>by simp at h
 | i,X::r,0,_,g,hg=>zY _ (by simpa using hg)
 | i,X::r,k+1,h,g,hg=>by
  refine zb _ (td (i:=i+1) (k:=k) (by simpa using h) ?_);rw[show i+1+k=i+(k+1) by omega];simpa using hg
theorem nM {zL:List Rt.PL} {S:Rt.Src}:∀{i:Nat} {xs:List Qg} {g:Nat},g∈Gn zL S i xs->∃k,∃h:k < xs.length,g∈xh (yO xs[k] (ZN zL S (i+k)))
 | _,[],_,hg=>by simp[Gn]at hg
 | i,X::r,g,hg=>by
  rcases zd.mp hg with hg | hg
  ·exact⟨0,by simp,by simpa using hg⟩
  ·obtain⟨k,h,d⟩:=nM hg;refine⟨k+1,by simpa using h,?_⟩;rw[show i+(k+1)=i+1+k by omega];simpa using d
section
variable {w w':World} {C:Nat} {zL:List Rt.PL} {ls:List (List ByteArray)} {S:Rt.Src} {cap:Int} {len n low:Nat} {mk:List Bool} {Y:iQ}
theorem YY {o:Option Nat} (h:o=some g):g∈o.toList:=by rw[h];simp
theorem vg.stay (h:vg w C zL ls S cap len n low mk Y) (j:∀k∈Dt zL S C Y,w'.heap[k]?=w.heap[k]?) (o:∀k t,FG t->qm w k t->w'.heap[k]?=w.heap[k]?):vg w' C zL ls S cap len n low mk Y:=by
 have f:∀k∈Ev C Y,w'.heap[k]?=w.heap[k]?:=fun k hk'=>j k (zY _ hk');refine⟨(f C (xB ..)).trans h.block,h.src.stay o,yP h.qo (fun g hg=>j g (zb _ (zY _ (YY hg)))),yP h.tr (fun g hg=>f g ?_),h.xl,fun i hi=>?_,yP h.oH (fun g hg=>f g ?_),yP h.Yw (fun g hg=>f g ?_),h.iP⟩
 ·exact zm _ (zY _ (zY _ (YY hg)))
 ·have d:=h.GV i hi;refine⟨⟨fun r hr=>yP (d.own.rows r hr) (fun g hg=>j g (zb _ (zb _ (td (i:=0) hi ?_)))),d.own.apart⟩,d.fl,d.cl,d.new⟩;rw[xW];exact qU hr hg
 ·exact zm _ (zY _ (zb _ (YY hg)))
 ·exact zm _ (zb _ (YY hg))
theorem vg.lt (h:vg w C zL ls S cap len n low mk Y) {k:Nat} (hk:k∈Dt zL S C Y):k < w.heap.size:=by
 have d:∀{o:Option Nat} {g:Nat},g∈o.toList->o=some g:=fun hg=>by simpa using hg
 rcases zd.mp hk with hk | hk
 ·rcases zw.mp hk with rfl | hk
  ·exact zQ h.block
  ·rcases zd.mp hk with hk | hk
   ·rcases zd.mp hk with hk | hk
    ·exact(h.tr.lt k (d hk)).2
    ·exact(h.oH.lt k (d hk)).2
   ·exact(h.Yw.lt k (d hk)).2
 ·rcases zd.mp hk with hk | hk
  ·exact(h.qo.lt k (d hk)).2
  ·obtain⟨i,f,hg⟩:=nM hk;rw[xW]at hg;exact(h.GV i f).own.lt k hg
theorem vg.zP (h:vg w C zL ls S cap len n low mk Y) (d:Below w.heap.size w w'):vg w' C zL ls S cap len n low mk Y:=
 h.stay (fun k hk=>d.block k (h.lt hk)) (fun k _ _ ⟨_,hc⟩=>d.block k (zQ hc))
theorem vg.cells (h:vg w C zL ls S cap len n low mk Y) (o:k<=len):∃g c X,Y.xs[k]?=some X/\Y.tv=.slice (some ⟨g,0,none⟩) (len+1) c/\Xd w 0 (ZN zL S k) X/\∀j (hj:j < 7),w.cell? ⟨g,k*7+j,none⟩=some ((jh X.fv X.vv X.cv X.ov (ZN zL S k))[j]'(by simpa[jh] using hj)):=by
 have f:k < Y.xs.length:=by rw[h.xl];omega
 have i:=uH (ZN zL S) 0 Y.xs k f;rw[xW]at i;obtain⟨g,c,e,_,_,_⟩:=yD h.tr (i 0 (by omega));refine⟨g,c,Y.xs[k],zJ f,e,h.GV k f,fun j hj=>?_⟩;obtain⟨g',x,d,_,_,r⟩:=yD h.tr (i j hj);rw[e]at d;injection d with d _ _;injection d with d;injection d with d;subst d;exact r
end
theorem gA {z:Value}:(madeCells #[z] n).toList=List.replicate n z:=by
 apply qw
 ·simp[madeCells]
 ·intro i f d;simp[madeCells,Nat.mod_one]
theorem oy (w:World) (n:Nat) (j t:TypeId) (h:TypeInfo) (z:Value) (x:Tryz.prog.underlying j=some (.slice t)) (D:Tryz.prog.info? t=some h) (G:h.zero=some z) (F:h.size=1) (o:z.cells=#[z]) (y:h.bytes*n<=281474976710656) (A:n<=maxLen):∃w',(Instr.makeSlice j (.int .i64 (n:Int)) (.int .i64 (n:Int))).run Tryz.prog w=.ok (.slice (some ⟨w.heap.size,0,none⟩) n n) w'/\w'.ownsRow w.heap.size t 1 (.slice (some ⟨w.heap.size,0,none⟩) n n) n (List.replicate n z)/\Below w.heap.size w w'/\w.heap.size+1<=w'.heap.size:=by
 obtain⟨w1,i,f,d⟩:=run_make_full (P:=Tryz.prog) w w.heap.size j t h z 1 x D G F .i64 .i64 n y A (zB _);rw[o,Kn,gA]at f;exact⟨w1,i,f,⟨d.os,d.tape,d.output,d.size,fun k hk=>d.block k hk (by simp)⟩,(f.lt w.heap.size rfl).2⟩
theorem lp:List.replicate n (Value.int .i64 0)=xR (List.replicate n 0):=by simp[xR]
def bW (cn:Nat->Nat) (k i:Nat):List Int:=if i=0 then []else if i<=k then List.replicate (cn (i-1)) 0 else []
def Xg (n D:Nat) (cn:Nat->Nat) (k:Nat) (l:Int):Rf.Pl:=⟨[⟨D+1,[],0⟩],List.replicate (n+1) 0,(List.range (n+1)).map (bW cn k),0,[],l,0⟩
theorem sO (d:Nat->Nat):(⟨[⟨D+1,[],0⟩],List.replicate (n+1) 0,List.replicate (n+1) [],0,[],l,0⟩:Rf.Pl)=Xg n D d 0 l:=by
 unfold Xg;simp only[Rf.Pl.mk.injEq,jH,jJ];apply qw
 ·simp
 ·intro i j f;simp only[List.getElem_replicate,qc,vn];unfold bW;by_cases h:i=0
  ·rw[zE h]
  ·rw[zA h,zA (by omega)]
theorem sP (d:Nat->Nat) (h:d k=0):Xg n D d (k+1) l=Xg n D d k l:=by
 unfold Xg;simp only[Rf.Pl.mk.injEq,jH,jJ];refine vT (fun i _=>?_);unfold bW;by_cases h0:i=0
 ·rw[zE h0,zE h0]
 ·rw[zA h0,zA h0];by_cases h1:i<=k
  ·rw[zE h1,zE (by omega)]
  ·rw[zA h1];by_cases h2:i<=k+1
   ·rw[zE h2,show i-1=k by omega,h];rfl
   ·rw[zA h2]
theorem AO (d:Nat->Nat):Xg n D d (k+1) l={ Xg n D d k l with cells:=(Xg n D d k l).cells.set (k+1) (List.replicate (d k) 0) }:=by
 unfold Xg;simp only[Rf.Pl.mk.injEq,jH,jJ];refine cQ _ _ _ (fun _=>?_) (fun i hi=>?_)
 ·unfold bW;rw[zA (by omega),zE (zB _),zu]
 ·unfold bW;by_cases h0:i=0
  ·rw[zE h0,zE h0]
  ·rw[zA h0,zA h0];by_cases h1:i<=k
   ·rw[zE h1,zE (by omega)]
   ·rw[zA h1,zA (by omega)]
theorem AP (cn:Nat->Nat):Xg ls.length D cn ls.length (Rf.jc ls (D+1):Nat)=qu ls D cn:=by
 unfold Xg qu;simp only[Rf.Pl.mk.injEq,jH,jJ];rw[List.range_succ_eq_map,qp,Jz];congr 1;refine vT (fun i hi=>?_);have d:i < ls.length:=by simpa using hi
 show bW cn ls.length (i+1)=_;unfold bW;rw[zA (by omega),zE (by omega),zu]
theorem qm.ne {b:Nat} {u:TypeId} (i:qm w a t) (f:qm w b u) (h:t≠u):¬a=b:=by
 rintro rfl;obtain⟨c,i⟩:=i;obtain⟨d,f⟩:=f;rw[i]at f;injection f with f;injection f with _ f;exact h f
theorem qm.lt (h:qm w a t):a < w.heap.size:=by
 obtain⟨c,h⟩:=h;exact zQ h
theorem qm.intro {c:Array Value} (h:w.heap[a]?=some (.cells c t (0,0))):qm w a t:=⟨c,h⟩
abbrev eu:Array Value:=#[.slice none 0 0,.slice none 0 0,.slice none 0 0,.int .i64 0,.slice none 0 0,.int .i64 0,.int .i64 0]
theorem A6 {S cap:Nat} (D:Nat) (cn:Nat->Nat) (hG:jA w S g cap ls) (hL:Lawful ls) (a2:Rf.nested ls=0) (hD:Rf.decl ls ⟨#[109,97,105,110]⟩=D+1) (o2:D < ls.length) (hA:∀k (hk:k < ls.length),((Rf.first ls[k]).toList==[97,114,114,97,121])=true->∃h:2 < ls[k].length,Rf.worth ls[k][2]=(cn k:Nat)/\cn k<=1000) (hZ:∀k (hk:k < ls.length),((Rf.first ls[k]).toList==[97,114,114,97,121])=false->cn k=0):Calls Tryz.prog 54 #[.pointer (some ⟨S,0,none⟩)] w fun e w'=>Below w.heap.size w w'/\∃fv vv cv ov,e=.returned (.agg (jh fv vv cv ov (qu ls D cn)))/\PlW w' w.heap.size fv vv cv ov (qu ls D cn):=by
 obtain⟨i0,i2,g6,g5,g4⟩:=yi XL;obtain⟨s0,k1,j9,j8,j7⟩:=yi cj;obtain⟨j0,k3,j6,j5,j4⟩:=yi Vz;have HG:=zD hG;have b5:=hL.len;have HL:=zD hL;have l6:=zD hA;have k6:=zD hZ;have l5:=zD (show ∀w',jA w' S g cap ls->Calls Tryz.prog 94 #[.pointer (some ⟨S,0,none⟩),.int .i64 (((D+1:Nat):Int)+1)] w' fun e w''=>e=.returned (.int .i64 (Rf.jc ls (D+1)))/\Below w'.heap.size w' w'' from fun w' hG=>ai (D+1) hG (by omega) b5 a2);have HD:=zD hD;clear hG hL hA hZ a2 hD;go_enter func54,ntmps54;go_wp2_with fail;have b2:=(zI w.heap.size w).alloc (zB _) (.cells eu 72);have h7:=zN w (.cells eu 72);refine(qg _ (HG.u.zP b2) HL.u).mono ?_;generalize w.alloc (.cells eu 72)=wa at *;rintro e w1 ⟨rfl,f5⟩;rw[HD.u];have d1:=zU h7 f5;have b6:=b2.trans (f5.mono (B':=w.heap.size) b2.size);have Z:=zQ d1;have b4:=qG b6 d1;clear b2 h7 f5 d1 b6;have d0:=zN w1 (.cells eu 72);have a7:(w1.alloc (.cells eu 72)).heap.size=w1.heap.size+1:=by simp
 have j2:vC (w1.alloc (.cells eu 72)) w1.heap.size w1.heap.size ⟨[],[],[],0,[],0,0⟩ CW:=vC.start rfl rfl rfl rfl d0 (zB _);have i5:=(zI w1.heap.size w1).alloc (zB _) (.cells eu 72);go_wp2_with (at_builtin;refine wpList_append_lies _ rfl _ _ 70 rfl 0 130 j0 _ 3 40 underlying70 k3 j6 j5 j4 rfl (by decide) _ 0 [] rfl (zW _ _ _ _) ⟨w1.heap.size+1,0,none⟩ 1 1 [.int .i64 ((D:Int)+1),.slice none 0 0,.int .i64 0] rfl rfl (World.news_of_block (cs:=#[.int .i64 ((D:Int)+1),.slice none 0 0,.int .i64 0]) (t:=130) (fr:=(0,0)) (by have:=zN (w1.alloc (.cells eu 72)) (.cells #[.int .i64 ((D:Int)+1),.slice none 0 0,.int .i64 0] 130);rw[a7]at this;exact this)) (by simp[Value.oneCell']) (by omega) (by unfold maxLen;omega) (by omega) (zo _) (w1.heap.size+1+1) (by simp) ?_);intro g' cap' G a0 M hat h8;have k5:g'=w1.heap.size+1+1:=by rcases hat with h | h;simp[Value.ownBlock]at h;exact h
 have i6:=(zI _ (w1.alloc (.cells eu 72))).alloc (zB _) (.cells #[.int .i64 ((D:Int)+1),.slice none 0 0,.int .i64 0] 130);have T:vC (G.setCell ⟨w1.heap.size,0,none⟩ (.slice (some ⟨g',0,none⟩) 1 cap')) w1.heap.size w1.heap.size ⟨[⟨D+1,[],0⟩],[],[],0,[],0,0⟩ ⟨.slice (some ⟨g',0,none⟩) 1 cap',.slice none 0 0,.slice none 0 0,.slice none 0 0,[.slice none 0 0],[]⟩/\_:=j2.cU (by rw[a7];omega) (zI _ _) i6 (.slice none 0 0) ⟨D+1,[],0⟩ (zW _ _ _ _) M (.slice (some ⟨g',0,none⟩) 1 cap') a0 (fun q hq=>by simp[Value.ownBlock]at hq;subst hq;exact Or.inr (by rw[a7];omega));have f9:G.heap[w1.heap.size]?=some (.cells eu 72 (0,0)):=(M.block _ (by simp;omega) (by simp[Value.ownBlock])).trans (yR d0 _);have k0:w1.heap.size+3<=G.heap.size:=by omega
 clear k5 h8;have d9:=i5.trans T.2;have T:=T.1;clear M hat i5 d0 a7 i6 j2 a0;have a9:(G.setCell ⟨w1.heap.size,0,none⟩ (.slice (some ⟨g',0,none⟩) 1 cap')).heap.size=G.heap.size:=by simp[World.setCell]
 obtain⟨V,I,L,d8,h0⟩:=oy (G.setCell ⟨w1.heap.size,0,none⟩ (.slice (some ⟨g',0,none⟩) 1 cap')) (ls.length+1) 24 3 i0 (.int .i64 0) underlying24 i2 g6 g5 rfl (by rw[g4];omega) (by unfold maxLen;omega);rw[a9]at I L h0;have R:vC (V.setCell ⟨w1.heap.size,1,none⟩ (.slice (some ⟨G.heap.size,0,none⟩) (ls.length+1) (ls.length+1))) w1.heap.size w1.heap.size ⟨[⟨D+1,[],0⟩],List.replicate (ls.length+1) 0,[],0,[],0,0⟩ ⟨.slice (some ⟨g',0,none⟩) 1 cap',.slice (some ⟨G.heap.size,0,none⟩) (ls.length+1) (ls.length+1),.slice none 0 0,.slice none 0 0,[.slice none 0 0],[]⟩/\_:=T.uU (by rw[a9];omega) d8 (.slice (some ⟨G.heap.size,0,none⟩) (ls.length+1) (ls.length+1)) (List.replicate (ls.length+1) 0) (by rw[a9,qN,<-lp];exact L);have d7:=d9.trans R.2;have f8:=zU T.block d8;have R:=R.1;rw[show ((ls.length+1:Nat):Int)=(ls.length:Int)+1 from rfl]at I;have a8:(V.setCell ⟨w1.heap.size,1,none⟩ (.slice (some ⟨G.heap.size,0,none⟩) (ls.length+1) (ls.length+1))).heap.size=V.heap.size:=by simp[World.setCell]
 obtain⟨w8,H,J,d5,g9⟩:=oy (V.setCell ⟨w1.heap.size,1,none⟩ (.slice (some ⟨G.heap.size,0,none⟩) (ls.length+1) (ls.length+1))) (ls.length+1) 28 24 s0 (.slice none 0 0) underlying28 k1 j9 j8 rfl (by rw[j7];omega) (by unfold maxLen;omega);rw[a8]at H J g9;have g0:vC (w8.setCell ⟨w1.heap.size,2,none⟩ (.slice (some ⟨V.heap.size,0,none⟩) (ls.length+1) (ls.length+1))) w1.heap.size w1.heap.size ⟨[⟨D+1,[],0⟩],List.replicate (ls.length+1) 0,List.replicate (ls.length+1) [],0,[],0,0⟩ ⟨.slice (some ⟨g',0,none⟩) 1 cap',.slice (some ⟨G.heap.size,0,none⟩) (ls.length+1) (ls.length+1),.slice (some ⟨V.heap.size,0,none⟩) (ls.length+1) (ls.length+1),.slice none 0 0,[.slice none 0 0],List.replicate (ls.length+1) (.slice none 0 0)⟩/\_:=R.EZ (by rw[a8];omega) d5 (.slice (some ⟨V.heap.size,0,none⟩) (ls.length+1) (ls.length+1)) (ls.length+1) rfl rfl (by rw[a8];exact J);have i7:=d7.trans g0.2;have f7:=zU R.block d5;rw[show ((ls.length+1:Nat):Int)=(ls.length:Int)+1 from rfl]at H;have d4:=(HG.u.zP (b4.u.1.trans (d9.mono (B':=w.heap.size) (by omega)))).top;have d6:=(HG.u.zP (b4.u.1.trans (d7.mono (B':=w.heap.size) (by omega)))).top;have l9:S < w.heap.size:=zt _ _ HG.u.top;have i8:¬S=w1.heap.size:=by omega
 have o1:¬w1.heap.size=S:=by omega
 have c4:=(X0 (i:=0) (zO G ⟨w1.heap.size,0,none⟩ (.slice (some ⟨g',0,none⟩) 1 cap') S i8)).symm.trans d4;have c6:=(X0 (i:=0) (zO V ⟨w1.heap.size,1,none⟩ (.slice (some ⟨G.heap.size,0,none⟩) (ls.length+1) (ls.length+1)) S i8)).symm.trans d6;clear d4 d6;have p4:G.cell? ⟨w1.heap.size,0,none⟩=some (.slice none 0 0):=zC f9 0 (by simp);have p6:V.cell? ⟨w1.heap.size,1,none⟩=some (.slice none 0 0):=zC f8 1 (by simp[jh]);have p8:w8.cell? ⟨w1.heap.size,2,none⟩=some (.slice none 0 0):=zC f7 2 (by simp[jh]);have z4:=zS f9;have z6:=zS f8;have z8:=zS f7;have n9:IntKind.i64.wrap ((ls.length:Int)+1)=(ls.length:Int)+1:=zl _ ⟨by omega,by omega⟩;have g1:=qG g0.1 i7;clear f9 f8 f7 d9 d8 d7 d5 i7 T R g0 L J;go_wp2_with fail;generalize (w8.setCell ⟨w1.heap.size,2,none⟩ (.slice (some ⟨V.heap.size,0,none⟩) (ls.length+1) (ls.length+1)))=w9 at *;clear I H c4 c6 p4 p6 p8 z4 z6 z8 k0 a9 h0 a8 g9;generalize V.heap.size=GC at *;go_loopw [5] (fun i wr=>∃(k:Nat) (X:Qg),k<=ls.length/\i=.int .i64 ((k:Int)+1)/\X.cv=.slice (some ⟨GC,0,none⟩) (ls.length+1) (ls.length+1)/\(∀j,k < j->j<=ls.length->X.kB[j]?=some (.slice none 0 0))/\vC wr w1.heap.size w1.heap.size (Xg ls.length D cn k 0) X/\Below w.heap.size w wr/\wr.heap[w.heap.size]?=some (.cells eu 72 (0,0)))
  (fun i _=>ls.length+1-(intOf i).toNat)
 case atStart=>
  refine⟨0,_,zo _,rfl,rfl,fun j _ hj=>?_,by rw[<-sO];exact g1.u.1,b4.u.1.trans (g1.u.2.mono (B':=w.heap.size) (by omega)),(g1.u.2.block _ Z).trans b4.u.2⟩;rw[YP,zE (by omega)]
 case round=>
  obtain⟨k,X,hk,rfl,d2,a1,hO,b1,hR⟩:=hrel;have N:=HG.u.zP b1;have cT:=N.top;have m0:=zQ hO.block;have HI:=DA d2 a1 hO b1 hR;by_cases hlt:k < ls.length
  ·have h9:(k:Int)+1<=(ls.length:Int):=by omega
   clear d2 a1 hO b1 hR;go_wp2_with fail;refine(xz k N hlt b5).mono ?_;rintro e w2 ⟨rfl,f⟩;have d:=HI.u.2.2.1.zP f;have O:=HI.u.2.2.2.1.trans (f.mono (B':=w.heap.size) HI.u.2.2.2.1.size);have A:=zU HI.u.2.2.2.2 f;have g3:=XX d O A;have HA:=zD (l6.u k hlt);have HZ:=zD (k6.u k hlt);cases hz:((Rf.first ls[k]).toList==[97,114,114,97,121])with
   | false=>
    have hcn:=HZ.u hz;clear f d O A N cT;generalize Rf.first ls[k]=z at *;go_wp2_with fail;go_roundw
    case rel=>exact⟨k+1,X,by omega,by go_num,HI.u.1,fun j h1 h2=>HI.u.2.1 j (by omega) h2,by rw[sP _ hcn];exact g3.u.1,g3.u.2.1,g3.u.2.2⟩
    case measure=>simp[intOf];omega
   | true=>
    obtain⟨b3,g7,hcn⟩:=HA.u hz;have F:=N.zP f;have o3:=F.top;obtain⟨ad,c,cL,hst⟩:=F.row k hlt;have q2:w2.cell? ⟨w1.heap.size,2,none⟩=some X.cv:=zC d.block 2 (by simp[jh]);rw[HI.u.1]at q2;have g8:=HL.u.XO hlt;obtain⟨o4,c',he,_,hst⟩:=hst;injection he with he1 he2 he3;subst he1 he3;rcases hst with h | ⟨b,o,rfl,hst⟩
    ·rw[h]at b3;simp at b3
    have cX:=hst 2 b3;have m6:=g8.2 ls[k][2] (zj b3);have d3:(Xg ls.length D cn k 0).cells.length=ls.length+1:=by simp[Xg]
    obtain⟨g2,c2,e2,_,_,cG⟩:=yD d.eB (j:=k+1) (HI.u.2.1 (k+1) (by omega) (by omega));have k4:=yW d.eB (g:=GC) (by rw[HI.u.1];rfl);rw[HI.u.1,d3]at e2;have e2:g2=GC:=by simp at e2;exact e2.1.symm
    subst e2;obtain⟨gc,b0⟩:=k4;have zG:=zS b0 (k+1);have a4:qm w2 g2 24:=⟨gc,b0⟩;have f6:=F.tys k _ cL hlt b rfl;have n1:=a4.ne (qm.intro d.block) (by decide);have n2:=a4.ne F.ty.1 (by decide);have n3:=a4.ne F.ty.2 (by decide);have n4:=a4.ne f6 (by decide);have m1:=xK n1;have m2:=xK n2;have m3:=xK n3;have m4:=xK n4;have l1:=zQ d.block;have l2:=F.ty.1.lt;have l3:=F.ty.2.lt;have l4:=f6.lt;have j3:=zQ b0;have n8:=fun W=>run_make_row (P:=Tryz.prog) 24 3 i0 (.int .i64 0) underlying24 i2 g6 g5 rfl .i64 .i64 (cn k) (by rw[g4];omega) (by omega) W;have m7:IntKind.i64.wrap ((k:Int)+1-1)=k:=by rw[show (k:Int)+1-1=(k:Int) by omega];exact zl _ ⟨by omega,by omega⟩
    have m8:IntKind.i64.wrap (k:Int)=k:=zl _ ⟨by omega,by omega⟩;have o0:(k:Int) < (ls.length:Int):=by omega
    have l7:(k:Int)+1 < (ls.length:Int)+1:=by omega
    have l8:(0:Int)<=(k:Int)+1:=by omega
    have m5:(2:Int) < (ls[k].length:Int):=by omega
    have k7:=zD g7;have i3:=(zI w2.heap.size w2).alloc (zB _) (.cells (madeCells #[.int .i64 0] (cn k)) 3);have h6:(w2.alloc (.cells (madeCells #[.int .i64 0] (cn k)) 3)).ownsRow w2.heap.size 3 1 (.slice (some ⟨w2.heap.size,0,none⟩) (cn k) (cn k)) (List.replicate (cn k) (0:Int)).length (xR (List.replicate (cn k) 0)):=by
     rw[qN,<-lp,<-gA];exact⟨by simp[madeCells],Or.inr ⟨_,_,_,rfl,zB _,zN w2 _,zB _,by unfold maxLen;omega,by simp[madeCells],by rw[yw (by simp[madeCells])]⟩⟩
    have a6:=d.F3 (i:=k+1) (g:=g2) (by have:=zQ d.block;omega) i3 (by rw[d3];omega) (by rw[HI.u.1];rfl) (HI.u.2.1 (k+1) (by omega) (by omega)) (.slice (some ⟨w2.heap.size,0,none⟩) (cn k) (cn k)) (List.replicate (cn k) 0) h6;rw[World.setCell_alloc_past _ _ _ _ j3,<-AO]at a6;have l0:=XX a6.1 (O.trans (a6.2.mono (B':=w.heap.size) (by omega))) ((a6.2.block _ Z).trans A);clear i3 h6 a6;have x1:w2.heap.size≠w1.heap.size:=by omega
    have x2:w2.heap.size≠S:=by omega
    have x3:w2.heap.size≠g:=by omega
    have x4:w2.heap.size≠b:=by omega
    have x5:w2.heap.size≠g2:=by omega
    clear f d O A N cT b0 hst g8 F g7 HA HZ d3 a4 f6;generalize ls[k][2]=x at *;generalize ls[k].length=ll at *;generalize Rf.first ls[k]=z at *;go_wp2_with fail;go_region_held3 (fun w'=>w'.cell? ⟨w1.heap.size,2,none⟩=some (.slice (some ⟨g2,0,none⟩) (ls.length+1) (ls.length+1))/\w'.cell? ⟨S,0,none⟩=some (.slice (some ⟨g,0,none⟩) ls.length cap)/\w'.cell? ⟨g,k,none⟩=some (.slice (some ⟨b,o,none⟩) ll c)/\w'.cell? ⟨b,o+2,none⟩=some (.string x)) (go_keep) ((go_at_call 93;refine(bx x (by unfold maxLen;omega)).mono ?_;rintro e w' ⟨rfl,rfl⟩;rw[k7.u]));go_wp2_with fail;go_roundw
    case rel=>
     obtain⟨f1,f2,f3⟩:=l0.u;refine⟨k+1,{ X with kB:=X.kB.set (k+1) (.slice (some ⟨w2.heap.size,0,none⟩) (cn k) (cn k)) },by omega,by go_num,HI.u.1,fun j h1 h2=>?_,f1.zP (zh _),f2.trans ((zh _).mono f2.size),zU f3 (zh _)⟩;rw[show ({ X with kB:=X.kB.set (k+1) (.slice (some ⟨w2.heap.size,0,none⟩) (cn k) (cn k)) }:Qg).kB=X.kB.set (k+1) (.slice (some ⟨w2.heap.size,0,none⟩) (cn k) (cn k))from rfl,List.getElem?_set_ne (by omega)];exact HI.u.2.1 j (by omega) h2
    case measure=>simp[intOf];omega
  ·have h9:¬(k:Int)+1<=(ls.length:Int):=by omega
   have k2:k=ls.length:=by omega
   subst k2;clear d2 a1 hO b1 hR;go_wp2_with fail;refine(l5.u _ N).mono ?_;rintro e w2 ⟨rfl,f⟩;have d:=(HI.u.2.2.1.zP f);have hq:=d.block;have q5:w2.cell? ⟨w1.heap.size,5,none⟩=some (.int .i64 0):=zC hq 5 (by simp[jh]);have z5:=zS hq 5;obtain⟨U,f0⟩:=d.Qj (Rf.jc ls (D+1):Nat);have j1:({ Xg ls.length D cn ls.length 0 with line:=(Rf.jc ls (D+1):Nat) }:Rf.Pl)=qu ls D cn:=by rw[<-AP];rfl
   rw[j1]at U;have b7:=HI.u.2.2.2.1.trans ((f.mono (B':=w.heap.size) HI.u.2.2.2.1.size).trans (f0.mono (B':=w.heap.size) (by omega)));have i9:=(f0.block _ Z).trans (zU HI.u.2.2.2.2 f);obtain⟨xa,xc,ya,yc,za,zc,oa,oc,f1,f2,f3,f4⟩:=U.ZX;have i4:=U.block;have b8:jh X.fv X.vv X.cv X.ov (qu ls D cn)=#[.slice xa (qu ls D cn).zH.length xc,.slice ya (qu ls D cn).vars.length yc,.slice za (qu ls D cn).cells.length zc,.int .i64 (qu ls D cn).read,.slice oa (qu ls D cn).out.length oc,.int .i64 (qu ls D cn).line,.int .i64 (qu ls D cn).fin]:=by rw[f1,f2,f3,f4];rfl
   have A:=zU HI.u.2.2.2.2 f;have c0:0 < (qu ls D cn).zH.length:=by simp[qu]
   have b9:0 < (qu ls D cn).cells.length:=by simp[qu]
   obtain⟨n0,n1,n2,n3,n4,n5,n6⟩:=seven A;have zn:=zS A;have zq:=zS hq;obtain⟨y,a5⟩:∃y,y=qu ls D cn:=⟨_,rfl⟩;have i1:((Rf.jc ls (D+1):Nat):Int)=y.line:=by rw[a5];rfl
   rw[<-a5]at U b8 c0 b9 f1 f2 f3 f4;have h5:jh X.fv X.vv X.cv X.ov (Xg ls.length D cn ls.length 0)=#[.slice xa y.zH.length xc,.slice ya y.vars.length yc,.slice za y.cells.length zc,.int .i64 y.read,.slice oa y.out.length oc,.int .i64 0,.int .i64 y.fin]:=by rw[f1,f2,f3,f4,a5];rfl
   rw[h5]at hq;have a3:=Xd.w7 (w0:=w) (U.rows.mono (B':=w.heap.size) (by omega)) i9 b7 (zB _) (.slice xa y.zH.length xc) (.slice ya y.vars.length yc) (.slice za y.cells.length zc) (.int .i64 y.read) (.slice oa y.out.length oc) (.int .i64 y.line) (.int .i64 y.fin);have HF:=gN a3.2 (a3.1.whole c0 b9) b8 a5;obtain⟨q0,q1,q2,q3,q4,q6,q7⟩:=seven hq;have m9:¬w.heap.size=w1.heap.size:=by omega
   have n7:¬w1.heap.size=w.heap.size:=by omega
   rw[i1]at HF ⊢;clear d U f f0 b7 i9 A i4 b8 h5 a3 f1 f2 f3 f4 N hq j1 a5 c0 b9 q5 z5 i1;go_wp2_with fail;refine zT (v:=.agg #[.slice xa y.zH.length xc,.slice ya y.vars.length yc,.slice za y.cells.length zc,.int .i64 y.read,.slice oa y.out.length oc,.int .i64 y.line,.int .i64 y.fin]) ?_ rfl ?_
   ·simp[results,results54,go_sem,n0,n1,n2,n3,n4,n5,n6]
   ·obtain⟨h1,h2,h3,h4⟩:=HF.u;rw[<-h4];exact⟨h1,_,_,_,_,qB (fun a=>Ending.returned (Value.agg a)) h3.symm,h2⟩
theorem dB (s:ByteArray) {iv:Value} {qo:List Int} (o:s.size<=maxLen) (i:kA w iv qo):Calls Tryz.prog 53 #[.string s,iv] w fun e w'=>(100 < qo.length/\e=.returned (.tuple #[.pointer none,.int .i64 1,.int .i64 0])/\w'=w)\/(qo.length<=100/\Dn s w e w'):=by
 obtain⟨k,h,rfl⟩:=i.form;clear i;by_cases hl:100 < qo.length
 ·have d:(100:Int) < (qo.length:Int):=by omega
  go_enter func53,ntmps53;go_wp2_with fail;go_ret3;exact Or.inl ⟨hl,rfl,rfl⟩
 ·have d:¬(100:Int) < (qo.length:Int):=by omega
  go_enter func53,ntmps53;go_wp2_with fail;refine(Dm s o).mono ?_;rintro e w1 ⟨j,(⟨f,rfl⟩| ⟨f,D,A,z,y,S,g,cap,rfl,x⟩)⟩
  ·go_wp2_with fail;go_ret3;exact Or.inr ⟨by omega,j,Or.inl ⟨f,rfl⟩⟩
  ·go_wp2_with fail;go_ret3;exact Or.inr ⟨by omega,j,Or.inr ⟨f,D,A,z,y,S,g,cap,rfl,x⟩⟩
end Go.Proofs.YthleadfkfnnadaaGreat
