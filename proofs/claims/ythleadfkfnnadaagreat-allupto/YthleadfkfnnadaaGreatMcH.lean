/- The machine: what a line comes to; a value set. -/
import Derived.Test.YthleadfkfnnadaaGreatPrgM
set_option maxHeartbeats 4000000
set_option maxRecDepth 100000
set_option linter.all false
namespace Go.Proofs.YthleadfkfnnadaaGreat
open Value renaming int->J,slice->I,string->O,pointer->H,bool->A,agg->L,tuple->E
open IntKind renaming i64->U
open Option renaming none->Z,some->Q
open Bool renaming false->W,true->D
open List renaming length->G
open Ending renaming returned->T
open Obj renaming cells->V
open Rt Go.Proofs.Tryz
open Go.RowKit
variable {cs:Array Value} {l qo st:List Int} {zL:List Rt.PL} {tail:List Value} {M B N K BB P R:Nat} {a1 a2 a3:Option Addr} {lk:Qw} {m m':Rt.Mc} {fm:Rt.qS} {S:Rt.Src} {ty t:TypeId} {v0 v1 v2 sv lv a b c:Value} {w w' w1 wx w2:World}
section
attribute [local go_sem ↓] Go.wp_at_zero Go.wp_at_succ
def xR (l:List Int):List Value:=l.map (Value.int U)
structure ZK where
 lv:Value
 iv:Value
 fv:Value
 vv:Value
 ov:Value
 xg:List Value
 YR:List Value
 cs:List (List Value)
def zz (v:Value) (l:List Int):Rw:=⟨3,1,v,G l,xR l⟩
def fCells:List Value->List Rt.Fm->List Value
 | v::vs,f::fs=>v::.int .i64 f.call::fCells vs fs
 | _,_=>[]
theorem V3:∀(vs:List Value) (fs:List Rt.Fm),G vs=G fs->(fCells vs fs).length=G fs*2
 | [],[],_=>rfl
 | [],_::_,h=>by simp at h
 | _::_,[],h=>by simp at h
 | v::vs,f::fs,h=>by
  have:=V3 vs fs (by simpa using h);simp only[fCells,yE,this];omega
theorem Kf:∀(vs:List Value) (fs:List Rt.Fm) (v:Value) (f:Rt.Fm),G vs=G fs->fCells (vs++[v]) (fs++[f])=fCells vs fs++[v,J U f.call]
 | [],[],_,_,_=>rfl
 | [],_::_,_,_,h=>by simp at h
 | _::_,[],_,_,h=>by simp at h
 | v::vs,f::fs,v',f',h=>by
  have:=Kf vs fs v' f' (by simpa using h);simp only[yF,fCells,this]
theorem Js:∀(vs:List Value) (fs:List Rt.Fm) (h:G vs=G fs) (i:Nat) (hi:i < G fs),(fCells vs fs)[i*2]?=Q (vs[i]'(by rw[h];exact hi))/\(fCells vs fs)[i*2+1]?=Q (J U fs[i].call)
 | [],[],_,i,hi=>by simp at hi
 | [],_::_,h,_,_=>by simp at h
 | _::_,[],h,_,_=>by simp at h
 | v::vs,f::fs,h,0,hi=>by simp[fCells]
 | v::vs,f::fs,h,i+1,hi=>by
  have:=Js vs fs (by simpa using h) i (by simpa using hi);simp only[fCells,show (i+1)*2=i*2+2 by omega];simpa using this
def rowsOf (qo:List Int) (X:ZK) (m:Rt.Mc):List Rw:=
 [zz X.iv qo,⟨153,2,X.fv,G m.zH,fCells X.xg m.zH⟩,⟨24,1,X.vv,G m.values,X.YR⟩,zz X.ov m.output]++(List.zipWith zz X.xg (m.zH.map Rt.Fm.params)++List.zipWith zz X.YR m.values)
def FE (t:TypeId):Prop:=t≠3/\t≠153/\t≠24/\t≠145/\t≠188/\t≠9/\t≠236/\t≠140
structure jz (w:World) (M B:Nat) (ty:TypeId) (tail:List Value) (S:Rt.Src) (m:Rt.Mc) (X:ZK):Prop where
 block:w.heap[M]?=some (.cells ([X.lv,X.iv,X.fv,X.vv,.int .i64 m.taken,X.ov,.int .i64 m.line,.int .i64 m.fin]++tail).toArray ty (0,0))
 prog:vu w M B S.zL S.lk X.lv X.cs
 own:Own w (rowsOf S.input X m)
 fl:X.xg.length=m.zH.length
 vl:X.YR.length=m.values.length
 ty:FE ty
structure dL (S:Rt.Src) (m:Rt.Mc):Prop where
 zL:S.zL.length<=101
 input:S.input.length<=100
 zH:m.zH.length<=1000
 values:m.values.length<=101
 output:m.output.length<=1000
 params:∀f∈m.zH,f.params.length<=1000
 cells:∀l∈m.values,l.length<=1000
 ZX:∀p∈S.zL,Rt.Small p.form
theorem jz.zP {w w':World} {M B:Nat} {ty:TypeId} {tail:List Value} {S:Rt.Src} {m:Rt.Mc} {X:ZK} (h:jz w M B ty tail S m X) (d:Below w.heap.size w w'):jz w' M B ty tail S m X:=
 ⟨zU h.block d,h.prog.zP d,h.own.zP d,h.fl,h.vl,h.ty⟩
section
variable {w:World} {M B:Nat} {ty:TypeId} {tail:List Value} {S:Rt.Src} {m:Rt.Mc} {X:ZK} (h:jz w M B ty tail S m X)
include h
theorem jz.c1:w.cell? ⟨M,1,Z⟩=Q X.iv:=by have:=zC h.block 1 (by simp);simpa using this
theorem jz.c2:w.cell? ⟨M,2,Z⟩=Q X.fv:=by have:=zC h.block 2 (by simp);simpa using this
theorem jz.c3:w.cell? ⟨M,3,Z⟩=Q X.vv:=by have:=zC h.block 3 (by simp);simpa using this
theorem jz.c4:w.cell? ⟨M,4,Z⟩=Q (J U m.taken):=by have:=zC h.block 4 (by simp);simpa using this
theorem jz.c5:w.cell? ⟨M,5,Z⟩=Q X.ov:=by have:=zC h.block 5 (by simp);simpa using this
theorem jz.c6:w.cell? ⟨M,6,Z⟩=Q (J U m.line):=by have:=zC h.block 6 (by simp);simpa using this
theorem jz.c7:w.cell? ⟨M,7,Z⟩=Q (J U m.fin):=by have:=zC h.block 7 (by simp);simpa using this
theorem jz.fz (i:Nat):w.frozen? ⟨M,i,Z⟩=W:=zS h.block i
theorem jz.input:w.ownsRow 0 3 1 X.iv (G S.input) (xR S.input):=h.own.rows (zz X.iv S.input) (by simp[rowsOf])
theorem jz.zH:w.ownsRow 0 153 2 X.fv (G m.zH) (fCells X.xg m.zH):=h.own.rows ⟨153,2,X.fv,G m.zH,fCells X.xg m.zH⟩ (by simp[rowsOf])
theorem jz.VH:w.ownsRow 0 24 1 X.vv (G m.values) X.YR:=h.own.rows ⟨24,1,X.vv,G m.values,X.YR⟩ (by simp[rowsOf])
theorem jz.out:w.ownsRow 0 3 1 X.ov (G m.output) (xR m.output):=h.own.rows (zz X.ov m.output) (by simp[rowsOf])
theorem jz.sR (i:Nat) (f:i < G m.zH):w.ownsRow 0 3 1 (X.xg[i]'(by rw[h.fl];exact f)) m.zH[i].params.length (xR m.zH[i].params):=by
 have d:i < G X.xg:=by rw[h.fl];exact f
 refine h.own.rows (zz X.xg[i] m.zH[i].params) ?_;unfold rowsOf;refine zb _ (zY _ ?_);have:(List.zipWith zz X.xg (m.zH.map Rt.Fm.params))[i]?=Q (zz X.xg[i] m.zH[i].params):=by
  rw[je,zJ d,yt,zJ f];rfl
 exact qF this
theorem jz.Bo (i:Nat) (f:i < G m.values):w.ownsRow 0 3 1 (X.YR[i]'(by rw[h.vl];exact f)) m.values[i].length (xR m.values[i]):=by
 have d:i < G X.YR:=by rw[h.vl];exact f
 refine h.own.rows (zz X.YR[i] m.values[i]) ?_;unfold rowsOf;refine zb _ (zb _ ?_);have:(List.zipWith zz X.YR m.values)[i]?=Q (zz X.YR[i] m.values[i]):=by
  rw[je,zJ d,zJ f]
 exact qF this
end
def Yd (X:ZK) (m:Rt.Mc) (l:Int):Value:=
 if 0 < l/\l < G m.values then (X.YR[l.toNat]?).getD (I Z 0 0)
 else if l=0/\0 < G m.zH then (X.xg[G m.zH-1]?).getD (I Z 0 0)
 else I Z 0 0
theorem jz.bV {X:ZK} (h:jz w M B ty tail S m X) (l:Int):w.ownsRow 0 3 1 (Yd X m l) (Rt.cellsOf m l).length (xR (Rt.cellsOf m l)):=by
 unfold Yd Rt.cellsOf;by_cases h1:0 < l/\l < G m.values
 ·rw[zE h1,zE h1];have d:l.toNat < G m.values:=by omega
  rw[zJ d,zJ (by rw[h.vl];exact d)];exact h.Bo _ d
 ·rw[zA h1,zA h1];by_cases h2:l=0/\0 < G m.zH
  ·rw[zE h2,zE h2];have d:G m.zH-1 < G m.zH:=by omega
   rw[zJ (by rw[h.fl];exact d)];have e:m.zH.getLastD Rt.Qe=m.zH[G m.zH-1]:=by
    rw[xk,List.getLast?_eq_getElem?,zJ d];rfl
   rw[e];exact h.sR _ d
  ·rw[zA h2,zA h2];exact zW _ _ _ _
theorem dG (h:dL S m) (l:Int):(Rt.cellsOf m l).length<=1000:=by
 unfold Rt.cellsOf;split
 ·cases e:m.values[l.toNat]? with
  | none=>simp
  | some x=>exact h.cells x (qF e)
 ·split
  ·next h2=>
   have d:m.zH≠[]:=by intro e;rw[e]at h2;simp at h2
   rw[xk,xd d];exact h.params _ (JV d)
  ·simp
theorem dH {X:ZK} (l:Int) (h:jz w M B ty tail S m X) (hm:dL S m):Calls Tryz.prog 192 #[H (Q ⟨M,0,Z⟩),J U l] w fun e w'=>e=T (Yd X m l)/\Below w.heap.size w w':=by
 have c2:=h.c2;have c3:=h.c3;obtain⟨a5,N,z⟩:=zK h.zH;obtain⟨a2,a0,x⟩:=zK h.VH;rw[z]at c2;rw[x]at c3;by_cases h1:0 < l/\l < G m.values
 ·obtain⟨k,rfl⟩:=yr (show 0<=l by omega);have A:k < G m.values:=by omega
  have D:(0:Int) < (k:Int):=h1.1;obtain⟨g,L,f,_,_,V⟩:=yD h.VH (j:=k) (u:=X.YR[k]'(by rw[h.vl];exact A)) (zJ _);rw[x]at f;injection f with e1 _ e2;subst e1 e2;have i:=zD (show Yd X m (k:Int)=X.YR[k]'(by rw[h.vl];exact A) by
   unfold Yd;rw[zE h1];simp only[xS];rw[zJ (by rw[h.vl];exact A)];rfl)
  have d:=h.Bo k A;obtain⟨ad,cap,O⟩:=zK d;rw[O]at V i;go_enter func192,ntmps192;go_wp2;go_ret;exact⟨by rw[i.u];rfl,zI _ _⟩
 ·by_cases h2:l=0/\0 < G m.zH
  ·obtain⟨rfl,o⟩:=h2;have a1:=hm.zH;obtain⟨k,A⟩:∃k,G m.zH=k+1:=⟨G m.zH-1,by omega⟩;have y:k < G m.zH:=by omega
   have R:k < G X.xg:=by rw[h.fl];exact y
   have i:=zD (show Yd X m 0=X.xg[k] by
    unfold Yd;rw[zA (by omega),zE ⟨rfl,o⟩,show (G m.zH)-1=k by omega,zJ R];rfl)
   have d:=h.sR k y;obtain⟨ad,cap,O⟩:=zK d;have F:(fCells X.xg m.zH)[k*2]?=Q X.xg[k]:=(Js X.xg m.zH h.fl k y).1;obtain⟨g,L,f,_,_,V⟩:=yD h.zH F;rw[z]at f;injection f with e1 _ e2;subst e1 e2;rw[O]at V i;rw[A]at c2;clear h hm h1 d O x z F o;have D:k+1<=1000:=by omega
   generalize m.zH[k].params.length=pn at *;have a4:(k:Int) < (k:Int)+1:=by omega
   have a3:=bw k D;go_enter func192,ntmps192;go_wp2_with fail;go_region_held3 (fun w'=>w'.cell? ⟨M,2,Z⟩=Q (I (Q ⟨g,0,Z⟩) (k+1) N)/\w'.cell? ⟨g,k*2,Z⟩=Q (I ad pn cap)) (go_keep) (fail);go_wp2;go_ret;exact⟨by rw[i.u];rfl,(zI _ _).drew⟩
  ·have i:=zD (show Yd X m l=I Z 0 0 by unfold Yd;rw[zA h1,zA h2]);by_cases h3:0 < l
   ·have h4:¬l < (G m.values:Int):=fun e=>h1 ⟨h3,e⟩;have h5:(l==0)=W:=by rw[zV];omega
    go_enter func192,ntmps192;go_wp2;go_ret;exact⟨by rw[i.u];rfl,zI _ _⟩
   ·by_cases h0:l=0
    ·subst h0;have h6:G m.zH=0:=by omega
     rw[h6]at c2;go_enter func192,ntmps192;go_wp2;go_ret;exact⟨by rw[i.u];rfl,zI _ _⟩
    ·have h5:(l==0)=W:=by rw[zV];omega
     go_enter func192,ntmps192;go_wp2;go_ret;exact⟨by rw[i.u];rfl,zI _ _⟩
theorem Eo (R:Option Addr) (j F:Nat) (k:Int) (f:Ia) (G:Int) (N:Option Addr) (i D:Nat) (M:Option Addr) (n2 A:Nat) (H:Option Addr) (h z:Nat) (d o x y p:Int) (w:World):(Instr.field 145 (L #[I R j F,J U k,O f,J U G,I N i D,I M n2 A,I H h z,J U d,J U o,J U x,J U y,J U p]) 6).run Tryz.prog w=.ok (J U p) w:=by kernel_rfl
theorem CF {X:ZK} (h:jz w M B ty tail S m X):Calls Tryz.prog 162 #[H (Q ⟨M,0,Z⟩)] w fun e w'=>e=T (J U (Rt.qJ S m))/\Below w.heap.size w w':=by
 have I:=h.c6;have A:=zD h.prog;have D:=zD (show Rt.qJ S m=(yM S.zL m.line).proc from rfl);go_enter func162,ntmps162;go_wp2_with fail;go_region_with ((go_at_call 90;refine(Kp m.line (A.u.zP (zh _))).mono ?_;rintro e w1 ⟨z,y,x,o,j,i,f,d,rfl,_,_,k⟩;have G:=Eo z (yM S.zL m.line).yY.length j (yM S.zL m.line).form.kind (yM S.zL m.line).form.name (yM S.zL m.line).form.cells y (yM S.zL m.line).form.params.length i x (yM S.zL m.line).form.index.length f o (yM S.zL m.line).form.values.length d (yM S.zL m.line).depth (yM S.zL m.line).opener (Rt.jR S.lk m.line).1 (Rt.jR S.lk m.line).2 (yM S.zL m.line).proc))
 all_goals
  have F:=zD (yh k);go_wp2;go_ret;exact⟨by rw[D.u];rfl,F.u⟩
theorem nT {X:ZK} (s:Rt.Q9) (h:jz w M B ty tail S m X) (O:dL S m):Calls Tryz.prog 165 #[H (Q ⟨M,0,Z⟩),L #[J U s.line,J U s.cell]] w fun e w'=>e=T (J U (Rt.ZL m s))/\Below w.heap.size w w':=by
 have i:=(zI w.heap.size w).alloc (zB _) (V #[J U s.line,J U s.cell] 160);have F:=h.zP i;go_enter func165,ntmps165;go_wp2_with fail;refine(dH s.line F O).mono ?_;rintro e w1 ⟨rfl,z⟩;have d:=yG (F.bV s.line) z;have D:=zD (i.trans (z.mono (B':=w.heap.size) (by simp)));have R:=zU (zN w (V #[J U s.line,J U s.cell] 160)) z;have cS:=zC R 1 (by simp);simp at cS;obtain⟨ad,cap,N⟩:=zK d;rw[N]at d ⊢;generalize HC:Rt.cellsOf m s.line=l at *;generalize f:s.cell=c at *;have A:=zD (show Rt.ZL m s=if c < 0 then 0 else (l[c.toNat]?).getD 0 by unfold Rt.ZL;rw[HC,f]);by_cases h1:c < 0
 ·have o:=zD (show Rt.ZL m s=0 by rw[A.u,zE h1]);go_wp2;go_ret;exact⟨by rw[o.u];rfl,D.u⟩
 ·obtain⟨k,rfl⟩:=yr (show 0<=c by omega);by_cases h2:k < G l
  ·obtain⟨g,I,y,_,_,ca⟩:=yD d (j:=k) (u:=J U l[k]) (by simp[xR,h2]);injection y with e1 _ e2;subst e1 e2;have o:=zD (show Rt.ZL m s=l[k] by rw[A.u,zA h1];simp[h2]);have W:¬(G l:Int)<=(k:Int):=by omega
   generalize l[k]=x at *;go_wp2;go_ret;exact⟨by rw[o.u];rfl,D.u⟩
  ·have o:=zD (show Rt.ZL m s=0 by rw[A.u,zA h1];simp[xt (show G l<=k by omega)]);go_wp2;go_ret;exact⟨by rw[o.u];rfl,D.u⟩
end
theorem JA {α β γ:Type} (f:α->β->γ):∀(a:List α) (b:List β) (i:Nat) (ha:i < G a) (hb:i < G b),∃P Q,List.zipWith f a b=P++f a[i] b[i]::Q/\∀g:β->β,List.zipWith f a (b.modify i g)=P++f a[i] (g b[i])::Q
 | [],_,_,ha,_=>by simp at ha
 | _::_,[],_,_,hb=>by simp at hb
 | x::a,y::b,0,_,_=>⟨[],List.zipWith f a b,rfl,fun g=>by simp⟩
 | x::a,y::b,i+1,ha,hb=>by
  obtain⟨P,Q,h,d⟩:=JA f a b i (by simpa using ha) (by simpa using hb);refine⟨f x y::P,Q,?_,fun g=>?_⟩
  ·simp only[jT,h,yH,yF]
  ·simp only[Yl,jT,d g,yH,yF]
theorem gY:∀(vs:List Value) (fs:List Rt.Fm) (i:Nat) (g:List Int->List Int),fCells vs (fs.modify i (fun f=>⟨g f.params,f.call⟩))=fCells vs fs
 | [],_,_,_=>by cases ‹List Rt.Fm› <;> rfl
 | _::_,[],i,_=>by cases i <;> rfl
 | v::vs,f::fs,0,g=>by simp[fCells]
 | v::vs,f::fs,i+1,g=>by simp only[Yl,fCells,gY vs fs i g]
theorem Eb (fs:List Rt.Fm) (i:Nat) (g:List Int->List Int):(fs.modify i (fun f=>⟨g f.params,f.call⟩)).map Rt.Fm.params=(fs.map Rt.Fm.params).modify i g:=by
 induction fs generalizing i with
 | nil=>cases i <;> rfl
 | cons f fs ih=>cases i with
  | zero=>rfl
  | succ i=>simp[ih]
theorem Az {c:Nat} {v:Int}:xR (l.set c v)=(xR l).set c (J U v):=by simp[xR,bk]
def Xe (t:TypeId):Prop:=t=145\/t=188\/t=9\/t=236\/t=140
theorem jz.next {tail':List Value} {X X':ZK} (h:jz w M B ty tail S m X) (I:w'.heap[M]?=Q (V ([X'.lv,X'.iv,X'.fv,X'.vv,J U m'.taken,X'.ov,J U m'.line,J U m'.fin]++tail').toArray ty (0,0))) (hs:w.heap.size<=w'.heap.size) (H:∀(k:Nat) (x:Obj),w.heap[k]?=Q x->k≠M->(∃c t,x=Obj.cells c t (0,0)/\Xe t)->w'.heap[k]?=Q x) (ho:Own w' (rowsOf S.input X' m')) (F:X'.lv=X.lv) (d:X'.cs=X.cs) (fl:G X'.xg=G m'.zH) (R:G X'.YR=G m'.values):jz w' M B ty tail' S m' X':=by
 have j:∀(B:Nat) (t:TypeId) (size n:Nat) (v:Value) (xs:List Value),t≠ty->Xe t->w.ownsRow B t size v n xs->w'.ownsRow B t size v n xs:=by
  intro B t size n v xs n0 n1 D;refine yP D (fun g hg=>?_);obtain⟨c,d⟩:=yW D hg;rw[d];refine H g _ d ?_ ⟨_,_,rfl,n1⟩;intro e;rw[e,h.block]at d;injection d with d;injection d with _ d;exact n0 d.symm
 obtain⟨_,_,_,A,t2,W,z,T⟩:=h.ty;have hK:∀{v:Array Value} {fm:Rt.qS},qk w B v fm->qk w' B v fm:=by
  intro v fm hf;obtain⟨pv,iv,vv,O,rfl,h1,y,h3,h4⟩:=hf;exact⟨pv,iv,vv,O,rfl,j _ _ _ _ _ _ (xK W) (Or.inr (Or.inr (Or.inl rfl))) h1,j _ _ _ _ _ _ (xK z) (Or.inr (Or.inr (Or.inr (Or.inl rfl)))) y,j _ _ _ _ _ _ (xK T) (Or.inr (Or.inr (Or.inr (Or.inr rfl)))) h3,qi.map (fun x o hh=>j _ _ _ _ _ _ (xK z) (Or.inr (Or.inr (Or.inr (Or.inl rfl)))) hh) _ _ h4⟩
 have f:∀ps cs,ja w B ps cs->ja w' B ps cs:=by
  intro ps
  induction ps with
  | nil=>intro cs h;cases cs with
   | nil=>trivial
   | cons _ _=>exact h.elim
  | cons p ps ih=>intro cs h;cases cs with
   | nil=>exact h.elim
   | cons c cs=>
    obtain⟨⟨tv,fv,N,L,e,g1,g2⟩,y⟩:=h;exact⟨⟨tv,fv,N,L,e,j _ _ _ _ _ _ (xK t2) (Or.inr (Or.inl rfl)) g1,hK g2⟩,ih cs y⟩
 have i:w'.cell? ⟨M,0,Z⟩=Q X'.lv:=by have:=zC I 0 (by simp);simpa using this
 refine⟨I,⟨zX h.prog.lt hs,i,?_,?_,?_,h.prog.len⟩,ho,fl,R,h.ty⟩
 ·rw[F,d];exact j _ _ _ _ _ _ (xK A) (Or.inl rfl) h.prog.own
 ·rw[d];exact f _ _ h.prog.lines
 ·rw[F];refine h.prog.gE.same (fun g hg=>?_);obtain⟨c,d⟩:=yW h.prog.own hg;rw[d];refine H g _ d ?_ ⟨_,_,rfl,Or.inl rfl⟩;intro e;rw[e,h.block]at d;injection d with d;injection d with _ d;exact A d
theorem lG {A C:List Rw} {v:Value} (h:Own w (A++zz v l::C)) {g:Nat} (hg:v.ownBlock=Q g) (c:Nat) (x:Int):Own (w.setCell ⟨g,c,Z⟩ (J U x)) (A++zz v (l.set c x)::C)/\VM w (w.setCell ⟨g,c,Z⟩ (J U x)) (xh (A++zz v l::C)):=by
 have hrow:w.ownsRow 0 3 1 v (G l) (xR l):=h.rows (zz v l) (by simp);obtain⟨o,cap,rfl⟩:=zK hrow;have j:o=Q ⟨g,0,Z⟩:=by
  rcases hrow.2 with⟨f,_⟩| ⟨g',cap',cur,f,_⟩
  ·rw[f]at hg;cases hg
  ·rw[f]at hg;simp[Value.ownBlock]at hg;injection f with f _ _;rw[f,hg]
 subst j;have d:∀k,k≠g->(w.setCell ⟨g,c,Z⟩ (J U x)).heap[k]?=w.heap[k]?:=fun k hk=>zO w ⟨g,c,Z⟩ _ k hk;have i:=(hrow.stored c (J U x)).1;rw[<-Az]at i;refine⟨(h.swap (r':=zz (I (Q ⟨g,0,Z⟩) (G l) cap) (l.set c x)) (fun k _ hk=>d k (fun e=>hk (by rw[e];rfl))) ?_ (fun g' hg'=>Or.inl hg')).1,⟨rfl,rfl,rfl,by simp[World.setCell],fun k hk hn=>d k (fun e=>hn ?_)⟩⟩
 ·show World.ownsRow _ 0 3 1 _ (l.set c x).length _;rw[jD];exact i
 ·rw[e];exact qU (r:=zz (I (Q ⟨g,0,Z⟩) (G l) cap) l) (by simp) rfl
theorem JF {X:ZK} {r:Rw} (h:r∈rowsOf qo X m):r.t=3\/r.t=153\/r.t=24:=by
 unfold rowsOf at h;have d:∀(a:List Value) (b:List (List Int)),r∈List.zipWith zz a b->r.t=3:=by
  intro a
  induction a with
  | nil=>intro b hb;simp at hb
  | cons x a ih=>intro b hb;cases b with
   | nil=>simp at hb
   | cons y b=>
    rw[jT]at hb;rcases zw.mp hb with rfl | hb
    ·rfl
    ·exact ih b hb
 rcases zd.mp h with h | h
 ·simp only[zw,qb,Z2]at h;rcases h with rfl | rfl | rfl | rfl
  ·exact Or.inl rfl
  ·exact Or.inr (Or.inl rfl)
  ·exact Or.inr (Or.inr rfl)
  ·exact Or.inl rfl
 ·rcases zd.mp h with h | h
  ·exact Or.inl (d _ _ h)
  ·exact Or.inl (d _ _ h)
theorem jz.stored {X:ZK} (h:jz w M B ty tail S m X) (s:Rt.Q9) (hs:Rt.Q6 m s=D) (x:Int):∃g cap,Yd X m s.line=I (some ⟨g,0,Z⟩) (Rt.cellsOf m s.line).length cap/\g < w.heap.size/\jz (w.setCell ⟨g,s.cell.toNat,Z⟩ (J U x)) M B ty tail S (Rt.jN m s x) X/\VM w (w.setCell ⟨g,s.cell.toNat,Z⟩ (J U x)) (xh (rowsOf S.input X m)):=by
 have a3:0<=s.cell/\s.cell < (Rt.cellsOf m s.line).length:=qf hs;have O:=h.bV s.line;have i:0 < (Rt.cellsOf m s.line).length:=by omega
 obtain⟨g,cap,F,_,H,_⟩:=yD O (j:=0) (u:=J U ((Rt.cellsOf m s.line)[0])) (by simp[xR,zJ i]);have L:(Yd X m s.line).ownBlock=some g:=by rw[F];rfl
 have N:∃c,w.heap[g]?=some (V c 3 (0,0)):=yW O L;have a2:M≠g:=by
  intro e;obtain⟨c,o⟩:=N;rw[<-e,h.block]at o;injection o with o;injection o with _ o;exact h.ty.1 o
 have hk:∀(k:Nat) (y:Obj),w.heap[k]?=some y->k≠M->(∃c t,y=Obj.cells c t (0,0)/\Xe t)->(w.setCell ⟨g,s.cell.toNat,Z⟩ (J U x)).heap[k]?=some y:=by
  intro k y z _ a1;rw[zO w ⟨g,s.cell.toNat,Z⟩ _ k (fun e=>by
   obtain⟨c,o⟩:=N;have e':k=g:=e;rw[e',o]at z;injection z with z;obtain⟨c',t',e2,ht⟩:=a1;rw[<-z]at e2;injection e2 with _ e2;rw[<-e2]at ht;exact absurd ht (by unfold Xe;decide))]
  exact z
 have hMM:(w.setCell ⟨g,s.cell.toNat,Z⟩ (J U x)).heap[M]?=w.heap[M]?:=zO w ⟨g,s.cell.toNat,Z⟩ _ M a2;have hsz:w.heap.size<=(w.setCell ⟨g,s.cell.toNat,Z⟩ (J U x)).heap.size:=by simp[World.setCell]
 have a0:∃A C l v,rowsOf S.input X m=A++zz v l::C/\v=Yd X m s.line/\rowsOf S.input X (Rt.jN m s x)=A++zz v (l.set s.cell.toNat x)::C/\(Rt.jN m s x).taken=m.taken/\(Rt.jN m s x).line=m.line/\(Rt.jN m s x).fin=m.fin/\(Rt.jN m s x).zH.length=G m.zH/\(Rt.jN m s x).values.length=G m.values:=by
  by_cases h1:0 < s.line/\s.line < G m.values
  ·have W:s.line.toNat < G m.values:=by omega
   have d:s.line.toNat < G X.YR:=by rw[h.vl];exact W
   obtain⟨P,Q,z1,z2⟩:=JA zz X.YR m.values s.line.toNat d W;have R:Rt.jN m s x={ m with values:=m.values.modify s.line.toNat (fun c=>c.set s.cell.toNat x) }:=by
    unfold Rt.jN;rw[zE hs,zE h1.1]
   refine⟨[zz X.iv S.input,⟨153,2,X.fv,G m.zH,fCells X.xg m.zH⟩,⟨24,1,X.vv,G m.values,X.YR⟩,zz X.ov m.output]++(List.zipWith zz X.xg (m.zH.map Rt.Fm.params)++P),Q,m.values[s.line.toNat],X.YR[s.line.toNat],?_,?_,?_,?_⟩
   ·unfold rowsOf;rw[z1];simp
   ·unfold Yd;rw[zE h1,zJ d];rfl
   ·rw[R];unfold rowsOf;simp only[YK];rw[z2 (fun c=>c.set s.cell.toNat x)];simp
   ·rw[R];exact⟨rfl,rfl,rfl,rfl,by simp⟩
  ·have h2:s.line=0/\0 < G m.zH:=by
    have T:=i;unfold Rt.cellsOf at T;rw[zA h1]at T;by_cases h2:s.line=0/\0 < G m.zH
    ·exact h2
    ·rw[zA h2]at T;simp at T
   have W:G m.zH-1 < (m.zH.map Rt.Fm.params).length:=by simp;omega
   have d:G m.zH-1 < G X.xg:=by rw[h.fl];omega
   obtain⟨P,Q,z1,z2⟩:=JA zz X.xg (m.zH.map Rt.Fm.params) (G m.zH-1) d W;have R:Rt.jN m s x={ m with zH:=m.zH.modify (G m.zH-1) (fun f=>⟨f.params.set s.cell.toNat x,f.call⟩) }:=by
    unfold Rt.jN;rw[zE hs,zA (by omega)]
   refine⟨[zz X.iv S.input,⟨153,2,X.fv,G m.zH,fCells X.xg m.zH⟩,⟨24,1,X.vv,G m.values,X.YR⟩,zz X.ov m.output]++P,Q++List.zipWith zz X.YR m.values,(m.zH.map Rt.Fm.params)[G m.zH-1],X.xg[G m.zH-1],?_,?_,?_,?_⟩
   ·unfold rowsOf;rw[z1];simp
   ·unfold Yd;rw[zA h1,zE h2,zJ d];rfl
   ·rw[R];unfold rowsOf;simp only[YK];rw[Eb m.zH (G m.zH-1) (fun p=>p.set s.cell.toNat x),gY X.xg m.zH (G m.zH-1) (fun p=>p.set s.cell.toNat x),z2 (fun p=>p.set s.cell.toNat x)];simp
   ·rw[R];exact⟨rfl,rfl,rfl,by simp,rfl⟩
 obtain⟨A,C,l,v,k1,k2,k3,k4,k5,k6,k7,k8⟩:=a0;have ho:=h.own;rw[k1]at ho;obtain⟨o1,o2⟩:=lG ho (g:=g) (by rw[k2];exact L) s.cell.toNat x;refine⟨g,cap,F,H,h.next (by rw[hMM,h.block,k4,k5,k6]) hsz hk (by rw[k3];exact o1) rfl rfl (by rw[k7];exact h.fl) (by rw[k8];exact h.vl),?_⟩;rw[k1];exact o2
theorem jz.aside {X:ZK} (h:jz w M B ty tail S m X) (o:w.heap[N]?=Q (V cs t (0,0))) (y:N≠M) (f:¬Xe t/\t≠3/\t≠153/\t≠24) (i:Nat) (v:Value):jz (w.setCell ⟨N,i,Z⟩ v) M B ty tail S m X:=by
 have hother:∀k,k≠N->(w.setCell ⟨N,i,Z⟩ v).heap[k]?=w.heap[k]?:=fun k hk=>zO w ⟨N,i,Z⟩ _ k hk;have hrow:∀r∈rowsOf S.input X m,∀g,r.v.ownBlock=Q g->g≠N:=by
  intro r hr g hg e;obtain⟨c,d⟩:=yW (h.own.rows r hr) hg;rw[e,o]at d;injection d with d;injection d with _ d;have:=JF hr;rw[<-d]at this;rcases this with e | e | e
  ·exact f.2.1 e
  ·exact f.2.2.1 e
  ·exact f.2.2.2 e
 refine h.next ?_ (by simp[World.setCell]) (fun k x hk _ hp=>?_) ⟨fun r hr=>yP (h.own.rows r hr) (fun g hg=>hother g (hrow r hr g hg)),h.own.apart⟩ rfl rfl h.fl h.vl
 ·rw[hother M (xK y)];exact h.block
 ·rw[hother k (fun e=>by
   rw[e,o]at hk;injection hk with hk;obtain⟨A,z,j,hp⟩:=hp;rw[<-hk]at j;injection j with _ j;rw[<-j]at hp;exact f.1 hp)]
  exact hk
section
attribute [local go_sem ↓] Go.wp_at_zero Go.wp_at_succ
def V8 (M B:Nat) (ty:TypeId) (tail:List Value) (S:Rt.Src) (m m':Rt.Mc) (X:ZK) (w w':World):Prop:=jz w' M B ty tail S m' X/\VM w w' (xh (rowsOf S.input X m))
theorem EJ {X:ZK} (s:Rt.Q9) (v:Int) (h:jz w M B ty tail S m X) (hm:dL S m):Calls Tryz.prog 206 #[H (Q ⟨M,0,Z⟩),L #[J U s.line,J U s.cell],J U v] w fun e w'=>e=T (E #[])/\V8 M B ty tail S m (Rt.jN m s v) X w w':=by
 have z:=(zI w.heap.size w).alloc (zB _) (V #[J U s.line,J U s.cell] 160);have R:=h.zP z;go_enter func206,ntmps206;go_wp2_with fail;refine(dH s.line R hm).mono ?_;rintro e w1 ⟨rfl,F⟩;have G:=R.zP F;have d:=G.bV s.line;have O:=z.trans (F.mono (B':=w.heap.size) (by simp));have N:=zU (zN w (V #[J U s.line,J U s.cell] 160)) F;have cS:=zC N 1 (by simp);simp at cS;by_cases hh:Rt.Q6 m s=D
 ·obtain⟨g,cap,A,I,q1,q2⟩:=G.stored s hh v;have o:0<=s.cell/\s.cell < (Rt.cellsOf m s.line).length:=qf hh;rw[A]at d ⊢;have y:=d.frozenAt s.cell.toNat;have f:Hd (V8 M B ty tail S m (Rt.jN m s v) X w (w1.setCell ⟨g,s.cell.toNat,Z⟩ (J U v))):=zD ⟨q1,(VM.jQ _ O).trans q2 (vd.refl _ _)⟩;obtain⟨g2,W,x,_,_,ca⟩:=yD d (j:=s.cell.toNat) (u:=J U ((Rt.cellsOf m s.line)[s.cell.toNat]'(by omega))) (by simp[xR,zJ (show s.cell.toNat < (Rt.cellsOf m s.line).length by omega)]);injection x with e1 _ e2;injection e1 with e1;injection e1 with e1;subst e1;have a0:¬g=w.heap.size:=by
   intro e;obtain⟨c,hc⟩:=yW d (g:=g) rfl;rw[e,N]at hc;injection hc with hc;injection hc with _ hc;exact absurd hc (by decide)
  generalize (Rt.cellsOf m s.line)[s.cell.toNat]'(by omega)=J8 at *;generalize (Rt.cellsOf m s.line).length=n at *;obtain⟨k,hk⟩:=yr o.1;rw[hk]at cS f y ca o;simp only[xS]at f y ca;go_wp2;go_end0;exact⟨rfl,f.u⟩
 ·have i:¬(0<=s.cell/\s.cell < (Rt.cellsOf m s.line).length):=fun e=>hh (qA e);have f:Hd (V8 M B ty tail S m (Rt.jN m s v) X w w1):=by
   refine zD ?_;rw[show Rt.jN m s v=m by unfold Rt.jN;rw[zA hh]];exact⟨G,VM.jQ _ O⟩
  obtain⟨ad,cap,hv⟩:=zK d;rw[hv];generalize (Rt.cellsOf m s.line).length=n at *;generalize s.cell=c at *;by_cases hc:c < 0
  ·clear i;go_wp2_with fail;refine zT (results_none rfl _ _ _) rfl ?_;exact⟨rfl,f.u⟩
  ·have a1:(n:Int)<=c:=by omega
   go_wp2_with fail;refine zT (results_none rfl _ _ _) rfl ?_;exact⟨rfl,f.u⟩
theorem El {X:ZK} (s:Rt.Q9) (h:jz w M B ty tail S m X) (z:dL S m):Calls Tryz.prog 193 #[H (Q ⟨M,0,Z⟩),L #[J U s.line,J U s.cell]] w fun e w'=>e=T (A (Rt.Q6 m s))/\Below w.heap.size w w':=by
 have f:=(zI w.heap.size w).alloc (zB _) (V #[J U s.line,J U s.cell] 160);have x:=h.zP f;go_enter func193,ntmps193;go_wp2_with fail;refine(dH s.line x z).mono ?_;rintro e w1 ⟨rfl,j⟩;have d:=yG (x.bV s.line) j;have o:=zD (f.trans (j.mono (B':=w.heap.size) (by simp)));have F:=zU (zN w (V #[J U s.line,J U s.cell] 160)) j;have G:=zC F 1 (by simp);simp at G;obtain⟨I,cap,y⟩:=zK d;rw[y];have k:=zD (show Rt.Q6 m s=decide (0<=s.cell/\s.cell < (Rt.cellsOf m s.line).length)from rfl);generalize (Rt.cellsOf m s.line).length=n at *;generalize s.cell=c at *;by_cases h1:0<=c
 ·by_cases h2:c < (n:Int)
  ·have i:=zD (show Rt.Q6 m s=D by rw[k.u];exact qA ⟨h1,h2⟩);go_wp2;go_ret;exact⟨by rw[i.u];rfl,o.u⟩
  ·have i:=zD (show Rt.Q6 m s=W by rw[k.u];exact qP (fun e=>h2 e.2));go_wp2;go_ret;exact⟨by rw[i.u];exact yj (qP (by omega)),o.u⟩
 ·have i:=zD (show Rt.Q6 m s=W by rw[k.u];exact qP (fun e=>h1 e.1));go_wp2;go_ret;exact⟨by rw[i.u];rfl,o.u⟩
theorem QF {X:ZK} (h:Own w (rowsOf qo X m)) (k:w.heap[N]?=Q (V cs t (0,0))) (f:t≠3/\t≠153/\t≠24):N∉xh (rowsOf qo X m):=by
 intro e;obtain⟨r,i,j⟩:=ju.mp e;obtain⟨c,d⟩:=yW (h.rows r i) j;rw[k]at d;injection d with d;injection d with _ d;have:=JF i;rw[<-d]at this;rcases this with e | e | e
 ·exact f.1 e
 ·exact f.2.1 e
 ·exact f.2.2 e
theorem V8.aside {M B:Nat} {ty:TypeId} {tail:List Value} {S:Rt.Src} {m m':Rt.Mc} {X:ZK} {w w':World} (h:V8 M B ty tail S m m' X w w') (o:M < w.heap.size) {N:Nat} {cs:Array Value} {t:TypeId} (j:w'.heap[N]?=Q (V cs t (0,0))) (f:w.heap.size<=N) (d:¬Xe t/\t≠3/\t≠153/\t≠24) (i:Nat) (v:Value):V8 M B ty tail S m m' X w (w'.setCell ⟨N,i,Z⟩ v):=by
 refine⟨h.1.aside j (by omega) d i v,⟨h.2.os,h.2.tape,h.2.output,zi h.2.size (by simp[World.setCell]),fun k hk hn=>?_⟩⟩;rw[zO w' ⟨N,i,Z⟩ v k (by show k≠N;omega)];exact h.2.block k hk hn
abbrev W5 (w:World) (N:Nat) (a b c d e:Value):World:=((((w.setCell ⟨N,0,Z⟩ a).setCell ⟨N,1,Z⟩ b).setCell ⟨N,2,Z⟩ c).setCell ⟨N,3,Z⟩ d).setCell ⟨N,4,Z⟩ e
theorem V8.five {X:ZK} (h:V8 M B ty tail S m m' X w w') (i:M < w.heap.size) (x:w'.heap[N]?=Q (V cs t (0,0))) (f:w.heap.size<=N) (j:¬Xe t/\t≠3/\t≠153/\t≠24) (a b c d e:Value):V8 M B ty tail S m m' X w (W5 w' N a b c d e):=by
 have o:=zf x 0 a;have n2:=zf o 1 b;have k:=zf n2 2 c;have y:=zf k 3 d;exact((((h.aside i x f j 0 a).aside i o f j 1 b).aside i n2 f j 2 c).aside i k f j 3 d).aside i y f j 4 e
theorem QY {v3 v4:Value} (h:w.heap[N]?=Q (V #[v0,v1,v2,v3,v4] t (0,0))):w.cell? ⟨N,0,Z⟩=Q v0/\w.cell? ⟨N,1,Z⟩=Q v1/\w.cell? ⟨N,2,Z⟩=Q v2/\w.cell? ⟨N,3,Z⟩=Q v3/\w.cell? ⟨N,4,Z⟩=Q v4:=
 ⟨zC h 0 (by simp),zC h 1 (by simp),zC h 2 (by simp),zC h 3 (by simp),zC h 4 (by simp)⟩
theorem Kv {X:ZK} (s:Rt.Q9) (v:Int) (h:jz w M B ty tail S m X) (hm:dL S m):Calls Tryz.prog 181 #[H (Q ⟨M,0,Z⟩),L #[J U s.line,J U s.cell],J U v] w fun e w'=>e=T (L #[J U 4,J U 0,J U s.line,J U s.cell,J U (Rt.ZL m s)])/\V8 M B ty tail S m (Rt.jN m s v) X w w':=by
 have N:=zQ h.block;have I:=(zI w.heap.size w).alloc (zB _) (V #[J U s.line,J U s.cell] 160);have x:=I.alloc (by simp) (V #[J U 0,J U 0,J U 0,J U 0,J U 0] 162);have hA:=h.zP x;have bS:=yR (zN w (V #[J U s.line,J U s.cell] 160)) (V #[J U 0,J U 0,J U 0,J U 0,J U 0] 162);have bR:=qD w (V #[J U s.line,J U s.cell] 160) (V #[J U 0,J U 0,J U 0,J U 0,J U 0] 162);go_enter func181,ntmps181;go_wp2_with fail;refine(nT s hA hm).mono ?_;rintro e w1 ⟨rfl,i⟩;have R:=hA.zP i;have O:=x.trans (i.mono (B':=w.heap.size) (by simp;omega));have f:=zU bS i;have o:=zU bR i;have k0:=zC f 0 (by simp);have k1:=zC f 1 (by simp);simp at k0 k1;generalize D:Rt.ZL m s=J8 at *;go_wp2_with fail;refine(EJ s v R hm).mono ?_;rintro e w2 ⟨rfl,h2,j⟩;have F:=QF R.own f (by decide);have G:=QF R.own o (by decide);have A:=(j.block _ (zQ f) F).trans f;have k:=(j.block _ (zQ o) G).trans o;have q0:=zC A 0 (by simp);have q1:=zC A 1 (by simp);simp at q0 q1;obtain⟨r0,r1,r2,r3,r4⟩:=QY k;have z:=zS k;have HF:=zD (show V8 M B ty tail S m (Rt.jN m s v) X w w2 from⟨h2,(VM.jQ _ O).trans j (vd.refl _ _)⟩);have y:M < w.heap.size:=N;have W:=zD (fun a b c d e=>HF.u.five y k (by omega) (by unfold Xe;decide) a b c d e);go_wp2_with fail;refine zT (v:=L #[J U 4,J U 0,J U s.line,J U s.cell,J U J8]) ?_ rfl ⟨by rw[D],W.u _ _ _ _ _⟩;simp[results,results181,go_sem,r0,r1,r2,r3,r4]
namespace Rt
theorem oO:∀(i:Nat) (l:Ib) (x:Ia),parNo i l x=parFrom i l x
 | _,[],_=>rfl
 | i,p::r,x=>by rw[parNo,parFrom,oO (i+1) r x]
theorem Dx (S:Src) (m:Mc) (x:Ia):vx S m x=if 0<=YW S.zL (qJ S m) x then ⟨0,YW S.zL (qJ S m) x⟩else ⟨xb S.zL x,0⟩:=by
 unfold vx YW;rw[oO]
end Rt
theorem fy {X:ZK} (x:Ia) (h:jz w M B ty tail S m X) (R:dL S m):Calls Tryz.prog 164 #[H (Q ⟨M,0,Z⟩),O x] w fun e w'=>e=T (L #[J U (Rt.vx S m x).line,J U (Rt.vx S m x).cell])/\Below w.heap.size w w':=by
 have o:=aJ R.ZX (Rt.qJ S m);have y:=R.zL;have A:=(zI w.heap.size w).alloc (zB _) (V #[J U 0,J U 0] 160);have W:=h.zP A;have bR:=zN w (V #[J U 0,J U 0] 160);have HV:=zD (Dx S m x);go_enter func164,ntmps164;go_wp2_with fail;refine(CF W).mono ?_;rintro e w1 ⟨rfl,i⟩;have h1:=W.prog.zP i;have F:=A.trans (i.mono (B':=w.heap.size) (by simp));have G:=zU bR i;generalize Rt.qJ S m=pc at *;go_wp2_with fail;refine(Param_v pc x h1.v o).mono ?_;rintro e w2 ⟨rfl,f⟩;have h2:=h1.zP f;have D:=F.trans (f.mono (B':=w.heap.size) F.size);have d:=zU G f;generalize YW S.zL pc x=pi at *;by_cases hpi:0<=pi
 ·have I:=zD (show Rt.vx S m x=⟨0,pi⟩ by rw[HV.u,zE hpi]);have k:=zC d 0 (by simp);have j:=zC d 1 (by simp);have z:=zS d;simp at k j;have N:=zD (fun a b:Value=>(D.setCell (p:=⟨w.heap.size,0,Z⟩) (zB _) a).setCell (p:=⟨w.heap.size,1,Z⟩) (zB _) b);go_wp2_with fail;refine zT (v:=L #[J U 0,J U pi]) ?_ rfl ⟨by rw[I.u],N.u _ _⟩;simp[results,results164,go_sem,k,j]
 ·have I:=zD (show Rt.vx S m x=⟨Rt.xb S.zL x,0⟩ by rw[HV.u,zA hpi]);go_wp2_with fail;refine(G3 x h2.v y).mono ?_;rintro e w3 ⟨rfl,rfl⟩;have k:=zC d 0 (by simp);have j:=zC d 1 (by simp);have z:=zS d;simp at k j;have N:=zD (fun a b:Value=>(D.setCell (p:=⟨w.heap.size,0,Z⟩) (zB _) a).setCell (p:=⟨w.heap.size,1,Z⟩) (zB _) b);generalize Rt.xb S.zL x=dp at *;go_wp2_with fail;refine zT (v:=L #[J U dp,J U 0]) ?_ rfl ⟨by rw[I.u],N.u _ _⟩;simp[results,results164,go_sem,k,j]
def cellR:Option Rt.Q9->Value
 | none=>.tuple #[.agg #[.int .i64 0,.int .i64 0],.bool false]
 | some s=>.tuple #[.agg #[.int .i64 s.line,.int .i64 s.cell],.bool true]
theorem lU {X:ZK} (x:Ia) (n:Int) (h:jz w M B ty tail S m X) (N:dL S m):Calls Tryz.prog 167 #[H (Q ⟨M,0,Z⟩),O x,J U n] w fun e w'=>e=T (cellR (Rt.kX S m x n))/\Below w.heap.size w w':=by
 have i:=N.zL;have j:=(zI w.heap.size w).alloc (zB _) (V #[J U 0,J U 0] 160);have R:=h.zP j;go_enter func167,ntmps167;go_wp2_with fail;refine(G3 x R.prog.v i).mono ?_;rintro e w1 ⟨rfl,rfl⟩;have HC:=zD (show Rt.kX S m x n=if Rt.Q6 m ⟨Rt.xb S.zL x,n⟩=D then Q ⟨Rt.xb S.zL x,n⟩else Z from rfl);generalize a0:(Rt.xb S.zL x:Int)=dp at *;have F:=j.alloc (by simp) (V #[J U dp,J U n] 160);have hB:=R.zP ((zI _ _).alloc (zB _) (V #[J U dp,J U n] 160));have bR:=yR (zN w (V #[J U 0,J U 0] 160)) (V #[J U dp,J U n] 160);have bS:=qD w (V #[J U 0,J U 0] 160) (V #[J U dp,J U n] 160);go_wp2_with fail;refine(El ⟨dp,n⟩ hB N).mono ?_;rintro e w2 ⟨rfl,d⟩;have G:=F.trans (d.mono (B':=w.heap.size) (by simp;omega));have f:=zU bR d;have k:=zU bS d;have y:=zC f 0 (by simp);have o:=zC f 1 (by simp);have z:=zS f;have s0:=zC k 0 (by simp);have s1:=zC k 1 (by simp);simp at y o s0 s1;have HB:=zD (fun a b:Value=>(G.setCell (p:=⟨w.heap.size,0,Z⟩) (zB _) a).setCell (p:=⟨w.heap.size,1,Z⟩) (zB _) b);cases hh:Rt.Q6 m ⟨dp,n⟩with
 | true=>
  have I:=zD (show Rt.kX S m x n=Q ⟨dp,n⟩ by rw[HC.u,zE hh]);go_wp2_with fail;refine zT (v:=E #[L #[J U dp,J U n],A D]) ?_ rfl ⟨by rw[I.u];rfl,HB.u _ _⟩;simp[results,results167,go_sem,y,o]
 | false=>
  have I:=zD (show Rt.kX S m x n=Z by rw[HC.u,zA (by rw[hh];simp)]);go_wp2_with fail;refine zT (v:=E #[L #[J U 0,J U 0],A W]) ?_ rfl ⟨by rw[I.u];rfl,HB.u _ _⟩;simp[results,results167,go_sem,y,o]
structure Qf (w:World) (K:Nat) (st:List Int) (sv:Value):Prop where
 block:w.heap[K]?=some (.cells #[sv] 232 (0,0))
 own:w.ownsRow (K+1) 3 1 sv st.length (xR st)
theorem Qf.zP (h:Qf w K st sv) (d:Below w.heap.size w w'):Qf w' K st sv:=⟨zU h.block d,yG h.own d⟩
structure uA (K:Nat) (sv:Value) (w w':World):Prop where
 os:w'.os=w.os
 tape:w'.tape=w.tape
 output:w'.output=w.output
 size:w.heap.size<=w'.heap.size
 block:∀k,k < w.heap.size->k≠K->some k≠sv.ownBlock->w'.heap[k]?=w.heap[k]?
theorem uA.below (h:uA K sv w w') (d:Qf w K st sv):Below K w w':=by
 have f:=zQ d.block;exact⟨h.os,h.tape,h.output,h.size,fun k hk=>h.block k (by omega) (by omega) (fun e=>by have:=(d.own.lt k e.symm).1;omega)⟩
theorem uA.other (h:uA K sv w w') (i:Qf w K st sv) {c:Array Value} (d:w.heap[N]?=Q (V c t (0,0))) (k:t≠3) (j:t≠232):w'.heap[N]?=Q (V c t (0,0)):=by
 rw[h.block N (zQ d) ?_ ?_]
 ·exact d
 ·intro e;rw[e,i.block]at d;injection d with d;injection d with _ d;exact j d.symm
 ·intro e;obtain⟨o,f⟩:=yW i.own e.symm;rw[d]at f;injection f with f;injection f with _ f;exact k f
theorem sdec (o:List Int):o=[]\/∃pre x,o=pre++[x]:=by
 rcases ZC o with h | ⟨pre,b,h⟩
 ·exact Or.inl h
 ·exact Or.inr ⟨pre,b,by simpa using h⟩
theorem Qf.put {st':List Int} {sv':Value} (h:Qf w K st sv) (f:Below w.heap.size w wx) (o:wx.grownBy w1 sv.ownBlock) (j:w1.ownsRow (K+1) 3 1 sv' (G st') (xR st')):Qf (w1.setCell ⟨K,0,Z⟩ sv') K st' sv'/\uA K sv w (w1.setCell ⟨K,0,Z⟩ sv'):=by
 have y:=zQ h.block;have x:∀k,k<=K->Q k≠sv.ownBlock:=fun k hk e=>by have:=(h.own.lt k e.symm).1;omega
 have d:∀k,k < w.heap.size->Q k≠sv.ownBlock->w1.heap[k]?=w.heap[k]?:=fun k hk hv=>(o.block k (zX hk f.size) hv).trans (f.block k hk);have i:∀k,k≠K->(w1.setCell ⟨K,0,Z⟩ sv').heap[k]?=w1.heap[k]?:=fun k hk=>zO w1 ⟨K,0,Z⟩ _ k hk;refine⟨⟨?_,qL j (by show K < K+1;omega) _⟩,⟨o.os.trans f.os,o.tape.trans f.tape,o.output.trans f.output,?_,fun k hk hk2 hk3=>?_⟩⟩
 ·have:=zf ((d K y (x K (zB _))).trans h.block) 0 sv';simpa using this
 ·have:=o.size;have:=f.size;simp[World.setCell];omega
 ·rw[i k hk2,d k hk hk3]
theorem D9 (h:Qf w K st sv) (i:Below w.heap.size w wx) (j:wx.grownBy w1 sv.ownBlock):w1.cell? ⟨K,0,Z⟩=Q sv/\w1.frozen? ⟨K,0,Z⟩=W:=by
 have d:=zQ h.block;have f:w1.heap[K]?=Q (V #[sv] 232 (0,0)):=by
  rw[j.block K (zX d i.size) (fun e=>by have:=(h.own.lt K e.symm).1;omega),i.block K d];exact h.block
 exact⟨zC f 0 (by simp),zS f 0⟩
theorem XL:(Tryz.prog.info? 3).map (fun i=>(i.zero,i.size,i.bytes))=Q (Q (J U 0),1,8):=by kernel_rfl
theorem KN (v:Int) (h:Qf w K st sv) (z:G st<=2000):Calls Tryz.prog 218 #[H (Q ⟨K,0,Z⟩),J U v] w fun e w'=>e=T (E #[])/\(∃sv',Qf w' K (st++[v]) sv')/\uA K sv w w':=by
 obtain⟨L,x,o,k,j⟩:=yi XL;have i:=h.own;have O:=zC h.block 0 (by simp);simp at O;have D:=zQ h.block;have F:=zD h;obtain⟨V,cap,rfl⟩:=zK h.own;go_enter func218,ntmps218;go_wp2_with (at_builtin;refine wpList_append_lies _ rfl _ _ 24 rfl (K+1) 3 L _ 1 8 underlying24 x o k j rfl (by decide) _ _ _ rfl (i.alloc _) ⟨w.heap.size,0,Z⟩ 1 1 [J U v] rfl rfl (cell_one_new _ _ _) (by simp[Value.oneCell']) (by omega) (by unfold maxLen;omega) (by omega) (by simp;omega) (w.heap.size+1) (by simp) ?_);intro g cap' R f d N y;obtain⟨A,M⟩:=D9 F.u ((zI _ _).alloc (zB _) _) d;have I:=zD (F.u.put (st':=st++[v]) ((zI _ _).alloc (zB _) _) d (by rw[ze,xR,yB];exact f));go_wp2;go_end0;exact⟨rfl,⟨_,I.u.1⟩,I.u.2⟩
theorem aM (h:Qf w K st sv) (f:G st<=2000):Calls Tryz.prog 208 #[H (Q ⟨K,0,Z⟩)] w fun e w'=>e=T (J U (st.getLastD 0))/\(∃sv',Qf w' K st.dropLast sv')/\uA K sv w w':=by
 have y:=zC h.block 0 (by simp);have L:=zS h.block 0;simp at y;rcases sdec st with rfl | ⟨pre,x,rfl⟩
 ·have i:=zD h;obtain⟨N,cap,rfl⟩:=zK h.own;simp only[qQ]at y;go_enter func208,ntmps208;go_wp2;go_ret;exact⟨rfl,⟨_,i.u⟩,⟨rfl,rfl,rfl,zB _,fun _ _ _ _=>rfl⟩⟩
 ·have j:G pre+1<=3000:=by simp at f;omega
  have D:(xR (pre++[x]))[G pre]?=Q (J U x):=by simp[xR]
  obtain⟨g,cap,k,F,_,M⟩:=yD h.own D;have hown:=h.own;have A:=h;subst k;simp only[ze,yE,qQ,xW]at hown y A ⊢;have z:G pre+1<=cap:=by
   rcases hown.2 with⟨o,_⟩| ⟨g',cap',cur,o,_,_,hn,_⟩
   ·cases o
   ·simp at o;omega
  have d:w.ownsRow (K+1) 3 1 (I (Q ⟨g,0,Z⟩) (G pre) cap) (G pre) (xR pre):=by
   rw[xR,yB]at hown;exact ownsRow_pop (by simp[xR]) hown
  have i:=zD (fun q=>A.put (st':=pre) (below_drewN w q) ⟨rfl,rfl,rfl,zB _,fun _ _ _=>rfl⟩ (show (w.drewN q).ownsRow (K+1) 3 1 (I (Q ⟨g,0,Z⟩) (G pre) cap) (G pre) (xR pre)from d));rw[show (pre++[x]).getLastD 0=x by simp,show (pre++[x]).dropLast=pre by simp];generalize HPL:G pre=m at *
  replace HPL:=zD HPL
  go_enter func208,ntmps208;go_wp2;go_ret;exact⟨rfl,⟨_,(i.u 0).1⟩,(i.u 0).2⟩
theorem iy (b:Bool):Calls Tryz.prog 223 #[A b] w fun e w'=>e=T (J U (Rt.Vi b))/\w'=w:=by
 cases b
 all_goals
  go_enter func223,ntmps223;go_wp2;go_ret;exact⟨rfl,rfl⟩
theorem rA (code l r:Int):Calls Tryz.prog 219 #[J U code,J U l,J U r] w fun e w'=>e=T (E #[J U (Rt.xF code l r).1,J U (Rt.xF code l r).2])/\w'=w:=by
 have f:∀k:Int,¬code=k->(code==k)=W:=fun k h=>by rw[zV];exact h
 by_cases h5:code=5
 ·subst h5;have d:=zD (show Rt.xF 5 l r=(wrap64 (l+r),0)from rfl);go_enter func219,ntmps219;go_wp2;go_ret2;exact⟨by rw[d.u];rfl,rfl⟩
 by_cases h6:code=6
 ·subst h6;have d:=zD (show Rt.xF 6 l r=(wrap64 (l-r),0)from rfl);go_enter func219,ntmps219;go_wp2;go_ret2;exact⟨by rw[d.u];rfl,rfl⟩
 by_cases h7:code=7
 ·subst h7;have d:=zD (show Rt.xF 7 l r=(wrap64 (l*r),0)from rfl);go_enter func219,ntmps219;go_wp2;go_ret2;exact⟨by rw[d.u];rfl,rfl⟩
 by_cases h10:code=10
 ·subst h10;have d:=zD (show Rt.xF 10 l r=(Rt.Vi (decide (l < r)),0)from rfl);go_enter func219,ntmps219;go_wp2_with fail;refine(iy (decide (l < r))).mono ?_;rintro e w1 ⟨rfl,rfl⟩;go_wp2;go_ret2;exact⟨by rw[d.u];rfl,rfl⟩
 by_cases h11:code=11
 ·subst h11;have d:=zD (show Rt.xF 11 l r=(Rt.Vi (decide (l=r)),0)from rfl);go_enter func219,ntmps219;go_wp2_with fail;refine(iy _).mono ?_;rintro e w1 ⟨rfl,rfl⟩;go_wp2;go_ret2;exact⟨by rw[d.u,beq_eq_decide];rfl,rfl⟩
 have A:=f 5 h5;have z:=f 6 h6;have y:=f 7 h7;have x:=f 10 h10;have o:=f 11 h11;have i:=zD (show Rt.xF code l r=if r=0 then (0,2)else if code=8 then (wrap64 (l.tdiv r),0)else (l.tmod r,0) by unfold Rt.xF;rw[zA h5,zA h6,zA h7,zA h10,zA h11]);by_cases hr:r=0
 ·subst hr;have d:=zD (show Rt.xF code l 0=(0,2) by rw[i.u,zE rfl]);go_enter func219,ntmps219;go_wp2;go_ret2;exact⟨by rw[d.u];rfl,rfl⟩
 by_cases h8:code=8
 ·have d:=zD (show Rt.xF code l r=(wrap64 (l.tdiv r),0) by rw[i.u,zA hr,zE h8]);have j:(code==8)=D:=by simpa using h8
  go_enter func219,ntmps219;go_wp2;go_ret2;exact⟨by rw[d.u];rfl,rfl⟩
 ·have d:=zD (show Rt.xF code l r=(l.tmod r,0) by rw[i.u,zA hr,zA h8]);have j:(code==8)=W:=by simpa using h8
  go_enter func219,ntmps219;go_wp2;go_ret2;exact⟨by rw[d.u];rfl,rfl⟩
def mT (K:Nat) (x:List Int×Int) (w:World) (e:Ending) (w':World):Prop:=e=T (J U x.2)/\(∃sv,Qf w' K x.1 sv)/\Below K w w'
section
variable (w0 w:World) (M B:Nat) (ty:TypeId) (tail:List Value) (S:Rt.Src) (m:Rt.Mc) (X:ZK) (K:Nat) (st:List Int) (sv:Value) (code number:Int) (name:Ia)
theorem work_const (N:jz w0 M B ty tail S m X) (D:dL S m) (x:Below w0.heap.size w0 w) (I:w0.heap.size<=K) (k:Qf w K st sv) (o:G st<=1000):Calls Tryz.prog 207 #[H (Q ⟨M,0,Z⟩),H (Q ⟨K,0,Z⟩),L #[J U 1,J U number,O name]] w (mT K (st++[number],0) w):=by
 have _u:=And.intro N (And.intro D I);have y:=zQ k.block;have d:=(zI w.heap.size w).alloc (zB _) (V #[J U 1,J U number,O name] 236);have R:=zN w (V #[J U 1,J U number,O name] 236);have f:=k.zP d;have i:Below K w (w.alloc (V #[J U 1,J U number,O name] 236)):=d.mono (by omega);have F:Below w0.heap.size w0 (w.alloc (V #[J U 1,J U number,O name] 236)):=x.trans (d.mono x.size);go_enter func207,ntmps207;go_wp2_with fail;refine(KN number f (by omega)).mono ?_;rintro e w2 ⟨rfl,⟨A,h⟩,j⟩;have z:=qG h (i.trans (j.below f));go_wp2;go_ret;exact⟨rfl,⟨_,z.u.1⟩,z.u.2⟩
theorem wH (h0:jz w0 M B ty tail S m X) (N:dL S m) (hb:Below w0.heap.size w0 w) (hK:w0.heap.size<=K) (hs:Qf w K st sv) (a0:G st<=1000):Calls Tryz.prog 207 #[H (Q ⟨M,0,Z⟩),H (Q ⟨K,0,Z⟩),L #[J U 2,J U number,O name]] w (mT K (st++[Rt.ZL m (Rt.vx S m name)],0) w):=by
 have _u:=And.intro h0 (And.intro N hK);have a1:=zQ hs.block;have h:=(zI w.heap.size w).alloc (zB _) (V #[J U 2,J U number,O name] 236);have bO:=zN w (V #[J U 2,J U number,O name] 236);have I:=hs.zP h;have R:Below K w (w.alloc (V #[J U 2,J U number,O name] 236)):=h.mono (by omega);have i:Below w0.heap.size w0 (w.alloc (V #[J U 2,J U number,O name] 236)):=hb.trans (h.mono hb.size);go_enter func207,ntmps207;go_wp2_with fail;refine(fy name (h0.zP i) N).mono ?_;rintro e w2 ⟨rfl,d⟩;have o:=I.zP d;have A:=R.trans (d.mono (B':=K) (by simp;omega));have D:=i.trans (d.mono (B':=w0.heap.size) i.size);generalize Rt.vx S m name=sp at *;have f:=(zI w2.heap.size w2).alloc (zB _) (V #[J U sp.line,J U sp.cell] 160);have k:=o.zP f;have z:=A.trans (f.mono (B':=K) (by have:=zQ o.block;omega));have W:=D.trans (f.mono (B':=w0.heap.size) D.size);go_wp2_with fail;refine(nT sp (h0.zP W) N).mono ?_;rintro e w4 ⟨rfl,x⟩;have j:=k.zP x;have y:=z.trans (x.mono (B':=K) (by have:=zQ k.block;omega));generalize Rt.ZL m sp=gx at *;go_wp2_with fail;refine(KN gx j (by first | omega | (simp;omega))).mono ?_;rintro e w9 ⟨rfl,⟨a2,F⟩,T⟩;have HF:=qG F (y.trans (T.below j));go_wp2;go_ret;exact⟨rfl,⟨_,HF.u.1⟩,HF.u.2⟩
theorem work_cell (h0:jz w0 M B ty tail S m X) (hm:dL S m) (hb:Below w0.heap.size w0 w) (hK:w0.heap.size<=K) (hs:Qf w K st sv) (a6:G st<=1000) (x:List Int×Int) (hx:x=match Rt.kX S m name (st.getLastD 0)with | none=>(st.dropLast,3)| some s=>(st.dropLast++[Rt.ZL m s],0)):Calls Tryz.prog 207 #[H (Q ⟨M,0,Z⟩),H (Q ⟨K,0,Z⟩),L #[J U 3,J U number,O name]] w (mT K x w):=by
 have _u:=And.intro h0 (And.intro hm hK);have a7:=zQ hs.block;have o:=(zI w.heap.size w).alloc (zB _) (V #[J U 3,J U number,O name] 236);have bO:=zN w (V #[J U 3,J U number,O name] 236);have j:=hs.zP o;have a1:Below K w (w.alloc (V #[J U 3,J U number,O name] 236)):=o.mono (by omega);have a4:Below w0.heap.size w0 (w.alloc (V #[J U 3,J U number,O name] 236)):=hb.trans (o.mono hb.size);have HX:=zD hx;clear hx;go_enter func207,ntmps207;go_wp2_with fail;refine(aM j (by first | omega | (simp <;> omega))).mono ?_;rintro e w2 ⟨rfl,⟨a9,D⟩,h⟩;have I:=h.below j;have T:=a1.trans I;have y:=a4.trans (I.mono (B':=w0.heap.size) hK);have a5:w2.heap[w.heap.size]?=Q (V #[J U 3,J U number,O name] 236 (0,0)):=h.other j bO (by decide) (by decide);have k2:=zC a5 2 (by simp);simp at k2;have b0:G st.dropLast<=1000:=by simp;omega
 generalize st.getLastD 0=idx at *;generalize st.dropLast=st2 at *;go_wp2_with fail;refine(lU name idx (h0.zP y) hm).mono ?_;rintro e w3 ⟨rfl,k⟩;have f:=D.zP k;have i:=T.trans (k.mono (B':=K) (by have:=zQ D.block;omega));have W:=y.trans (k.mono (B':=w0.heap.size) y.size);cases hc:Rt.kX S m name idx with
 | none=>
  have HY:=zD (show x=(st2,3) by rw[HX.u,hc]);have d:=(zI w3.heap.size w3).alloc (zB _) (V #[J U 0,J U 0] 160);have HF:=qG (f.zP d) (i.trans (d.mono (B':=K) (by have:=zQ f.block;omega)));simp only[cellR];go_wp2;go_ret;rw[HY.u];exact⟨rfl,⟨_,HF.u.1⟩,HF.u.2⟩
 | some sp=>
  have HY:=zD (show x=(st2++[Rt.ZL m sp],0) by rw[HX.u,hc]);simp only[cellR];have d:=(zI w3.heap.size w3).alloc (zB _) (V #[J U sp.line,J U sp.cell] 160);have A:=f.zP d;have R:=i.trans (d.mono (B':=K) (by have:=zQ f.block;omega));have a3:=W.trans (d.mono (B':=w0.heap.size) W.size);go_wp2_with fail;refine(nT sp (h0.zP a3) hm).mono ?_;rintro e w5 ⟨rfl,F⟩;have z:=A.zP F;have N:=R.trans (F.mono (B':=K) (by have:=zQ A.block;omega));generalize Rt.ZL m sp=gx at *;go_wp2_with fail;refine(KN gx z (by first | omega | (simp;omega))).mono ?_;rintro e w9 ⟨rfl,⟨a8,a0⟩,a2⟩;have HF:=qG a0 (N.trans (a2.below z));go_wp2;go_ret;rw[HY.u];exact⟨rfl,⟨_,HF.u.1⟩,HF.u.2⟩
theorem Bi (h0:jz w0 M B ty tail S m X) (hm:dL S m) (F:Below w0.heap.size w0 w) (N:w0.heap.size<=K) (A:Qf w K st sv) (D:G st<=1000):Calls Tryz.prog 207 #[H (Q ⟨M,0,Z⟩),H (Q ⟨K,0,Z⟩),L #[J U 4,J U number,O name]] w (mT K (st.dropLast++[wrap64 (-(st.getLastD 0))],0) w):=by
 have _u:=And.intro h0 (And.intro hm N);have I:=zQ A.block;have d:=(zI w.heap.size w).alloc (zB _) (V #[J U 4,J U number,O name] 236);have bO:=zN w (V #[J U 4,J U number,O name] 236);have h:=A.zP d;have x:Below K w (w.alloc (V #[J U 4,J U number,O name] 236)):=d.mono (by omega);have z:Below w0.heap.size w0 (w.alloc (V #[J U 4,J U number,O name] 236)):=F.trans (d.mono F.size);go_enter func207,ntmps207;go_wp2_with fail;refine(aM h (by first | omega | (simp <;> omega))).mono ?_;rintro e w2 ⟨rfl,⟨W,f⟩,i⟩;have j:=i.below h;have k:=x.trans j;have a1:=z.trans (j.mono (B':=w0.heap.size) N);have a0:G st.dropLast<=1000:=by simp;omega
 generalize st.getLastD 0=idx at *;generalize st.dropLast=st2 at *;go_wp2_with fail;refine(KN (wrap64 (-idx)) f (by omega)).mono ?_;rintro e w9 ⟨rfl,⟨T,o⟩,y⟩;have R:=qG o (k.trans (y.below f));go_wp2;go_ret;exact⟨rfl,⟨_,R.u.1⟩,R.u.2⟩
theorem Bh (h0:jz w0 M B ty tail S m X) (hm:dL S m) (hb:Below w0.heap.size w0 w) (hK:w0.heap.size<=K) (hs:Qf w K st sv) (a3:G st<=1000) (h1:¬code=1) (h2:¬code=2) (h3:¬code=3) (h4:¬code=4) (x:List Int×Int) (hx:x=if (Rt.xF code (st.dropLast.getLastD 0) (st.getLastD 0)).2=0 then (st.dropLast.dropLast++[(Rt.xF code (st.dropLast.getLastD 0) (st.getLastD 0)).1],0)else (st.dropLast.dropLast,(Rt.xF code (st.dropLast.getLastD 0) (st.getLastD 0)).2)):Calls Tryz.prog 207 #[H (Q ⟨M,0,Z⟩),H (Q ⟨K,0,Z⟩),L #[J U code,J U number,O name]] w (mT K x w):=by
 have _u:=And.intro h0 (And.intro hm hK);have a4:=zQ hs.block;have o:=(zI w.heap.size w).alloc (zB _) (V #[J U code,J U number,O name] 236);have bO:=zN w (V #[J U code,J U number,O name] 236);have k:=hs.zP o;have I:Below K w (w.alloc (V #[J U code,J U number,O name] 236)):=o.mono (by omega);have T:Below w0.heap.size w0 (w.alloc (V #[J U code,J U number,O name] 236)):=hb.trans (o.mono hb.size);have HX:=zD hx;clear hx;have b1:(code==1)=W:=by rw[zV];exact h1
 have b2:(code==2)=W:=by rw[zV];exact h2
 have b3:(code==3)=W:=by rw[zV];exact h3
 have b4:(code==4)=W:=by rw[zV];exact h4
 go_enter func207,ntmps207;go_wp2_with fail;refine(aM k (by first | omega | (simp <;> omega))).mono ?_;rintro e w2 ⟨rfl,⟨a7,j⟩,f⟩;have z:=f.below k;have A:=I.trans z;have R:=T.trans (z.mono (B':=w0.heap.size) hK);have a1:w2.heap[w.heap.size]?=Q (V #[J U code,J U number,O name] 236 (0,0)):=f.other k bO (by decide) (by decide);have a8:G st.dropLast<=1000:=by simp;omega
 generalize st.getLastD 0=rx at *;generalize st.dropLast=st2 at *;go_wp2_with fail;refine(aM j (by first | omega | (simp <;> omega))).mono ?_;rintro e w3 ⟨rfl,⟨a6,i⟩,d⟩;have y:=d.below j;have h:=A.trans y;have a9:=R.trans (y.mono (B':=w0.heap.size) hK);have a0:w3.heap[w.heap.size]?=Q (V #[J U code,J U number,O name] 236 (0,0)):=d.other j a1 (by decide) (by decide);have k0:=zC a0 0 (by simp);simp at k0;have a2:G st2.dropLast<=1000:=by simp;omega
 generalize st2.getLastD 0=lx at *;generalize st2.dropLast=st3 at *;go_wp2_with fail;refine(rA code lx rx).mono ?_;rintro e w4 ⟨rfl,rfl⟩;generalize (Rt.xF code lx rx).1=cv at *;generalize (Rt.xF code lx rx).2=ct at *;by_cases hct:ct=0
 ·subst hct;have HY:=zD (show x=(st3++[cv],0) by rw[HX.u,zE rfl]);go_wp2_with fail;refine(KN cv i (by omega)).mono ?_;rintro e w9 ⟨rfl,⟨a5,F⟩,N⟩;have D:=qG F (h.trans (N.below i));go_wp2;go_ret;rw[HY.u];exact⟨rfl,⟨_,D.u.1⟩,D.u.2⟩
 ·have HY:=zD (show x=(st3,ct) by rw[HX.u,zA hct]);have bc:(ct==0)=W:=by rw[zV];exact hct
  have D:=qG i h;go_wp2;go_ret;rw[HY.u];exact⟨rfl,⟨_,D.u.1⟩,D.u.2⟩
end
theorem Bj {w0:World} {X:ZK} (o:qM) (y:jz w0 M B ty tail S m X) (j:dL S m) (k:Below w0.heap.size w0 w) (x:w0.heap.size<=K) (i:Qf w K st sv) (h:G st<=1000):Calls Tryz.prog 207 #[H (Q ⟨M,0,Z⟩),H (Q ⟨K,0,Z⟩),L #[J U o.code,J U o.number,O o.name]] w (mT K (Rt.workI S m st o) w):=by
 obtain⟨code,d,f⟩:=o;by_cases h1:code=1
 ·subst h1;exact work_const w0 w M B ty tail S m X K st sv d f y j k x i h
 by_cases h2:code=2
 ·subst h2;exact wH w0 w M B ty tail S m X K st sv d f y j k x i h
 by_cases h3:code=3
 ·subst h3;exact work_cell w0 w M B ty tail S m X K st sv d f y j k x i h _ rfl
 by_cases h4:code=4
 ·subst h4;exact Bi w0 w M B ty tail S m X K st sv d f y j k x i h
 refine Bh w0 w M B ty tail S m X K st sv code d f y j k x i h h1 h2 h3 h4 _ ?_;unfold Rt.workI;simp only;rw[zA h1,zA h2,zA h3,zA h4]
theorem wI (S:Rt.Src) (m:Rt.Mc) (d:List Int) (o:qM):(Rt.workI S m d o).1.length<=G d+1:=by
 unfold Rt.workI;split
 ·simp
 ·split
  ·simp
  ·split
   ·split <;> simp <;> omega
   ·split
    ·simp <;> omega
    ·simp only;split <;> simp <;> omega
theorem Ju {X:ZK} {ad:Option Addr} {cap:Nat} {ops:List qM} (h:jz w M B ty tail S m X) (hm:dL S m) (hx:w.ownsRow BB 236 3 (I ad (G ops) cap) (G ops) (xX ops)) (a3:G ops<=900):Calls Tryz.prog 182 #[H (Q ⟨M,0,Z⟩),L #[I ad (G ops) cap]] w fun e w'=>e=T (E #[J U (Rt.zr S m ops).1,J U (Rt.zr S m ops).2])/\Below w.heap.size w w':=by
 have hb0:=((zI w.heap.size w).alloc (zB _) (V #[I ad (G ops) cap] 140)).alloc (by simp) (V #[I Z 0 0] 232);have bE:=yR (zN w (V #[I ad (G ops) cap] 140)) (V #[I Z 0 0] 232);have bK:=qD w (V #[I ad (G ops) cap] 140) (V #[I Z 0 0] 232);have hs0:Qf ((w.alloc (V #[I ad (G ops) cap] 140)).alloc (V #[I Z 0 0] 232)) (w.heap.size+1) [] (I Z 0 0):=⟨bK,zW _ _ _ _⟩;have HH:=qG h hx;go_enter func182,ntmps182;go_wp2_with fail;go_loopw [7,8] (fun i _ wr=>∃(k:Nat) (st:List Int) (sv:Value),k<=G ops/\i=J U k/\G st<=k/\Rt.evalI S m (ops.drop k) st=Rt.zr S m ops/\Qf wr (w.heap.size+1) st sv/\wr.heap[w.heap.size]?=Q (V #[I ad (G ops) cap] 140 (0,0))/\Below w.heap.size w wr)
  (fun i _ _=>G ops-(intOf i).toNat)
 case atStart=>exact⟨0,[],_,zo _,rfl,by simp,rfl,hs0,bE,hb0⟩
 case round=>
  obtain⟨k,st,sv,hk,rfl,a5,hT,j,O,d⟩:=hrel;have cE:=zC O 0 (by simp);simp at cE;have HT:=zD hT;by_cases hlt:k < G ops
  ·obtain⟨g,hg,o0,o1,o2⟩:=lO (yG HH.u.2 d) hlt;subst hg;have x:(k:Int) < (G ops:Int):=by omega
   have F:=zD (show Rt.zr S m ops=if (Rt.workI S m st ops[k]).2=0 then Rt.evalI S m (ops.drop (k+1)) (Rt.workI S m st ops[k]).1 else (0,(Rt.workI S m st ops[k]).2) by rw[<-HT.u,zZ hlt,Rt.evalI]);have W:=wI S m st ops[k];have HW:=zD (Bj ops[k] HH.u.1 hm d (by omega) j (by omega));have HX:=XX j O d;generalize Rt.workI S m st ops[k]=y at *;generalize ops[k]=o at *;go_wp2_with fail;refine HW.u.mono ?_;rintro e w2 ⟨rfl,⟨a4,a0⟩,A⟩;obtain⟨j,O,d⟩:=HX.u;have a2:w2.heap[w.heap.size]?=Q (V #[I (Q ⟨g,0,Z⟩) (G ops) cap] 140 (0,0)):=by rw[A.block w.heap.size (by omega)];exact O
   have z:=d.trans (A.mono (B':=w.heap.size) (by omega));have N:=XX a0 a2 z;obtain⟨R,tr⟩:=y;simp only at F W N ⊢;by_cases htr:tr=0
   ·subst htr;have f:=zD (F.u.trans (zE rfl));go_wp2;go_roundw
    ·obtain⟨q1,q2,q3⟩:=N.u;exact⟨k+1,R,_,by omega,by go_num,by omega,f.u.symm,q1,q2,q3⟩
    ·simp[intOf];omega
   ·have f:=zD (F.u.trans (zA htr));have a6:(tr != 0)=D:=by simpa using htr
    go_wp2;go_ret2;exact⟨by rw[f.u];rfl,N.u.2.2⟩
  ·have x:¬(k:Int) < (G ops:Int):=by omega
   have F:=zD (show Rt.zr S m ops=(st.getLastD 0,0) by rw[<-HT.u,zp (by omega),Rt.evalI]);have HB:=zD d;go_wp2_with fail;refine(aM j (by omega)).mono ?_;rintro e w2 ⟨rfl,_,a1⟩;have N:=zD (HB.u.trans ((a1.below j).mono (B':=w.heap.size) (by omega)));generalize st.getLastD 0=gv at *;go_wp2;go_ret2;exact⟨by rw[F.u];rfl,N.u⟩
theorem Ks {X:ZK} {c1 c2 c3:Nat} (h:jz w M B ty tail S m X) (hm:dL S m) (hf:qk w BB #[J U fm.kind,O fm.name,J U fm.cells,I a1 (G fm.params) c1,I a2 (G fm.index) c2,I a3 (G fm.values) c3] fm) (N:Rt.Small fm) (f:∀o∈fm.values,G o<=900):Calls Tryz.prog 180 #[H (Q ⟨M,0,Z⟩),L #[J U fm.kind,O fm.name,J U fm.cells,I a1 (G fm.params) c1,I a2 (G fm.index) c2,I a3 (G fm.values) c3]] w fun e w'=>e=T (E #[J U (Rt.kP S m fm).1,J U (Rt.kP S m fm).2])/\Below w.heap.size w w':=by
 have _u:=N;have d:=(zI w.heap.size w).alloc (zB _) (V #[J U fm.kind,O fm.name,J U fm.cells,I a1 (G fm.params) c1,I a2 (G fm.index) c2,I a3 (G fm.values) c3] 143);have hA:=h.zP d;obtain⟨pv,iv,vv,vs,k,_,_,b3,b4⟩:=hf;have a4:vv=I a3 (G fm.values) c3:=by simp at k;exact k.2.2.symm
 subst a4;have R:=yG b3 d;have bF:=zN w (V #[J U fm.kind,O fm.name,J U fm.cells,I a1 (G fm.params) c1,I a2 (G fm.index) c2,I a3 (G fm.values) c3] 143);clear h k;by_cases h0:G fm.values=0
 ·have HE:=zD (show Rt.kP S m fm=(0,0) by unfold Rt.kP;rw[yu h0]);have hz:((G fm.values:Int)==0)=D:=by simpa using h0
  have HB:=zD d;clear hA b3 R b4 bF d hm N f h0;go_enter func180,ntmps180;go_wp2;go_ret2;exact⟨by rw[HE.u];rfl,HB.u⟩
 ·have hz:((G fm.values:Int)==0)=W:=by rw[zV];omega
  have a8:(0:Int) < (G fm.values:Int):=by omega
  obtain⟨o,os,i⟩:∃o os,fm.values=o::os:=by
   cases hv:fm.values with
   | nil=>rw[hv]at h0;simp at h0
   | cons o os=>exact⟨o,os,rfl⟩
  have HE:=zD (show Rt.kP S m fm=Rt.zr S m o by unfold Rt.kP;rw[i]);have a5:=f o (by rw[i];exact xB ..);obtain⟨x,xs,hx,F⟩:∃x xs,vs=x::xs/\w.ownsRow BB 236 3 x (G o) (xX o):=by
   rw[i]at b4;cases vs with
   | nil=>exact b4.elim
   | cons x xs=>exact⟨x,xs,rfl,b4.1⟩
  obtain⟨a0,z,rfl⟩:=zK F;subst hx;obtain⟨g,a9,a6,_,_,ca⟩:=yD R (j:=0) (u:=I a0 (G o) z) rfl;injection a6 with e1 _ e2;subst e1 e2;have A:=yG F d;have HV:=zD (Ju hA hm A a5);have HB:=zD d;generalize (G fm.values)=vl at *;go_enter func180,ntmps180;go_wp2_with fail;refine HV.u.mono ?_;rintro e w2 ⟨rfl,a7⟩;have HF:=zD (HB.u.trans (a7.mono (B':=w.heap.size) (by simp)));generalize Rt.zr S m o=y at *;obtain⟨y1,y2⟩:=y;go_wp2;go_ret2;exact⟨by rw[HE.u];rfl,HF.u⟩
theorem ij {cs:List (List Value)} (n:Int) (h:vu w P B zL lk lv cs):Calls Tryz.prog 183 #[H (Q ⟨P,0,Z⟩),J U n] w fun e w'=>e=T (J U (Rt.ky lk n))/\Below w.heap.size w w':=by
 go_enter func183,ntmps183;go_wp2_with fail;refine(Kp n h).mono ?_;rintro e w1 ⟨L,F,D,A,z,y,x,o,rfl,_,_,i⟩;have f:=zD (show Rt.ky lk n=if 0 < (Rt.jR lk n).1 then wrap64 ((Rt.jR lk n).1+1)else wrap64 ((Rt.jR lk n).2+1)from rfl);generalize (Rt.jR lk n).1=xe at *;generalize (Rt.jR lk n).2=xf at *;generalize yM zL n=pl at *;have d:=i.alloc i.size (V #[I L (G pl.yY) z,J U pl.form.kind,O pl.form.name,J U pl.form.cells,I F (G pl.form.params) y,I D (G pl.form.index) x,I A (G pl.form.values) o,J U pl.depth,J U pl.opener,J U xe,J U xf,J U pl.proc] 145);have k:=zD d;clear h i d;by_cases hx:0 < xe
 ·have j:=zD (f.u.trans (zE hx));clear f;go_wp2;go_ret;exact⟨by rw[j.u];rfl,k.u⟩
 ·have j:=zD (f.u.trans (zA hx));clear f;go_wp2;go_ret;exact⟨by rw[j.u];rfl,k.u⟩
def mX (zL:List Rt.PL) (lk:Qw):Prop:=∀(n:Nat) (p:Rt.PL),zL[n]?=Q p->p.form.kind=6->(n:Int)<=(Rt.jR lk p.opener).2/\(Rt.jR lk p.opener).2<=200
namespace Rt
theorem mB (zL:List PL) (lk:Qw) (f:Nat) (n:Int):goOn zL lk (f+1) n=if 0 < n/\n < G zL then (if xV zL (vU zL n)=D then n else if (vU zL n).form.kind=4/\(yA zL (vU zL n).opener).kind=7 then (vU zL n).opener else if (vU zL n).form.kind=6 then goOn zL lk f (wrap64 ((jR lk (vU zL n).opener).2+1))else goOn zL lk f (wrap64 (n+1)))else 0:=rfl
end Rt
theorem pW {cs:List (List Value)} (n:Int) (h:vu w P B zL lk lv cs) (g2:G zL<=101) (f4:mX zL lk) (hn:-9223372036854775808<=n/\n<=9223372036854775807):Calls Tryz.prog 92 #[H (Q ⟨P,0,Z⟩),J U n] w fun e w'=>e=T (J U (Rt.goOn zL lk 102 n))/\Below w.heap.size w w':=by
 obtain⟨ad,cap,f5,cP⟩:=h.v.Q3;have HH:=zD h;have g0:=zD f4;clear h f4;go_enter func92,ntmps92;go_wp2_with fail;go_loopw [1,5,6] (fun i _ _ wr=>∃(j:Int) (f:Nat),i=J U j/\-9223372036854775808<=j/\j<=9223372036854775807/\(G zL:Int) < f+max j 0+1/\Rt.goOn zL lk f j=Rt.goOn zL lk 102 n/\Below w.heap.size w wr)
  (fun i _ _ _=>(G zL+1-max (intOf i) 0).toNat)
 case atStart=>exact⟨n,102,rfl,hn.1,hn.2,by omega,rfl,zI _ _⟩
 case round=>
  obtain⟨j,f,rfl,h1,h0,hf,hT,y⟩:=hrel;have R:=HH.u.zP y;have h8:=cell_later y cP;have HT:=zD hT;have HF:=zD hf;clear hT hf cP;by_cases hin:0 < j/\j < G zL
  ·obtain⟨k,rfl⟩:=yr (show 0<=j by omega);have a4:k < G zL:=by omega
   have g1:(k:Int) < (G zL:Int):=by omega
   have g9:(0:Int) < (k:Int):=hin.1;have g3:(0:Int)<=(k:Int):=by omega
   obtain⟨f',rfl⟩:∃f',f=f'+1:=⟨f-1,by have:=HF.u;omega⟩;obtain⟨g,cap',a0,a1,a2,a3,e0,e1,e2,e3,xe,xf,a6,g4,⟨d0,d1,d2,d3,d4,d5,d6,d7,d8,d9,h5,h3⟩,_,_⟩:=R.v.at a4;have b9:=f5.symm.trans a6;injection b9 with e1 _ e2;subst e1 e2;have N:=zD (HT.u.symm.trans (mB zL lk f' k));have c0:Rt.vU zL (k:Int)=zL[k]:=QQ a4;rw[c0,zE hin]at N;have d:=g0.u k zL[k] (zJ a4)

   clear a6 c0 hin HT;have f7:Hd (yM zL (k:Int)=zL[k]):=zD (QQ a4);generalize zL[k]=p at *;have a8:=(zI wr.heap.size wr).alloc (zB _) (V #[I a0 (G p.yY) e0,J U p.form.kind,O p.form.name,J U p.form.cells,I a1 (G p.form.params) e1,I a2 (G p.form.index) e2,I a3 (G p.form.values) e3,J U p.depth,J U p.opener,J U xe,J U xf,J U p.proc] 145);have bA:=zN wr (V #[I a0 (G p.yY) e0,J U p.form.kind,O p.form.name,J U p.form.cells,I a1 (G p.form.params) e1,I a2 (G p.form.index) e2,I a3 (G p.form.values) e3,J U p.depth,J U p.opener,J U xe,J U xf,J U p.proc] 145);have D:=R.zP a8;have L:=y.trans (a8.mono (B':=w.heap.size) y.size);clear R y a8;go_wp2_with fail;refine(isStop_v (k:Int) D.v).mono ?_;rintro e w2 ⟨rfl,a5⟩;rw[f7.u];have F:=D.zP a5;have o:=L.trans (a5.mono (B':=w.heap.size) L.size);have z:=zU bA a5;clear D L a5 bA;cases hst:Rt.xV zL p with
   | true=>
    have A:=zD (N.u.trans (zE hst));have HB:=zD o;clear N hst F o z d;go_wp2;go_ret;exact⟨by rw[A.u];rfl,HB.u⟩
   | false=>
    have x:=zD (N.u.trans (zA (by rw[hst];simp)));clear N hst;have q1:=zC z 1 (by simp);have q8:=zC z 8 (by simp);simp only[yQ,yH,zv]at q1 q8;go_wp2_with fail;refine(Kp p.opener F).mono ?_;rintro e w3 ⟨b0,b1,b2,b3,f0,f1,f2,f3,rfl,_,_,M⟩;have f9:=zD (Zk zL p.opener);generalize yM zL p.opener=po at *;generalize g8:(Rt.jR lk p.opener).1=ye at *;generalize g7:(Rt.jR lk p.opener).2=yf at *;have a9:=(zI w3.heap.size w3).alloc (zB _) (V #[I b0 (G po.yY) f0,J U po.form.kind,O po.form.name,J U po.form.cells,I b1 (G po.form.params) f1,I b2 (G po.form.index) f2,I b3 (G po.form.values) f3,J U po.depth,J U po.opener,J U ye,J U yf,J U po.proc] 145);have f6:=zN w3 (V #[I b0 (G po.yY) f0,J U po.form.kind,O po.form.name,J U po.form.cells,I b1 (G po.form.params) f1,I b2 (G po.form.index) f2,I b3 (G po.form.values) f3,J U po.depth,J U po.opener,J U ye,J U yf,J U po.proc] 145);have b5:=zU (zU z M) a9;have r1:=zC b5 1 (by simp);have r8:=zC b5 8 (by simp);simp only[yQ,yH,zv]at r1 r8;have a7:=(o.trans (M.mono (B':=w.heap.size) o.size)).trans (a9.mono (B':=w.heap.size) (by have:=o.size;have:=M.size;omega));have HB:=zD a7;have g6:¬wr.heap.size=w3.heap.size:=by have:=zQ (zU z M);omega
    clear F o z M a9 f6 b5 a7 q1 q8;generalize p.opener=op at *;generalize p.form.kind=kx at *;have f8:=zD (show (Rt.yA zL op).kind=po.form.kind by rw[f9.u]);rw[f8.u]at x;generalize po.form.kind=ko at *;by_cases h4:kx=4
    ·subst h4;by_cases h7:ko=7
     ·subst h7;have A:=zD (x.u.trans (zE ⟨rfl,rfl⟩));clear x d;go_wp2;go_ret;exact⟨by rw[A.u];rfl,HB.u⟩
     ·have b7:(ko==7)=W:=by rw[zV];exact h7
      have A:=zD ((x.u.trans (zA (fun e=>h7 e.2))).trans (zA (by omega)));have b8:IntKind.i64.wrap ((k:Int)+1)=(k:Int)+1:=by rw[yv,yC _ (by omega)]
      clear x d h7;go_wp2;go_roundw
      ·have hf:=HF.u;refine⟨(k:Int)+1,f',by go_num,by omega,by omega,by omega,?_,HB.u⟩;have:=A.u;rw[yC _ (by omega)]at this;exact this.symm
      ·simp[intOf];omega
    ·have b4:(kx==4)=W:=by rw[zV];exact h4
     by_cases h6:kx=6
     ·subst h6;have g5:=d rfl;have A:=zD ((x.u.trans (zA (fun e=>h4 e.1))).trans (zE rfl));have b8:IntKind.i64.wrap (yf+1)=yf+1:=by rw[yv,yC _ (by omega)]
      clear x d;go_wp2;go_roundw
      ·have hf:=HF.u;refine⟨yf+1,f',by go_num,by omega,by omega,by omega,?_,HB.u⟩;have:=A.u;rw[yC _ (by omega)]at this;exact this.symm
      ·simp[intOf];omega
     ·have b6:(kx==6)=W:=by rw[zV];exact h6
      have A:=zD ((x.u.trans (zA (fun e=>h4 e.1))).trans (zA h6));have b8:IntKind.i64.wrap ((k:Int)+1)=(k:Int)+1:=by rw[yv,yC _ (by omega)]
      clear x d h4 h6;go_wp2;go_roundw
      ·have hf:=HF.u;refine⟨(k:Int)+1,f',by go_num,by omega,by omega,by omega,?_,HB.u⟩;have:=A.u;rw[yC _ (by omega)]at this;exact this.symm
      ·simp[intOf];omega
  ·have A:Hd (Rt.goOn zL lk 102 n=0):=by
    refine zD ?_;rw[<-HT.u];cases f with
    | zero=>rfl
    | succ f=>rw[mB,zA hin]
   have HB:=zD y;clear R y HT HF;by_cases hj:0 < j
   ·have h2:¬j < (G zL:Int):=fun e=>hin ⟨hj,e⟩;clear hin;go_wp2;go_ret;exact⟨by rw[A.u];rfl,HB.u⟩
   ·clear hin;go_wp2;go_ret;exact⟨by rw[A.u];rfl,HB.u⟩
def Z4 (X:ZK):List Nat:=([X.iv,X.fv,X.vv,X.ov]++(X.xg++X.YR)).filterMap Value.ownBlock
theorem eo:∀(a:List Value) (b:List (List Int)),G a=G b->xh (List.zipWith zz a b)=a.filterMap Value.ownBlock
 | [],[],_=>rfl
 | [],_::_,h=>by simp at h
 | _::_,[],h=>by simp at h
 | x::a,y::b,h=>by
  rw[jT,ka,eo a b (by simpa using h),List.filterMap_cons];show (match x.ownBlock with | none=>_ | some g=>_)=_;cases x.ownBlock <;> rfl
theorem jz.xh {w:World} {M B:Nat} {ty:TypeId} {tail:List Value} {S:Rt.Src} {m:Rt.Mc} {X:ZK} (h:jz w M B ty tail S m X):xh (rowsOf S.input X m)=Z4 X:=by
 unfold rowsOf Z4;rw[jd,jd,eo _ _ (by simp[h.fl]),eo _ _ h.vl,List.filterMap_append,List.filterMap_append];rfl
structure Z8 (M B:Nat) (ty:TypeId) (tail:List Value) (S:Rt.Src) (X X':ZK) (m':Rt.Mc) (w w':World):Prop where
 mc:jz w' M B ty tail S m' X'
 vz:VM w w' (M::Z4 X)
 grow:vd w (Z4 X) (Z4 X')
 lt:M < w.heap.size
theorem Z8.start {X:ZK} (h:jz w M B ty tail S m X) (d:Below w.heap.size w w'):Z8 M B ty tail S X X m w w':=⟨h.zP d,VM.jQ _ d,vd.refl _ _,zQ h.block⟩
theorem Z8.below {X X':ZK} (h:Z8 M B ty tail S X X' m w w1) (d:Below w1.heap.size w1 w2):Z8 M B ty tail S X X' m w w2:=
 ⟨h.mc.zP d,h.vz.trans (VM.jQ [] d) (fun _ h=>by cases h),h.grow,h.lt⟩
theorem Z8.put {m2:Rt.Mc} {X X':ZK} (h:Z8 M B ty tail S X X' m w w1) (f:V8 M B ty tail S m m2 X' w1 w2):Z8 M B ty tail S X X' m2 w w2:=by
 refine⟨f.1,h.vz.trans f.2 ?_,h.grow,h.lt⟩;rw[h.mc.xh];intro k hk;rcases h.grow k hk with d | d
 ·exact Or.inl (zm _ d)
 ·exact Or.inr d
theorem Z8.aside {M B:Nat} {ty:TypeId} {tail:List Value} {S:Rt.Src} {m:Rt.Mc} {X X':ZK} {w w':World} (h:Z8 M B ty tail S X X' m w w') {N:Nat} {cs:Array Value} {t:TypeId} (o:w'.heap[N]?=Q (V cs t (0,0))) (j:w.heap.size<=N) (f:¬Xe t/\t≠3/\t≠153/\t≠24) (i:Nat) (v:Value):Z8 M B ty tail S X X' m w (w'.setCell ⟨N,i,Z⟩ v):=by
 have d:=h.lt;refine⟨h.mc.aside o (by omega) f i v,⟨h.vz.os,h.vz.tape,h.vz.output,zi h.vz.size (by simp[World.setCell]),fun k hk hn=>?_⟩,h.grow,h.lt⟩;rw[zO w' ⟨N,i,Z⟩ v k (by show k≠N;omega)];exact h.vz.block k hk hn
abbrev W3 (w:World) (N:Nat) (a b c:Value):World:=((w.setCell ⟨N,0,Z⟩ a).setCell ⟨N,1,Z⟩ b).setCell ⟨N,2,Z⟩ c
theorem Z8.three {X X':ZK} (h:Z8 M B ty tail S X X' m w w') (j:w'.heap[N]?=Q (V cs t (0,0))) (d:w.heap.size<=N) (f:¬Xe t/\t≠3/\t≠153/\t≠24) (a b c:Value):Z8 M B ty tail S X X' m w (W3 w' N a b c):=by
 have i:=zf j 0 a;have n2:=zf i 1 b;exact((h.aside j d f 0 a).aside i d f 1 b).aside n2 d f 2 c
def xE (rs:List Rt.Rec):List Value:=rs.flatMap YV
def eE (M B:Nat) (ty:TypeId) (tail:List Value) (S:Rt.Src) (X:ZK) (o:Rt.Out) (w:World) (e:Ending) (w':World):Prop:=
 ∃rv X',e=T (L #[J U o.fin,J U o.next,rv])/\Z8 M B ty tail S X X' o.m w w'/\w'.ownsRow w.heap.size 162 5 rv (G o.YU) (xE o.YU)
abbrev Qd (fm:Rt.qS) (a1 a2 a3:Option Addr) (c1 c2 c3:Nat):Array Value:=#[J U fm.kind,O fm.name,J U fm.cells,I a1 (G fm.params) c1,I a2 (G fm.index) c2,I a3 (G fm.values) c3]
theorem yb (h:w.heap[N]?=Q (V #[v0,v1,v2] t (0,0))):w.cell? ⟨N,0,Z⟩=Q v0/\w.cell? ⟨N,1,Z⟩=Q v1/\w.cell? ⟨N,2,Z⟩=Q v2:=
 ⟨zC h 0 (by simp),zC h 1 (by simp),zC h 2 (by simp)⟩
theorem ZY {v:Array Value} (h:qk w BB v fm) (d:Below w.heap.size w w'):qk w' BB v fm:=(xZ (B:=BB) d).form h
theorem FC:(W3 w N a b c).heap.size=w.heap.size:=by simp[World.setCell]
theorem eQ (n:Nat) (w:World) (B R:Nat) (cs:Array Value) (h:B<=w.heap.size) (a b c:Value) (d:cs.size=n*5) (i:n<=1000):((W3 w R a b c).alloc (V cs 162)).ownsRow B 162 5 (I (Q ⟨w.heap.size,0,Z⟩) n n) n cs.toList:=by
 have f:=zN (W3 w R a b c) (V cs 162);rw[FC]at f;refine⟨by simp[d],Or.inr ⟨w.heap.size,n,cs,rfl,h,f,zB _,by unfold maxLen;omega,d,?_⟩⟩;exact yw (by simp[d])
theorem Km {x y z:Value} (h:w.heap[R]?=Q (V #[x,y,z] t (0,0))) (a b c:Value):(W3 w R a b c).heap[R]?=Q (V #[a,b,c] t (0,0)):=by
 have:=zf (zf (zf h 0 a) 1 b) 2 c;simpa using this
theorem fU (m:Rt.Mc) (s:Rt.Q9) (v:Int):(Rt.jN m s v).line=m.line:=by
 unfold Rt.jN;split
 ·split <;> rfl
 ·rfl
theorem iF {k:Nat} (d:k≠N):(W3 w N a b c).heap[k]?=w.heap[k]?:=by
 simp only[W3]
 repeat rw[zO _ _ _ _ d]
theorem mu {q:Nat} (n:Nat) (h:w.heap[q]?=Q (V cs 162 (0,0))) (d:q≠R) (i:B<=q) (a b c:Value) (f:cs.size=n*5) (j:n<=1000):(W3 w R a b c).ownsRow B 162 5 (I (Q ⟨q,0,Z⟩) n n) n cs.toList:=by
 refine⟨by simp[f],Or.inr ⟨q,n,cs,rfl,i,by rw[iF d];exact h,zB _,by unfold maxLen;omega,f,?_⟩⟩;exact yw (by simp[f])
theorem nw {X:ZK} {c1 c2 c3:Nat} (h:jz w M B ty tail S m X) (hm:dL S m) (hf:qk w BB (Qd fm a1 a2 a3 c1 c2 c3) fm) (a7:Rt.Small fm) (R:∀o∈fm.values,G o<=900) (hk:fm.kind=8):Calls Tryz.prog 145 #[H (Q ⟨M,0,Z⟩),L (Qd fm a1 a2 a3 c1 c2 c3)] w (eE M B ty tail S X (Rt.perform S m fm) w):=by
 have x:=((zI w.heap.size w).alloc (zB _) (V (Qd fm a1 a2 a3 c1 c2 c3) 143)).alloc (by simp) (V #[J U 0,J U 0,I Z 0 0] 157);have bF:=yR (zN w (V (Qd fm a1 a2 a3 c1 c2 c3) 143)) (V #[J U 0,J U 0,I Z 0 0] 157);have bR:=qD w (V (Qd fm a1 a2 a3 c1 c2 c3) 143) (V #[J U 0,J U 0,I Z 0 0] 157);have hA:=h.zP x;have a8:=ZY hf x;have HP:=zD (show Rt.perform S m fm=if (Rt.kP S m fm).2=0 then ⟨0,wrap64 (m.line+1),[Rt.stay m.line,Rt.stored m (Rt.vx S m fm.name)],Rt.jN m (Rt.vx S m fm.name) (Rt.kP S m fm).1⟩else Rt.ended m (Rt.kP S m fm).2 by unfold Rt.perform;simp only;rw[zE hk]);have HH:=zD h;clear h hf hk;go_enter func145,ntmps145;go_wp2_with fail;refine(Ks hA hm a8 a7 R).mono ?_;rintro e w1 ⟨rfl,j⟩;have k:=x.trans (j.mono (B':=w.heap.size) (by simp;omega));have a6:=zU bF j;have i:=zU bR j;have k1:=zC a6 1 (by simp);simp at k1;have h1:=hA.zP j;clear hA a8 x bF bR j;generalize Rt.kP S m fm=v at *;obtain⟨v1,v2⟩:=v;simp only at HP;by_cases hv:v2=0
 ·subst hv
  replace HP:=zD (HP.u.trans (zE rfl))
  go_wp2_with fail;refine(fy fm.name h1 hm).mono ?_;rintro e w2 ⟨rfl,A⟩;have a4:=k.trans (A.mono (B':=w.heap.size) k.size);have h2:=h1.zP A;have b2:=zU i A;clear h1 A k a6 i k1;have y:=(zI w2.heap.size w2).alloc (zB _) (V #[J U (Rt.vx S m fm.name).line,J U (Rt.vx S m fm.name).cell] 160);have h3:=h2.zP y;have a9:=a4.trans (y.mono (B':=w.heap.size) a4.size);have N:=zU b2 y;have b6:=zN w2 (V #[J U (Rt.vx S m fm.name).line,J U (Rt.vx S m fm.name).cell] 160);clear h2 y a4 b2;generalize Rt.vx S m fm.name=sp at *;go_wp2_with fail;refine(Kv sp v1 h3 hm).mono ?_;rintro e w4 ⟨rfl,T⟩;have b0:=(Z8.start HH.u a9).put T;have b1:=(T.2.block _ (zQ N) (QF h3.own N (by decide))).trans N;clear h3 a9 N b6 T;have b7:=zD (show Rt.stored m sp=⟨4,0,sp,Rt.ZL m sp⟩from rfl);generalize Rt.ZL m sp=J8 at *;have a0:=(zI w4.heap.size w4).alloc (zB _) (V #[J U 4,J U 0,J U sp.line,J U sp.cell,J U J8] 162);have d:=b0.below a0;have f:=zU b1 a0;have b3:=zN w4 (V #[J U 4,J U 0,J U sp.line,J U sp.cell,J U J8] 162);have c6:=d.mc.c6;have HL:=zD (show (Rt.jN m sp v1).line=m.line from fU m sp v1);rw[HL.u]at c6;have b4:=qG d f;obtain⟨p0,p1,p2,p3,p4⟩:=QY b3;clear b0 d b1 f a0 b3;go_wp2_with fail;generalize w4.alloc (V #[J U 4,J U 0,J U sp.line,J U sp.cell,J U J8] 162)=w5 at *;generalize w4.heap.size=O at *;go_region_held3 (fun w'=>w'.cell? ⟨M,6,Z⟩=Q (J U m.line)/\w'.cell? ⟨O,0,Z⟩=Q (J U 4)/\w'.cell? ⟨O,1,Z⟩=Q (J U 0)/\w'.cell? ⟨O,2,Z⟩=Q (J U sp.line)/\w'.cell? ⟨O,3,Z⟩=Q (J U sp.cell)/\w'.cell? ⟨O,4,Z⟩=Q (J U J8)) (go_keep) (fail);obtain⟨d,f⟩:=b4.u;have W:=((zI w5.heap.size w5).alloc (zB _) (V #[J U 1,J U m.line,J U 0,J U 0,J U 0,J U 4,J U 0,J U sp.line,J U sp.cell,J U J8] 162)).drew;have bQ:(w5.alloc (V #[J U 1,J U m.line,J U 0,J U 0,J U 0,J U 4,J U 0,J U sp.line,J U sp.cell,J U J8] 162)).drew.heap[w5.heap.size]?=_:=zN w5 (V #[J U 1,J U m.line,J U 0,J U 0,J U 0,J U 4,J U 0,J U sp.line,J U sp.cell,J U J8] 162);have a5:=d.below W;have F:=zU f W;have b5:=a5.mc.c6;rw[HL.u]at b5;have hQ:=d.vz.size;have b9:=zQ bQ;have b8:=zQ f;clear d f W b4 c6 p0 p1 p2 p3 p4;generalize (w5.alloc (V #[J U 1,J U m.line,J U 0,J U 0,J U 0,J U 4,J U 0,J U sp.line,J U sp.cell,J U J8] 162)).drew=w6 at *;generalize w5.heap.size=q at *;obtain⟨r0,r1,r2⟩:=yb F;have z:=zS F;have HF:=zD (fun a b c=>And.intro (a5.three F (by omega) (by unfold Xe;decide) a b c) (mu 2 bQ (show q≠w.heap.size+1 by omega) hQ a b c rfl (by omega)));clear a5 F bQ;go_wp2_with fail;refine zT (v:=L #[J U 0,J U (wrap64 (m.line+1)),I (Q ⟨q,0,Z⟩) 2 2]) ?_ rfl ⟨_,_,by rw[HP.u],by rw[HP.u];exact(HF.u _ _ _).1,by rw[HP.u,b7.u];exact(HF.u _ _ _).2⟩;simp[results,results145,go_sem,r0,r1,r2]
 ·replace HP:=zD (HP.u.trans (zA hv))
  have bv:(v2 != 0)=D:=by simpa using hv
  obtain⟨r0,r1,r2⟩:=yb i;have z:=zS i;have HF:=zD (fun a b c=>(Z8.start HH.u k).three i (by omega) (by unfold Xe;decide) a b c);clear h1 k a6 i k1 hv hm R a7;go_wp2_with fail;refine zT (v:=L #[J U v2,J U 0,I Z 0 0]) ?_ rfl ⟨_,_,by rw[HP.u];rfl,by rw[HP.u];exact HF.u _ _ _,by rw[HP.u];exact zW _ _ _ _⟩;simp[results,results145,go_sem,r0,r1,r2]
end
end Go.Proofs.YthleadfkfnnadaaGreat
