/- The document's answer: a place of its own, in memory. -/
import Derived.Test.YthleadfkfnnadaaGreatPrgM
import Derived.Test.YthleadfkfnnadaaGreatRefVc
set_option maxHeartbeats 4000000
set_option maxRecDepth 100000
set_option linter.unusedSimpArgs false
namespace Go.Proofs.YthleadfkfnnadaaGreat
open Rt Go.Proofs.Tryz
open Go.RowKit
variable {l:List Int} {tail:List Value} {M B P:Nat} {p:Rf.Pl} {m:Rt.Mc} {S:Rt.Src} {ty t:TypeId} {v fv vv cv ov:Value} {w w':World}
section
attribute [local go_sem ↓] Go.wp_at_zero Go.wp_at_succ
def xR (l:List Int):List Value:=l.map (Value.int .i64)
structure ZK where
 lv:Value
 iv:Value
 fv:Value
 vv:Value
 ov:Value
 xg:List Value
 YR:List Value
 cs:List (List Value)
def zz (v:Value) (l:List Int):Rw:=⟨3,1,v,l.length,xR l⟩
def fCells:List Value->List Rt.Fm->List Value
 | v::vs,f::fs=>v::.int .i64 f.call::fCells vs fs
 | _,_=>[]
theorem V3:∀(vs:List Value) (fs:List Rt.Fm),vs.length=fs.length->(fCells vs fs).length=fs.length*2
 | [],[],_=>rfl
 | [],_::_,h=>by simp at h
 | _::_,[],h=>by simp at h
 | v::vs,f::fs,h=>by
  have:=V3 vs fs (by simpa using h);simp only[fCells,yE,this];omega
theorem Kf:∀(vs:List Value) (fs:List Rt.Fm) (v:Value) (f:Rt.Fm),vs.length=fs.length->fCells (vs++[v]) (fs++[f])=fCells vs fs++[v,.int .i64 f.call]
 | [],[],_,_,_=>rfl
 | [],_::_,_,_,h=>by simp at h
 | _::_,[],_,_,h=>by simp at h
 | v::vs,f::fs,v',f',h=>by
  have:=Kf vs fs v' f' (by simpa using h);simp only[yF,fCells,this]
theorem Js:∀(vs:List Value) (fs:List Rt.Fm) (h:vs.length=fs.length) (i:Nat) (hi:i < fs.length),(fCells vs fs)[i*2]?=some (vs[i]'(by rw[h];exact hi))/\(fCells vs fs)[i*2+1]?=some (.int .i64 fs[i].call)
 | [],[],_,i,hi=>by simp at hi
 | [],_::_,h,_,_=>by simp at h
 | _::_,[],h,_,_=>by simp at h
 | v::vs,f::fs,h,0,hi=>by simp[fCells]
 | v::vs,f::fs,h,i+1,hi=>by
  have:=Js vs fs (by simpa using h) i (by simpa using hi);simp only[fCells,show (i+1)*2=i*2+2 by omega];simpa using this
def rowsOf (qo:List Int) (X:ZK) (m:Rt.Mc):List Rw:=
 [zz X.iv qo,⟨153,2,X.fv,m.zH.length,fCells X.xg m.zH⟩,⟨24,1,X.vv,m.values.length,X.YR⟩,zz X.ov m.output]++(List.zipWith zz X.xg (m.zH.map Rt.Fm.params)++List.zipWith zz X.YR m.values)
def FE (t:TypeId):Prop:=t≠3/\t≠153/\t≠24/\t≠145/\t≠188/\t≠9/\t≠236/\t≠140
structure jz (w:World) (M B:Nat) (ty:TypeId) (tail:List Value) (S:Rt.Src) (m:Rt.Mc) (X:ZK):Prop where
 block:w.heap[M]?=some (.cells ([X.lv,X.iv,X.fv,X.vv,.int .i64 m.taken,X.ov,.int .i64 m.line,.int .i64 m.fin]++tail).toArray ty (0,0))
 prog:vu w M B S.zL S.lk X.lv X.cs
 own:Own w (rowsOf S.input X m)
 fl:X.xg.length=m.zH.length
 vl:X.YR.length=m.values.length
 ty:FE ty
structure dL (S:Rt.Src) (m:Rt.Mc):Prop where
 zL:S.zL.length<=101
 input:S.input.length<=100
 zH:m.zH.length<=1000
 values:m.values.length<=101
 output:m.output.length<=1000
 params:∀f∈m.zH,f.params.length<=1000
 cells:∀l∈m.values,l.length<=1000
 ZX:∀p∈S.zL,Rt.Small p.form
theorem jz.zP {w w':World} {M B:Nat} {ty:TypeId} {tail:List Value} {S:Rt.Src} {m:Rt.Mc} {X:ZK} (h:jz w M B ty tail S m X) (d:Below w.heap.size w w'):jz w' M B ty tail S m X:=
 ⟨zU h.block d,h.prog.zP d,h.own.zP d,h.fl,h.vl,h.ty⟩
section
variable {w:World} {M B:Nat} {ty:TypeId} {tail:List Value} {S:Rt.Src} {m:Rt.Mc} {X:ZK} (h:jz w M B ty tail S m X)
include h
theorem jz.c1:w.cell? ⟨M,1,none⟩=some X.iv:=by have:=zC h.block 1 (by simp);simpa using this
theorem jz.c2:w.cell? ⟨M,2,none⟩=some X.fv:=by have:=zC h.block 2 (by simp);simpa using this
theorem jz.c3:w.cell? ⟨M,3,none⟩=some X.vv:=by have:=zC h.block 3 (by simp);simpa using this
theorem jz.c4:w.cell? ⟨M,4,none⟩=some (.int .i64 m.taken):=by have:=zC h.block 4 (by simp);simpa using this
theorem jz.c5:w.cell? ⟨M,5,none⟩=some X.ov:=by have:=zC h.block 5 (by simp);simpa using this
theorem jz.c6:w.cell? ⟨M,6,none⟩=some (.int .i64 m.line):=by have:=zC h.block 6 (by simp);simpa using this
theorem jz.c7:w.cell? ⟨M,7,none⟩=some (.int .i64 m.fin):=by have:=zC h.block 7 (by simp);simpa using this
theorem jz.fz (i:Nat):w.frozen? ⟨M,i,none⟩=false:=zS h.block i
theorem jz.input:w.ownsRow 0 3 1 X.iv S.input.length (xR S.input):=h.own.rows (zz X.iv S.input) (by simp[rowsOf])
theorem jz.zH:w.ownsRow 0 153 2 X.fv m.zH.length (fCells X.xg m.zH):=h.own.rows ⟨153,2,X.fv,m.zH.length,fCells X.xg m.zH⟩ (by simp[rowsOf])
theorem jz.VH:w.ownsRow 0 24 1 X.vv m.values.length X.YR:=h.own.rows ⟨24,1,X.vv,m.values.length,X.YR⟩ (by simp[rowsOf])
theorem jz.out:w.ownsRow 0 3 1 X.ov m.output.length (xR m.output):=h.own.rows (zz X.ov m.output) (by simp[rowsOf])
theorem jz.sR (i:Nat) (f:i < m.zH.length):w.ownsRow 0 3 1 (X.xg[i]'(by rw[h.fl];exact f)) m.zH[i].params.length (xR m.zH[i].params):=by
 have d:i < X.xg.length:=by rw[h.fl];exact f
 refine h.own.rows (zz X.xg[i] m.zH[i].params) ?_;unfold rowsOf;refine zb _ (zY _ ?_);have:(List.zipWith zz X.xg (m.zH.map Rt.Fm.params))[i]?=some (zz X.xg[i] m.zH[i].params):=by
  rw[je,zJ d,yt,zJ f];rfl
 exact qF this
theorem jz.Bo (i:Nat) (f:i < m.values.length):w.ownsRow 0 3 1 (X.YR[i]'(by rw[h.vl];exact f)) m.values[i].length (xR m.values[i]):=by
 have d:i < X.YR.length:=by rw[h.vl];exact f
 refine h.own.rows (zz X.YR[i] m.values[i]) ?_;unfold rowsOf;refine zb _ (zb _ ?_);have:(List.zipWith zz X.YR m.values)[i]?=some (zz X.YR[i] m.values[i]):=by
  rw[je,zJ d,zJ f]
 exact qF this
end
def Yd (X:ZK) (m:Rt.Mc) (l:Int):Value:=
 if 0 < l/\l < m.values.length then (X.YR[l.toNat]?).getD (.slice none 0 0)
 else if l=0/\0 < m.zH.length then (X.xg[m.zH.length-1]?).getD (.slice none 0 0)
 else .slice none 0 0
theorem jz.bV {X:ZK} (h:jz w M B ty tail S m X) (l:Int):w.ownsRow 0 3 1 (Yd X m l) (Rt.cellsOf m l).length (xR (Rt.cellsOf m l)):=by
 unfold Yd Rt.cellsOf;by_cases h1:0 < l/\l < m.values.length
 ·rw[zE h1,zE h1];have d:l.toNat < m.values.length:=by omega
  rw[zJ d,zJ (by rw[h.vl];exact d)];exact h.Bo _ d
 ·rw[zA h1,zA h1];by_cases h2:l=0/\0 < m.zH.length
  ·rw[zE h2,zE h2];have d:m.zH.length-1 < m.zH.length:=by omega
   rw[zJ (by rw[h.fl];exact d)];have e:m.zH.getLastD Rt.Qe=m.zH[m.zH.length-1]:=by
    rw[xk,List.getLast?_eq_getElem?,zJ d];rfl
   rw[e];exact h.sR _ d
  ·rw[zA h2,zA h2];exact zW _ _ _ _
theorem dG (h:dL S m) (l:Int):(Rt.cellsOf m l).length<=1000:=by
 unfold Rt.cellsOf;split
 ·cases e:m.values[l.toNat]? with
  | none=>simp
  | some x=>exact h.cells x (qF e)
 ·split
  ·next h2=>
   have d:m.zH≠[]:=by intro e;rw[e]at h2;simp at h2
   rw[xk,xd d];exact h.params _ (JV d)
  ·simp
theorem dH {X:ZK} (l:Int) (h:jz w M B ty tail S m X) (N:dL S m):Calls Tryz.prog 192 #[.pointer (some ⟨M,0,none⟩),.int .i64 l] w fun e w'=>e=.returned (Yd X m l)/\Below w.heap.size w w':=by
 have R:=h.c2;have c3:=h.c3;obtain⟨a7,L,o⟩:=zK h.zH;obtain⟨W,T,f⟩:=zK h.VH;rw[o]at R;rw[f]at c3;by_cases h1:0 < l/\l < m.values.length
 ·obtain⟨k,rfl⟩:=yr (show 0<=l by omega);have D:k < m.values.length:=by omega
  have a6:(k:Int) < (m.values.length:Int):=by omega
  have A:(0:Int) < (k:Int):=h1.1;have a5:(0:Int)<=(k:Int):=by omega
  obtain⟨g,J,i,_,_,O⟩:=yD h.VH (j:=k) (u:=X.YR[k]'(by rw[h.vl];exact D)) (zJ _);rw[f]at i;injection i with e1 _ e2;subst e1 e2;have y:=zD (show Yd X m (k:Int)=X.YR[k]'(by rw[h.vl];exact D) by
   unfold Yd;rw[zE h1];simp only[xS];rw[zJ (by rw[h.vl];exact D)];rfl)
  have d:=h.Bo k D;obtain⟨V,cap,F⟩:=zK d;rw[F]at O y;clear h N h1 d F f o;go_enter func192,ntmps192;go_wp2;go_ret;exact⟨by rw[y.u];rfl,zI _ _⟩
 ·by_cases h2:l=0/\0 < m.zH.length
  ·obtain⟨rfl,z⟩:=h2;have G:=N.zH;obtain⟨k,D⟩:∃k,m.zH.length=k+1:=⟨m.zH.length-1,by omega⟩;have x:k < m.zH.length:=by omega
   have H:k < X.xg.length:=by rw[h.fl];exact x
   have y:=zD (show Yd X m 0=X.xg[k] by
    unfold Yd;rw[zA (by omega),zE ⟨rfl,z⟩,show m.zH.length-1=k by omega,zJ H];rfl)
   have d:=h.sR k x;obtain⟨V,cap,F⟩:=zK d;have I:(fCells X.xg m.zH)[k*2]?=some X.xg[k]:=(Js X.xg m.zH h.fl k x).1;obtain⟨g,J,i,_,_,O⟩:=yD h.zH I;rw[o]at i;injection i with e1 _ e2;subst e1 e2;rw[F]at O y;rw[D]at R;clear h N h1 d F f o I z;have A:k+1<=1000:=by omega
   generalize m.zH[k].params.length=pn at *;have a4:(0:Int)<=(k:Int):=by omega
   have a3:(k:Int) < (k:Int)+1:=by omega
   have a2:(k:Int)<=1000:=by omega
   have a1:=bu k A;have a0:=bw k A;have Z:(0:Int) < (k:Int)+1:=by omega
   clear D x H G;go_enter func192,ntmps192;go_wp2_with fail;go_region_held3 (fun w'=>w'.cell? ⟨M,2,none⟩=some (.slice (some ⟨g,0,none⟩) (k+1) L)/\w'.cell? ⟨g,k*2,none⟩=some (.slice V pn cap)) (go_keep) (fail);go_wp2;go_ret;exact⟨by rw[y.u];rfl,(zI _ _).drew⟩
  ·have y:=zD (show Yd X m l=.slice none 0 0 by unfold Yd;rw[zA h1,zA h2]);clear h N f o;by_cases h3:0 < l
   ·have h4:¬l < (m.values.length:Int):=fun e=>h1 ⟨h3,e⟩;have h5:(l==0)=false:=by rw[zV];omega
    clear h1 h2;go_enter func192,ntmps192;go_wp2;go_ret;exact⟨by rw[y.u];rfl,zI _ _⟩
   ·by_cases h0:l=0
    ·subst h0;have U:m.zH.length=0:=by omega
     rw[U]at R;clear h1 h2 h3 U;go_enter func192,ntmps192;go_wp2;go_ret;exact⟨by rw[y.u];rfl,zI _ _⟩
    ·have h5:(l==0)=false:=by rw[zV];omega
     clear h1 h2 h0;go_enter func192,ntmps192;go_wp2;go_ret;exact⟨by rw[y.u];rfl,zI _ _⟩
theorem Eo (L:Option Addr) (j F:Nat) (k:Int) (f:ByteArray) (G:Int) (J:Option Addr) (i D:Nat) (I:Option Addr) (n2 A:Nat) (H:Option Addr) (h z:Nat) (d o x y p:Int) (w:World):(Instr.field 145 (.agg #[.slice L j F,.int .i64 k,.string f,.int .i64 G,.slice J i D,.slice I n2 A,.slice H h z,.int .i64 d,.int .i64 o,.int .i64 x,.int .i64 y,.int .i64 p]) 6).run Tryz.prog w=.ok (.int .i64 p) w:=by kernel_rfl
theorem CF {X:ZK} (h:jz w M B ty tail S m X):Calls Tryz.prog 162 #[.pointer (some ⟨M,0,none⟩)] w fun e w'=>e=.returned (.int .i64 (Rt.qJ S m))/\Below w.heap.size w w':=by
 have H:=h.c6;have A:=zD h.prog;have D:=zD (show Rt.qJ S m=(yM S.zL m.line).proc from rfl);clear h;go_enter func162,ntmps162;go_wp2_with fail;go_region_with ((go_at_call 90;refine(Kp m.line (A.u.zP (zh _))).mono ?_;rintro e w1 ⟨z,y,x,o,k,j,i,f,rfl,_,_,d⟩;have G:=Eo z (yM S.zL m.line).yY.length k (yM S.zL m.line).form.kind (yM S.zL m.line).form.name (yM S.zL m.line).form.cells y (yM S.zL m.line).form.params.length j x (yM S.zL m.line).form.index.length i o (yM S.zL m.line).form.values.length f (yM S.zL m.line).depth (yM S.zL m.line).opener (Rt.jR S.lk m.line).1 (Rt.jR S.lk m.line).2 (yM S.zL m.line).proc))
 all_goals
  have F:=zD (yh d);clear d;go_wp2;go_ret;exact⟨by rw[D.u];rfl,F.u⟩
theorem nT {X:ZK} (s:Rt.Q9) (h:jz w M B ty tail S m X) (A:dL S m):Calls Tryz.prog 165 #[.pointer (some ⟨M,0,none⟩),.agg #[.int .i64 s.line,.int .i64 s.cell]] w fun e w'=>e=.returned (.int .i64 (Rt.ZL m s))/\Below w.heap.size w w':=by
 have O:=dG A s.line;have i:=(zI w.heap.size w).alloc (zB _) (.cells #[.int .i64 s.line,.int .i64 s.cell] 160);have F:=h.zP i;clear h;go_enter func165,ntmps165;go_wp2_with fail;refine(dH s.line F A).mono ?_;rintro e w1 ⟨rfl,z⟩;have d:=yG (F.bV s.line) z;have H:=zD (i.trans (z.mono (B':=w.heap.size) (by simp)));have J:=zU (zN w (.cells #[.int .i64 s.line,.int .i64 s.cell] 160)) z;have U:=zC J 1 (by simp);simp at U;obtain⟨W,cap,I⟩:=zK d;rw[I]at d ⊢;clear z F A i J I;generalize N:Rt.cellsOf m s.line=l at *;generalize f:s.cell=c at *;have o:=zD (show Rt.ZL m s=if c < 0 then 0 else (l[c.toNat]?).getD 0 by unfold Rt.ZL;rw[N,f]);clear N f;by_cases h1:c < 0
 ·have y:=zD (show Rt.ZL m s=0 by rw[o.u,zE h1]);clear d o;go_wp2;go_ret;exact⟨by rw[y.u];rfl,H.u⟩
 ·obtain⟨k,rfl⟩:=yr (show 0<=c by omega);by_cases h2:k < l.length
  ·obtain⟨g,L,D,_,_,V⟩:=yD d (j:=k) (u:=.int .i64 l[k]) (by simp[xR,h2]);injection D with e1 _ e2;subst e1 e2;have y:=zD (show Rt.ZL m s=l[k] by rw[o.u,zA h1];simp[h2]);have G:¬(l.length:Int)<=(k:Int):=by omega
   have R:(k:Int) < (l.length:Int):=by omega
   have T:(0:Int)<=(k:Int):=by omega
   clear d o;generalize l[k]=x at *;go_wp2;go_ret;exact⟨by rw[y.u];rfl,H.u⟩
  ·have y:=zD (show Rt.ZL m s=0 by rw[o.u,zA h1];simp[xt (show l.length<=k by omega)]);have G:(l.length:Int)<=(k:Int):=by omega
   clear d o;go_wp2;go_ret;exact⟨by rw[y.u];rfl,H.u⟩
end
theorem JA {α β γ:Type} (f:α->β->γ):∀(a:List α) (b:List β) (i:Nat) (ha:i < a.length) (hb:i < b.length),∃P Q,List.zipWith f a b=P++f a[i] b[i]::Q/\∀g:β->β,List.zipWith f a (b.modify i g)=P++f a[i] (g b[i])::Q
 | [],_,_,ha,_=>by simp at ha
 | _::_,[],_,_,hb=>by simp at hb
 | x::a,y::b,0,_,_=>⟨[],List.zipWith f a b,rfl,fun g=>by simp⟩
 | x::a,y::b,i+1,ha,hb=>by
  obtain⟨P,Q,h,d⟩:=JA f a b i (by simpa using ha) (by simpa using hb);refine⟨f x y::P,Q,?_,fun g=>?_⟩
  ·simp only[jT,h,yH,yF]
  ·simp only[Yl,jT,d g,yH,yF]
theorem gY:∀(vs:List Value) (fs:List Rt.Fm) (i:Nat) (g:List Int->List Int),fCells vs (fs.modify i (fun f=>⟨g f.params,f.call⟩))=fCells vs fs
 | [],_,_,_=>by cases ‹List Rt.Fm› <;> rfl
 | _::_,[],i,_=>by cases i <;> rfl
 | v::vs,f::fs,0,g=>by simp[fCells]
 | v::vs,f::fs,i+1,g=>by simp only[Yl,fCells,gY vs fs i g]
theorem Eb (fs:List Rt.Fm) (i:Nat) (g:List Int->List Int):(fs.modify i (fun f=>⟨g f.params,f.call⟩)).map Rt.Fm.params=(fs.map Rt.Fm.params).modify i g:=by
 induction fs generalizing i with
 | nil=>cases i <;> rfl
 | cons f fs ih=>cases i with
  | zero=>rfl
  | succ i=>simp[ih]
theorem Az {c:Nat} {v:Int}:xR (l.set c v)=(xR l).set c (.int .i64 v):=by simp[xR,bk]
def Xe (t:TypeId):Prop:=t=145\/t=188\/t=9\/t=236\/t=140
theorem jz.next {tail':List Value} {m':Rt.Mc} {X X':ZK} (h:jz w M B ty tail S m X) (H:w'.heap[M]?=some (.cells ([X'.lv,X'.iv,X'.fv,X'.vv,.int .i64 m'.taken,X'.ov,.int .i64 m'.line,.int .i64 m'.fin]++tail').toArray ty (0,0))) (Z:w.heap.size<=w'.heap.size) (G:∀(k:Nat) (x:Obj),w.heap[k]?=some x->k≠M->(∃c t,x=Obj.cells c t (0,0)/\Xe t)->w'.heap[k]?=some x) (ho:Own w' (rowsOf S.input X' m')) (F:X'.lv=X.lv) (d:X'.cs=X.cs) (fl:X'.xg.length=m'.zH.length) (N:X'.YR.length=m'.values.length):jz w' M B ty tail' S m' X':=by
 have j:∀(B:Nat) (t:TypeId) (size n:Nat) (v:Value) (xs:List Value),t≠ty->Xe t->w.ownsRow B t size v n xs->w'.ownsRow B t size v n xs:=by
  intro B t size n v xs W V D;refine yP D (fun g hg=>?_);obtain⟨c,d⟩:=yW D hg;rw[d];refine G g _ d ?_ ⟨_,_,rfl,V⟩;intro e;rw[e,h.block]at d;injection d with d;injection d with _ d;exact W d.symm
 obtain⟨_,_,_,A,T,R,z,O⟩:=h.ty;have hK:∀{v:Array Value} {fm:Rt.qS},qk w B v fm->qk w' B v fm:=by
  intro v fm hf;obtain⟨U,iv,vv,L,rfl,h1,y,h3,h4⟩:=hf;exact⟨U,iv,vv,L,rfl,j _ _ _ _ _ _ (xK R) (Or.inr (Or.inr (Or.inl rfl))) h1,j _ _ _ _ _ _ (xK z) (Or.inr (Or.inr (Or.inr (Or.inl rfl)))) y,j _ _ _ _ _ _ (xK O) (Or.inr (Or.inr (Or.inr (Or.inr rfl)))) h3,qi.map (fun x o hh=>j _ _ _ _ _ _ (xK z) (Or.inr (Or.inr (Or.inr (Or.inl rfl)))) hh) _ _ h4⟩
 have f:∀ps cs,ja w B ps cs->ja w' B ps cs:=by
  intro ps
  induction ps with
  | nil=>intro cs h;cases cs with
   | nil=>trivial
   | cons _ _=>exact h.elim
  | cons p ps ih=>intro cs h;cases cs with
   | nil=>exact h.elim
   | cons c cs=>
    obtain⟨⟨tv,fv,J,I,e,g1,g2⟩,y⟩:=h;exact⟨⟨tv,fv,J,I,e,j _ _ _ _ _ _ (xK T) (Or.inr (Or.inl rfl)) g1,hK g2⟩,ih cs y⟩
 have i:w'.cell? ⟨M,0,none⟩=some X'.lv:=by have:=zC H 0 (by simp);simpa using this
 refine⟨H,⟨zX h.prog.lt Z,i,?_,?_,?_,h.prog.len⟩,ho,fl,N,h.ty⟩
 ·rw[F,d];exact j _ _ _ _ _ _ (xK A) (Or.inl rfl) h.prog.own
 ·rw[d];exact f _ _ h.prog.lines
 ·rw[F];refine h.prog.gE.same (fun g hg=>?_);obtain⟨c,d⟩:=yW h.prog.own hg;rw[d];refine G g _ d ?_ ⟨_,_,rfl,Or.inl rfl⟩;intro e;rw[e,h.block]at d;injection d with d;injection d with _ d;exact A d
theorem lG {A C:List Rw} (h:Own w (A++zz v l::C)) {g:Nat} (hg:v.ownBlock=some g) (c:Nat) (x:Int):Own (w.setCell ⟨g,c,none⟩ (.int .i64 x)) (A++zz v (l.set c x)::C)/\VM w (w.setCell ⟨g,c,none⟩ (.int .i64 x)) (xh (A++zz v l::C)):=by
 have hrow:w.ownsRow 0 3 1 v l.length (xR l):=h.rows (zz v l) (by simp);obtain⟨o,cap,rfl⟩:=zK hrow;have j:o=some ⟨g,0,none⟩:=by
  rcases hrow.2 with⟨f,_⟩| ⟨g',cap',cur,f,_⟩
  ·rw[f]at hg;cases hg
  ·rw[f]at hg;simp[Value.ownBlock]at hg;injection f with f _ _;rw[f,hg]
 subst j;have d:∀k,k≠g->(w.setCell ⟨g,c,none⟩ (.int .i64 x)).heap[k]?=w.heap[k]?:=fun k hk=>zO w ⟨g,c,none⟩ _ k hk;have i:=(hrow.stored c (.int .i64 x)).1;rw[<-Az]at i;refine⟨(h.swap (r':=zz (.slice (some ⟨g,0,none⟩) l.length cap) (l.set c x)) (fun k _ hk=>d k (fun e=>hk (by rw[e];rfl))) ?_ (fun g' hg'=>Or.inl hg')).1,⟨rfl,rfl,rfl,by simp[World.setCell],fun k hk hn=>d k (fun e=>hn ?_)⟩⟩
 ·show World.ownsRow _ 0 3 1 _ (l.set c x).length _;rw[jD];exact i
 ·rw[e];exact qU (r:=zz (.slice (some ⟨g,0,none⟩) l.length cap) l) (by simp) rfl
theorem JF {qo:List Int} {X:ZK} {r:Rw} (h:r∈rowsOf qo X m):r.t=3\/r.t=153\/r.t=24:=by
 unfold rowsOf at h;have d:∀(a:List Value) (b:List (List Int)),r∈List.zipWith zz a b->r.t=3:=by
  intro a
  induction a with
  | nil=>intro b hb;simp at hb
  | cons x a ih=>intro b hb;cases b with
   | nil=>simp at hb
   | cons y b=>
    rw[jT]at hb;rcases zw.mp hb with rfl | hb
    ·rfl
    ·exact ih b hb
 rcases zd.mp h with h | h
 ·simp only[zw,qb,Z2]at h;rcases h with rfl | rfl | rfl | rfl
  ·exact Or.inl rfl
  ·exact Or.inr (Or.inl rfl)
  ·exact Or.inr (Or.inr rfl)
  ·exact Or.inl rfl
 ·rcases zd.mp h with h | h
  ·exact Or.inl (d _ _ h)
  ·exact Or.inl (d _ _ h)
theorem jz.stored {X:ZK} (h:jz w M B ty tail S m X) (s:Rt.Q9) (V:Rt.Q6 m s=true) (x:Int):∃g cap,Yd X m s.line=.slice (some ⟨g,0,none⟩) (Rt.cellsOf m s.line).length cap/\g < w.heap.size/\jz (w.setCell ⟨g,s.cell.toNat,none⟩ (.int .i64 x)) M B ty tail S (Rt.jN m s x) X/\VM w (w.setCell ⟨g,s.cell.toNat,none⟩ (.int .i64 x)) (xh (rowsOf S.input X m)):=by
 have a0:0<=s.cell/\s.cell < (Rt.cellsOf m s.line).length:=qf V;have I:=h.bV s.line;have i:0 < (Rt.cellsOf m s.line).length:=by omega
 obtain⟨g,cap,D,_,F,_⟩:=yD I (j:=0) (u:=.int .i64 ((Rt.cellsOf m s.line)[0])) (by simp[xR,zJ i]);have G:(Yd X m s.line).ownBlock=some g:=by rw[D];rfl
 have H:∃c,w.heap[g]?=some (.cells c 3 (0,0)):=yW I G;have Z:M≠g:=by
  intro e;obtain⟨c,o⟩:=H;rw[<-e,h.block]at o;injection o with o;injection o with _ o;exact h.ty.1 o
 have hk:∀(k:Nat) (y:Obj),w.heap[k]?=some y->k≠M->(∃c t,y=Obj.cells c t (0,0)/\Xe t)->(w.setCell ⟨g,s.cell.toNat,none⟩ (.int .i64 x)).heap[k]?=some y:=by
  intro k y z _ W;rw[zO w ⟨g,s.cell.toNat,none⟩ _ k (fun e=>by
   obtain⟨c,o⟩:=H;have e':k=g:=e;rw[e',o]at z;injection z with z;obtain⟨c',t',O,ht⟩:=W;rw[<-z]at O;injection O with _ O;rw[<-O]at ht;exact absurd ht (by unfold Xe;decide))]
  exact z
 have hMM:(w.setCell ⟨g,s.cell.toNat,none⟩ (.int .i64 x)).heap[M]?=w.heap[M]?:=zO w ⟨g,s.cell.toNat,none⟩ _ M Z;have hsz:w.heap.size<=(w.setCell ⟨g,s.cell.toNat,none⟩ (.int .i64 x)).heap.size:=by simp[World.setCell]
 have U:∃A C l v,rowsOf S.input X m=A++zz v l::C/\v=Yd X m s.line/\rowsOf S.input X (Rt.jN m s x)=A++zz v (l.set s.cell.toNat x)::C/\(Rt.jN m s x).taken=m.taken/\(Rt.jN m s x).line=m.line/\(Rt.jN m s x).fin=m.fin/\(Rt.jN m s x).zH.length=m.zH.length/\(Rt.jN m s x).values.length=m.values.length:=by
  by_cases h1:0 < s.line/\s.line < m.values.length
  ·have N:s.line.toNat < m.values.length:=by omega
   have d:s.line.toNat < X.YR.length:=by rw[h.vl];exact N
   obtain⟨P,Q,T,R⟩:=JA zz X.YR m.values s.line.toNat d N;have J:Rt.jN m s x={ m with values:=m.values.modify s.line.toNat (fun c=>c.set s.cell.toNat x) }:=by
    unfold Rt.jN;rw[zE V,zE h1.1]
   refine⟨[zz X.iv S.input,⟨153,2,X.fv,m.zH.length,fCells X.xg m.zH⟩,⟨24,1,X.vv,m.values.length,X.YR⟩,zz X.ov m.output]++(List.zipWith zz X.xg (m.zH.map Rt.Fm.params)++P),Q,m.values[s.line.toNat],X.YR[s.line.toNat],?_,?_,?_,?_⟩
   ·unfold rowsOf;rw[T];simp
   ·unfold Yd;rw[zE h1,zJ d];rfl
   ·rw[J];unfold rowsOf;simp only[YK];rw[R (fun c=>c.set s.cell.toNat x)];simp
   ·rw[J];exact⟨rfl,rfl,rfl,rfl,by simp⟩
  ·have h2:s.line=0/\0 < m.zH.length:=by
    have L:=i;unfold Rt.cellsOf at L;rw[zA h1]at L;by_cases h2:s.line=0/\0 < m.zH.length
    ·exact h2
    ·rw[zA h2]at L;simp at L
   have N:m.zH.length-1 < (m.zH.map Rt.Fm.params).length:=by simp;omega
   have d:m.zH.length-1 < X.xg.length:=by rw[h.fl];omega
   obtain⟨P,Q,T,R⟩:=JA zz X.xg (m.zH.map Rt.Fm.params) (m.zH.length-1) d N;have J:Rt.jN m s x={ m with zH:=m.zH.modify (m.zH.length-1) (fun f=>⟨f.params.set s.cell.toNat x,f.call⟩) }:=by
    unfold Rt.jN;rw[zE V,zA (by omega)]
   refine⟨[zz X.iv S.input,⟨153,2,X.fv,m.zH.length,fCells X.xg m.zH⟩,⟨24,1,X.vv,m.values.length,X.YR⟩,zz X.ov m.output]++P,Q++List.zipWith zz X.YR m.values,(m.zH.map Rt.Fm.params)[m.zH.length-1],X.xg[m.zH.length-1],?_,?_,?_,?_⟩
   ·unfold rowsOf;rw[T];simp
   ·unfold Yd;rw[zA h1,zE h2,zJ d];rfl
   ·rw[J];unfold rowsOf;simp only[YK];rw[Eb m.zH (m.zH.length-1) (fun p=>p.set s.cell.toNat x),gY X.xg m.zH (m.zH.length-1) (fun p=>p.set s.cell.toNat x),R (fun p=>p.set s.cell.toNat x)];simp
   ·rw[J];exact⟨rfl,rfl,rfl,by simp,rfl⟩
 obtain⟨A,C,l,v,k1,k2,k3,k4,k5,k6,k7,k8⟩:=U;have ho:=h.own;rw[k1]at ho;obtain⟨o1,o2⟩:=lG ho (g:=g) (by rw[k2];exact G) s.cell.toNat x;refine⟨g,cap,D,F,h.next (by rw[hMM,h.block,k4,k5,k6]) hsz hk (by rw[k3];exact o1) rfl rfl (by rw[k7];exact h.fl) (by rw[k8];exact h.vl),?_⟩;rw[k1];exact o2
theorem jz.aside {X:ZK} (h:jz w M B ty tail S m X) {N:Nat} {cs:Array Value} (o:w.heap[N]?=some (.cells cs t (0,0))) (y:N≠M) (f:¬Xe t/\t≠3/\t≠153/\t≠24) (i:Nat) (v:Value):jz (w.setCell ⟨N,i,none⟩ v) M B ty tail S m X:=by
 have hother:∀k,k≠N->(w.setCell ⟨N,i,none⟩ v).heap[k]?=w.heap[k]?:=fun k hk=>zO w ⟨N,i,none⟩ _ k hk;have hrow:∀r∈rowsOf S.input X m,∀g,r.v.ownBlock=some g->g≠N:=by
  intro r hr g hg e;obtain⟨c,d⟩:=yW (h.own.rows r hr) hg;rw[e,o]at d;injection d with d;injection d with _ d;have:=JF hr;rw[<-d]at this;rcases this with e | e | e
  ·exact f.2.1 e
  ·exact f.2.2.1 e
  ·exact f.2.2.2 e
 refine h.next ?_ (by simp[World.setCell]) (fun k x hk _ hp=>?_) ⟨fun r hr=>yP (h.own.rows r hr) (fun g hg=>hother g (hrow r hr g hg)),h.own.apart⟩ rfl rfl h.fl h.vl
 ·rw[hother M (xK y)];exact h.block
 ·rw[hother k (fun e=>by
   rw[e,o]at hk;injection hk with hk;obtain⟨A,z,j,hp⟩:=hp;rw[<-hk]at j;injection j with _ j;rw[<-j]at hp;exact f.1 hp)]
  exact hk
theorem YX {xs:List Int} (h:w.ownsRow B 3 1 v xs.length (xR xs)):kA w v xs:=by
 obtain⟨o,cap,rfl⟩:=zK h;by_cases e:xs=[]
 ·exact⟨o,cap,rfl,Or.inl e⟩
 ·have i:0 < xs.length:=kO.mpr e;obtain⟨g,c,f,_,_,_⟩:=yD h (j:=0) (u:=.int .i64 xs[0]) (by simp[xR,i]);injection f with h1 h2 h3;subst h1 h3;refine⟨some ⟨g,0,none⟩,cap,rfl,Or.inr ⟨g,0,rfl,fun j hj=>?_⟩⟩;obtain⟨g',x,d,_,_,k⟩:=yD h (j:=j) (u:=.int .i64 xs[j]) (by simp[xR,hj]);injection d with h1 _ _;injection h1 with h1;injection h1 with h1;subst h1;rw[xW];exact k
structure Bf (w:World) (fv vv cv ov:Value) (p:Rf.Pl):Prop where
 zH:∃b o cap,fv=.slice (some ⟨b,o,none⟩) p.zH.length cap/\∀i (h:i < p.zH.length),∃av,w.cell? ⟨b,o+i*3,none⟩=some (.int .i64 p.zH[i].proc)/\w.cell? ⟨b,o+i*3+1,none⟩=some av/\w.cell? ⟨b,o+i*3+2,none⟩=some (.int .i64 p.zH[i].call)/\kA w av p.zH[i].args
 vars:kA w vv p.vars
 cells:∃b o cap,cv=.slice (some ⟨b,o,none⟩) p.cells.length cap/\∀i (h:i < p.cells.length),∃x,w.cell? ⟨b,o+i,none⟩=some x/\kA w x p.cells[i]
 out:kA w ov p.out
theorem Bf.zP {w w':World} {fv vv cv ov:Value} {p:Rf.Pl} (h:Bf w fv vv cv ov p) (d:Below w.heap.size w w'):Bf w' fv vv cv ov p:=by
 obtain⟨⟨b,o,cap,D,A⟩,v,⟨H,z,f,G,F⟩,x⟩:=h;refine⟨⟨b,o,cap,D,fun i hi=>?_⟩,v.zP d,⟨H,z,f,G,fun i hi=>?_⟩,x.zP d⟩
 ·obtain⟨I,k,j,L,J⟩:=A i hi;exact⟨I,cell_later d k,cell_later d j,cell_later d L,J.zP d⟩
 ·obtain⟨y,k,j⟩:=F i hi;exact⟨y,cell_later d k,j.zP d⟩
def jh (fv vv cv ov:Value) (p:Rf.Pl):Array Value:=#[fv,vv,cv,.int .i64 p.read,ov,.int .i64 p.line,.int .i64 p.fin]
theorem Bf.at (h:Bf w fv vv cv ov p) (j:w.heap[P]?=some (.cells (jh fv vv cv ov p) t (0,0))):Dv w P p:=by
 have c:∀i (hi:i < 7),w.cell? ⟨P,i,none⟩=some ((jh fv vv cv ov p)[i]'(by simpa[jh] using hi)):=fun i hi=>zC j i (by simpa[jh] using hi);obtain⟨⟨b,o,cap,y,k⟩,v,⟨D,f,d,A,z⟩,x⟩:=h;exact⟨⟨b,o,cap,by rw[<-y];exact c 0 (by omega),k⟩,⟨vv,c 1 (by omega),v⟩,⟨D,f,d,by rw[<-A];exact c 2 (by omega),z⟩,c 3 (by omega),⟨ov,c 4 (by omega),x⟩,c 5 (by omega),c 6 (by omega)⟩
structure Qg where
 fv:Value
 vv:Value
 cv:Value
 ov:Value
 xg:List Value
 kB:List Value
def frCells:List Value->List Rf.Fr->List Value
 | v::vs,f::fs=>.int .i64 f.proc::v::.int .i64 f.call::frCells vs fs
 | _,_=>[]
theorem Ke:∀(vs:List Value) (fs:List Rf.Fr),vs.length=fs.length->(frCells vs fs).length=fs.length*3
 | [],[],_=>rfl
 | [],_::_,h=>by simp at h
 | _::_,[],h=>by simp at h
 | v::vs,f::fs,h=>by
  have:=Ke vs fs (by simpa using h);simp only[frCells,yE,this];omega
theorem Jr:∀(vs:List Value) (fs:List Rf.Fr) (v:Value) (f:Rf.Fr),vs.length=fs.length->frCells (vs++[v]) (fs++[f])=frCells vs fs++[.int .i64 f.proc,v,.int .i64 f.call]
 | [],[],_,_,_=>rfl
 | [],_::_,_,_,h=>by simp at h
 | _::_,[],_,_,h=>by simp at h
 | v::vs,f::fs,v',f',h=>by
  have:=Jr vs fs v' f' (by simpa using h);simp only[yF,frCells,this]
theorem YN:∀(vs:List Value) (fs:List Rf.Fr) (h:vs.length=fs.length) (i:Nat) (hi:i < fs.length),(frCells vs fs)[i*3]?=some (.int .i64 fs[i].proc)/\(frCells vs fs)[i*3+1]?=some (vs[i]'(by rw[h];exact hi))/\(frCells vs fs)[i*3+2]?=some (.int .i64 fs[i].call)
 | [],[],_,i,hi=>by simp at hi
 | [],_::_,h,_,_=>by simp at h
 | _::_,[],h,_,_=>by simp at h
 | v::vs,f::fs,h,0,hi=>by simp[frCells]
 | v::vs,f::fs,h,i+1,hi=>by
  have:=YN vs fs (by simpa using h) i (by simpa using hi);simp only[frCells,show (i+1)*3=i*3+3 by omega];simpa using this
theorem dq:∀(vs:List Value) (fs:List Rf.Fr) (i:Nat) (g:List Int->List Int),frCells vs (fs.modify i (fun f=>⟨f.proc,g f.args,f.call⟩))=frCells vs fs
 | [],_,_,_=>by cases ‹List Rf.Fr› <;> rfl
 | _::_,[],i,_=>by cases i <;> rfl
 | v::vs,f::fs,0,g=>by simp[frCells]
 | v::vs,f::fs,i+1,g=>by simp only[Yl,frCells,dq vs fs i g]
theorem Cd (fs:List Rf.Fr) (i:Nat) (g:List Int->List Int):(fs.modify i (fun f=>⟨f.proc,g f.args,f.call⟩)).map Rf.Fr.args=(fs.map Rf.Fr.args).modify i g:=by
 induction fs generalizing i with
 | nil=>cases i <;> rfl
 | cons f fs ih=>cases i with
  | zero=>rfl
  | succ i=>simp[ih]
def jy (v:Value) (vs:List Value) (fs:List Rf.Fr):Rw:=⟨130,3,v,fs.length,frCells vs fs⟩
def YF (v:Value) (vs:List Value) (n:Nat):Rw:=⟨24,1,v,n,vs⟩
def yO (X:Qg) (p:Rf.Pl):List Rw:=
 [jy X.fv X.xg p.zH,zz X.vv p.vars,YF X.cv X.kB p.cells.length,zz X.ov p.out]++(List.zipWith zz X.xg (p.zH.map Rf.Fr.args)++List.zipWith zz X.kB p.cells)
structure vC (w:World) (B P:Nat) (p:Rf.Pl) (X:Qg):Prop where
 block:w.heap[P]?=some (.cells (jh X.fv X.vv X.cv X.ov p) 72 (0,0))
 own:Own w (yO X p)
 fl:X.xg.length=p.zH.length
 cl:X.kB.length=p.cells.length
 new:∀k∈xh (yO X p),B<=k
 here:B<=P
theorem vC.zP {w w':World} {B P:Nat} {p:Rf.Pl} {X:Qg} (h:vC w B P p X) (d:Below w.heap.size w w'):vC w' B P p X:=
 ⟨zU h.block d,h.own.zP d,h.fl,h.cl,h.new,h.here⟩
section
variable {w:World} {B P:Nat} {p:Rf.Pl} {X:Qg} (h:vC w B P p X)
include h
theorem vC.Jq:w.ownsRow 0 130 3 X.fv p.zH.length (frCells X.xg p.zH):=h.own.rows (jy X.fv X.xg p.zH) (by simp[yO])
theorem vC.wJ:w.ownsRow 0 3 1 X.vv p.vars.length (xR p.vars):=h.own.rows (zz X.vv p.vars) (by simp[yO])
theorem vC.eB:w.ownsRow 0 24 1 X.cv p.cells.length X.kB:=h.own.rows (YF X.cv X.kB p.cells.length) (by simp[yO])
theorem vC.CQ:w.ownsRow 0 3 1 X.ov p.out.length (xR p.out):=h.own.rows (zz X.ov p.out) (by simp[yO])
theorem vC.Gr (i:Nat) (f:i < p.zH.length):w.ownsRow 0 3 1 (X.xg[i]'(by rw[h.fl];exact f)) p.zH[i].args.length (xR p.zH[i].args):=by
 have d:i < X.xg.length:=by rw[h.fl];exact f
 refine h.own.rows (zz X.xg[i] p.zH[i].args) ?_;unfold yO;refine zb _ (zY _ ?_);have:(List.zipWith zz X.xg (p.zH.map Rf.Fr.args))[i]?=some (zz X.xg[i] p.zH[i].args):=by
  rw[je,zJ d,yt,zJ f];rfl
 exact qF this
theorem vC.Gl (i:Nat) (f:i < p.cells.length):w.ownsRow 0 3 1 (X.kB[i]'(by rw[h.cl];exact f)) p.cells[i].length (xR p.cells[i]):=by
 have d:i < X.kB.length:=by rw[h.cl];exact f
 refine h.own.rows (zz X.kB[i] p.cells[i]) ?_;unfold yO;refine zb _ (zb _ ?_);have:(List.zipWith zz X.kB p.cells)[i]?=some (zz X.kB[i] p.cells[i]):=by
  rw[je,zJ d,zJ f]
 exact qF this
theorem vC.val (I:0 < p.zH.length) (J:0 < p.cells.length):Bf w X.fv X.vv X.cv X.ov p:=by
 obtain⟨g,cap,z,_,_,_⟩:=yD h.Jq (YN X.xg p.zH h.fl 0 I).1;obtain⟨L,x,o,_,_,_⟩:=yD h.eB (j:=0) (zJ (by rw[h.cl];exact J));refine⟨⟨g,0,cap,z,fun i hi=>?_⟩,YX h.wJ,⟨L,0,x,o,fun i hi=>?_⟩,YX h.CQ⟩
 ·obtain⟨H,G,F⟩:=YN X.xg p.zH h.fl i hi;obtain⟨M,N,d,_,_,y⟩:=yD h.Jq H;obtain⟨R,U,k,_,_,D⟩:=yD h.Jq G;obtain⟨O,T,f,_,_,A⟩:=yD h.Jq F;rw[z]at d k f;injection d with d _ _;injection d with d;injection d with d;injection k with k _ _;injection k with k;injection k with k;injection f with f _ _;injection f with f;injection f with f;subst d k f;rw[xW];exact⟨_,y,D,A,YX (h.Gr i hi)⟩
 ·obtain⟨M,N,d,_,_,y⟩:=yD h.eB (j:=i) (zJ (by rw[h.cl];exact hi));rw[o]at d;injection d with d _ _;injection d with d;injection d with d;subst d;rw[xW];exact⟨_,y,YX (h.Gl i hi)⟩
theorem vC.read (d:0 < p.zH.length) (f:0 < p.cells.length):Dv w P p:=(h.val d f).at h.block
end
end Go.Proofs.YthleadfkfnnadaaGreat
