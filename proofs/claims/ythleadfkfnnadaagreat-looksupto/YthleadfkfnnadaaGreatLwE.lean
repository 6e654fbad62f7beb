/- The law: scripts of runs. -/
import Derived.Test.YthleadfkfnnadaaGreatMcE
set_option maxHeartbeats 4000000
set_option maxRecDepth 100000
set_option linter.unusedSimpArgs false
namespace Go.Proofs.YthleadfkfnnadaaGreat
open Rt Go.Proofs.Tryz
open Go.RowKit
variable {cs:Array Value} {zL:List Rt.PL} {tail:List Value} {X X':ZK} {M B BB c1 c2 c3 P N R:Nat} {a1 a2 a3:Option Addr} {lk:Qw} {m:Rt.Mc} {fm:Rt.qS} {S:Rt.Src} {ty t:TypeId} {lv a b c v:Value} {w w' w1 w2:World}
section
attribute [local go_sem ↓] Go.wp_at_zero Go.wp_at_succ
theorem Bj {w0:World} {K:Nat} {st:List Int} {sv:Value} (o:qM) (y:jz w0 M B ty tail S m X) (j:dL S m) (k:Below w0.heap.size w0 w) (x:w0.heap.size<=K) (i:Qf w K st sv) (h:st.length<=1000):Calls Tryz.prog 207 #[.pointer (some ⟨M,0,none⟩),.pointer (some ⟨K,0,none⟩),.agg #[.int .i64 o.code,.int .i64 o.number,.string o.name]] w (mT K (Rt.workI S m st o) w):=by
 obtain⟨code,d,f⟩:=o;by_cases h1:code=1
 ·subst h1;exact re w0 w M B ty tail S m X K st sv d f y j k x i h
 by_cases h2:code=2
 ·subst h2;exact wH w0 w M B ty tail S m X K st sv d f y j k x i h
 by_cases h3:code=3
 ·subst h3;exact work_cell w0 w M B ty tail S m X K st sv d f y j k x i h _ rfl
 by_cases h4:code=4
 ·subst h4;exact Bi w0 w M B ty tail S m X K st sv d f y j k x i h
 refine Bh w0 w M B ty tail S m X K st sv code d f y j k x i h h1 h2 h3 h4 _ ?_;unfold Rt.workI;simp only;rw[zA h1,zA h2,zA h3,zA h4]
theorem wI (S:Rt.Src) (m:Rt.Mc) (d:List Int) (o:qM):(Rt.workI S m d o).1.length<=d.length+1:=by
 unfold Rt.workI;split
 ·simp
 ·split
  ·simp
  ·split
   ·split <;> simp <;> omega
   ·split
    ·simp <;> omega
    ·simp only;split <;> simp <;> omega
theorem Ju {ad:Option Addr} {cap:Nat} {ops:List qM} (h:jz w M B ty tail S m X) (hm:dL S m) (R:w.ownsRow BB 236 3 (.slice ad ops.length cap) ops.length (xX ops)) (T:ops.length<=900):Calls Tryz.prog 182 #[.pointer (some ⟨M,0,none⟩),.agg #[.slice ad ops.length cap]] w fun e w'=>e=.returned (.tuple #[.int .i64 (Rt.zr S m ops).1,.int .i64 (Rt.zr S m ops).2])/\Below w.heap.size w w':=by
 have hb0:=((zI w.heap.size w).alloc (zB _) (.cells #[.slice ad ops.length cap] 140)).alloc (by simp) (.cells #[.slice none 0 0] 232);have bE:=yR (zN w (.cells #[.slice ad ops.length cap] 140)) (.cells #[.slice none 0 0] 232);have W:=qD w (.cells #[.slice ad ops.length cap] 140) (.cells #[.slice none 0 0] 232);have hs0:Qf ((w.alloc (.cells #[.slice ad ops.length cap] 140)).alloc (.cells #[.slice none 0 0] 232)) (w.heap.size+1) [] (.slice none 0 0):=⟨W,zW _ _ _ _⟩;have HH:=qG h R;clear h R;go_enter func182,ntmps182;go_wp2_with fail;go_loopw [7,8] (fun i _ wr=>∃(k:Nat) (st:List Int) (sv:Value),k<=ops.length/\i=.int .i64 k/\st.length<=k/\Rt.evalI S m (ops.drop k) st=Rt.zr S m ops/\Qf wr (w.heap.size+1) st sv/\wr.heap[w.heap.size]?=some (.cells #[.slice ad ops.length cap] 140 (0,0))/\Below w.heap.size w wr)
  (fun i _ _=>ops.length-(intOf i).toNat)
 case atStart=>exact⟨0,[],_,zo _,rfl,by simp,rfl,hs0,bE,hb0⟩
 case round=>
  clear hs0 bE hb0 W;obtain⟨k,st,sv,hk,rfl,a1,U,f,x,d⟩:=hrel;have cE:=zC x 0 (by simp);simp at cE;have V:=zQ x;have L:=zD U;clear U;by_cases hlt:k < ops.length
  ·obtain⟨g,hg,o0,o1,o2⟩:=lO (yG HH.u.2 d) hlt;subst hg;have G:(k:Int) < (ops.length:Int):=by omega
   have a2:(0:Int)<=(k:Int):=by omega
   have D:=zD (show Rt.zr S m ops=if (Rt.workI S m st ops[k]).2=0 then Rt.evalI S m (ops.drop (k+1)) (Rt.workI S m st ops[k]).1 else (0,(Rt.workI S m st ops[k]).2) by rw[<-L.u,zZ hlt,Rt.evalI]);have O:=wI S m st ops[k];have HW:=zD (Bj ops[k] HH.u.1 hm d (by omega) f (by omega));have Z:=XX f x d;clear f x d L;generalize Rt.workI S m st ops[k]=y at *;generalize ops[k]=o at *;go_wp2_with fail;refine HW.u.mono ?_;rintro e w2 ⟨rfl,⟨a0,F⟩,z⟩;obtain⟨f,x,d⟩:=Z.u;have I:w2.heap[w.heap.size]?=some (.cells #[.slice (some ⟨g,0,none⟩) ops.length cap] 140 (0,0)):=by rw[z.block w.heap.size (by omega)];exact x
   have j:=d.trans (z.mono (B':=w.heap.size) (by omega));have J:=XX F I j;clear F z f x d I j HW Z;obtain⟨N,tr⟩:=y;simp only at D O J ⊢;by_cases htr:tr=0
   ·subst htr;have A:=zD (D.u.trans (zE rfl));clear D;go_wp2_with fail;go_roundw
    case rel=>
     obtain⟨q1,q2,q3⟩:=J.u;exact⟨k+1,N,_,by omega,by go_num,by omega,A.u.symm,q1,q2,q3⟩
    case measure=>simp[intOf];omega
   ·have A:=zD (D.u.trans (zA htr));have a3:(tr != 0)=true:=by simpa using htr
    clear D htr;go_wp2_with fail;go_ret2;exact⟨by rw[A.u];rfl,J.u.2.2⟩
  ·have G:¬(k:Int) < (ops.length:Int):=by omega
   have D:=zD (show Rt.zr S m ops=(st.getLastD 0,0) by rw[<-L.u,zp (by omega),Rt.evalI]);have HB:=zD d;clear L x d;go_wp2_with fail;refine(aM f (by omega)).mono ?_;rintro e w2 ⟨rfl,_,H⟩;have J:=zD (HB.u.trans ((H.below f).mono (B':=w.heap.size) (by omega)));clear H f;generalize st.getLastD 0=gv at *;go_wp2_with fail;go_ret2;exact⟨by rw[D.u];rfl,J.u⟩
theorem Ks (h:jz w M B ty tail S m X) (R:dL S m) (hf:qk w BB #[.int .i64 fm.kind,.string fm.name,.int .i64 fm.cells,.slice a1 fm.params.length c1,.slice a2 fm.index.length c2,.slice a3 fm.values.length c3] fm) (A:Rt.Small fm) (f:∀o∈fm.values,o.length<=900):Calls Tryz.prog 180 #[.pointer (some ⟨M,0,none⟩),.agg #[.int .i64 fm.kind,.string fm.name,.int .i64 fm.cells,.slice a1 fm.params.length c1,.slice a2 fm.index.length c2,.slice a3 fm.values.length c3]] w fun e w'=>e=.returned (.tuple #[.int .i64 (Rt.kP S m fm).1,.int .i64 (Rt.kP S m fm).2])/\Below w.heap.size w w':=by
 have _u:=A;clear _u;have d:=(zI w.heap.size w).alloc (zB _) (.cells #[.int .i64 fm.kind,.string fm.name,.int .i64 fm.cells,.slice a1 fm.params.length c1,.slice a2 fm.index.length c2,.slice a3 fm.values.length c3] 143);have U:=h.zP d;obtain⟨pv,iv,vv,vs,D,_,_,V,I⟩:=hf;have N:vv=.slice a3 fm.values.length c3:=by simp at D;exact D.2.2.symm
 subst N;have F:=yG V d;have bF:=zN w (.cells #[.int .i64 fm.kind,.string fm.name,.int .i64 fm.cells,.slice a1 fm.params.length c1,.slice a2 fm.index.length c2,.slice a3 fm.values.length c3] 143);clear h D;by_cases h0:fm.values.length=0
 ·have W:=zD (show Rt.kP S m fm=(0,0) by unfold Rt.kP;rw[yu h0]);have hz:((fm.values.length:Int)==0)=true:=by simpa using h0
  have J:=zD d;clear U V F I bF d R A f h0;go_enter func180,ntmps180;go_wp2_with fail;go_ret2;exact⟨by rw[W.u];rfl,J.u⟩
 ·have hz:((fm.values.length:Int)==0)=false:=by rw[zV];omega
  have Z:(0:Int) < (fm.values.length:Int):=by omega
  obtain⟨o,os,i⟩:∃o os,fm.values=o::os:=by
   cases hv:fm.values with
   | nil=>rw[hv]at h0;simp at h0
   | cons o os=>exact⟨o,os,rfl⟩
  have W:=zD (show Rt.kP S m fm=Rt.zr S m o by unfold Rt.kP;rw[i]);have O:=f o (by rw[i];exact xB ..);obtain⟨x,xs,hx,z⟩:∃x xs,vs=x::xs/\w.ownsRow BB 236 3 x o.length (xX o):=by
   rw[i]at I;cases vs with
   | nil=>exact I.elim
   | cons x xs=>exact⟨x,xs,rfl,I.1⟩
  obtain⟨L,G,rfl⟩:=zK z;subst hx;obtain⟨g,a0,T,_,_,ca⟩:=yD F (j:=0) (u:=.slice L o.length G) rfl;injection T with e1 _ e2;subst e1 e2;have k:=yG z d;have HV:=zD (Ju U R k O);have J:=zD d;clear U V F I d R A f h0 z k i;generalize fm.values.length=vl at *;go_enter func180,ntmps180;go_wp2_with fail;refine HV.u.mono ?_;rintro e w2 ⟨rfl,H⟩;have HF:=zD (J.u.trans (H.mono (B':=w.heap.size) (by simp)));clear H HV J;generalize Rt.zr S m o=y at *;obtain⟨y1,y2⟩:=y;go_wp2_with fail;go_ret2;exact⟨by rw[W.u];rfl,HF.u⟩
theorem ij {cs:List (List Value)} (n:Int) (h:vu w P B zL lk lv cs):Calls Tryz.prog 183 #[.pointer (some ⟨P,0,none⟩),.int .i64 n] w fun e w'=>e=.returned (.int .i64 (Rt.ky lk n))/\Below w.heap.size w w':=by
 go_enter func183,ntmps183;go_wp2_with fail;refine(Kp n h).mono ?_;rintro e w1 ⟨G,F,D,A,z,y,x,o,rfl,_,_,i⟩;have f:=zD (show Rt.ky lk n=if 0 < (Rt.jR lk n).1 then wrap64 ((Rt.jR lk n).1+1)else wrap64 ((Rt.jR lk n).2+1)from rfl);generalize (Rt.jR lk n).1=xe at *;generalize (Rt.jR lk n).2=xf at *;generalize yM zL n=pl at *;have d:=i.alloc i.size (.cells #[.slice G pl.yY.length z,.int .i64 pl.form.kind,.string pl.form.name,.int .i64 pl.form.cells,.slice F pl.form.params.length y,.slice D pl.form.index.length x,.slice A pl.form.values.length o,.int .i64 pl.depth,.int .i64 pl.opener,.int .i64 xe,.int .i64 xf,.int .i64 pl.proc] 145);have k:=zD d;clear h i d;by_cases hx:0 < xe
 ·have j:=zD (f.u.trans (zE hx));clear f;go_wp2;go_ret;exact⟨by rw[j.u];rfl,k.u⟩
 ·have j:=zD (f.u.trans (zA hx));clear f;go_wp2;go_ret;exact⟨by rw[j.u];rfl,k.u⟩
def mX (zL:List Rt.PL) (lk:Qw):Prop:=∀(n:Nat) (p:Rt.PL),zL[n]?=some p->p.form.kind=6->(n:Int)<=(Rt.jR lk p.opener).2/\(Rt.jR lk p.opener).2<=200
namespace Rt
theorem mB (zL:List PL) (lk:Qw) (f:Nat) (n:Int):goOn zL lk (f+1) n=if 0 < n/\n < zL.length then (if xV zL (vU zL n)=true then n else if (vU zL n).form.kind=4/\(yA zL (vU zL n).opener).kind=7 then (vU zL n).opener else if (vU zL n).form.kind=6 then goOn zL lk f (wrap64 ((jR lk (vU zL n).opener).2+1))else goOn zL lk f (wrap64 (n+1)))else 0:=rfl
end Rt
theorem pW {cs:List (List Value)} (n:Int) (h:vu w P B zL lk lv cs) (f4:zL.length<=101) (a6:mX zL lk) (hn:-9223372036854775808<=n/\n<=9223372036854775807):Calls Tryz.prog 92 #[.pointer (some ⟨P,0,none⟩),.int .i64 n] w fun e w'=>e=.returned (.int .i64 (Rt.goOn zL lk 102 n))/\Below w.heap.size w w':=by
 obtain⟨ad,cap,a7,cP⟩:=h.Q3;have HH:=zD h;have b9:=zD a6;clear h a6;go_enter func92,ntmps92;go_wp2_with fail;go_loopw [1,5,6] (fun i _ _ wr=>∃(j:Int) (f:Nat),i=.int .i64 j/\-9223372036854775808<=j/\j<=9223372036854775807/\(zL.length:Int) < f+max j 0+1/\Rt.goOn zL lk f j=Rt.goOn zL lk 102 n/\Below w.heap.size w wr)
  (fun i _ _ _=>(zL.length+1-max (intOf i) 0).toNat)
 case atStart=>exact⟨n,102,rfl,hn.1,hn.2,by omega,rfl,zI _ _⟩
 case round=>
  obtain⟨j,f,rfl,g3,g2,hf,hT,y⟩:=hrel;have J:=HH.u.zP y;have g7:=cell_later y cP;have HT:=zD hT;have HF:=zD hf;clear hT hf cP;by_cases hin:0 < j/\j < zL.length
  ·obtain⟨k,rfl⟩:=yr (show 0<=j by omega);have L:k < zL.length:=by omega
   have c0:(k:Int) < (zL.length:Int):=by omega
   have g1:(0:Int) < (k:Int):=hin.1;have f5:(0:Int)<=(k:Int):=by omega
   obtain⟨W,rfl⟩:∃W,f=W+1:=⟨f-1,by have:=HF.u;omega⟩;obtain⟨g,cap',a0,a1,a2,a3,e0,e1,e2,e3,xe,xf,O,f6,⟨d0,d1,d2,d3,d4,d5,d6,d7,d8,d9,g6,g5⟩,_,_⟩:=J.at L;have a4:=a7.symm.trans O;injection a4 with e1 _ e2;subst e1 e2;have I:=zD (HT.u.symm.trans (mB zL lk W k));have a5:Rt.vU zL (k:Int)=zL[k]:=QQ L;rw[a5,zE hin]at I;have d:=b9.u k zL[k] (zJ L)

   clear O a5 hin HT;have a9:Hd (yM zL (k:Int)=zL[k]):=zD (QQ L);generalize zL[k]=p at *;have T:=(zI wr.heap.size wr).alloc (zB _) (.cells #[.slice a0 p.yY.length e0,.int .i64 p.form.kind,.string p.form.name,.int .i64 p.form.cells,.slice a1 p.form.params.length e1,.slice a2 p.form.index.length e2,.slice a3 p.form.values.length e3,.int .i64 p.depth,.int .i64 p.opener,.int .i64 xe,.int .i64 xf,.int .i64 p.proc] 145);have bA:=zN wr (.cells #[.slice a0 p.yY.length e0,.int .i64 p.form.kind,.string p.form.name,.int .i64 p.form.cells,.slice a1 p.form.params.length e1,.slice a2 p.form.index.length e2,.slice a3 p.form.values.length e3,.int .i64 p.depth,.int .i64 p.opener,.int .i64 xe,.int .i64 xf,.int .i64 p.proc] 145);have D:=J.zP T;have G:=y.trans (T.mono (B':=w.heap.size) y.size);clear J y T;go_wp2_with fail;refine(pQ (k:Int) D).mono ?_;rintro e w2 ⟨rfl,M⟩;rw[a9.u];have F:=D.zP M;have o:=G.trans (M.mono (B':=w.heap.size) G.size);have z:=zU bA M;clear D G M bA;cases hst:Rt.xV zL p with
   | true=>
    have A:=zD (I.u.trans (zE hst));have N:=zD o;clear I hst F o z d;go_wp2;go_ret;exact⟨by rw[A.u];rfl,N.u⟩
   | false=>
    have x:=zD (I.u.trans (zA (by rw[hst];simp)));clear I hst;have q1:=zC z 1 (by simp);have q8:=zC z 8 (by simp);simp only[yQ,yH,zv]at q1 q8;go_wp2_with fail;refine(Kp p.opener F).mono ?_;rintro e w3 ⟨b0,b1,b2,b3,f0,f1,f2,f3,rfl,_,_,H⟩;have b8:=zD (Zk zL p.opener);generalize yM zL p.opener=po at *;generalize g0:(Rt.jR lk p.opener).1=ye at *;generalize f9:(Rt.jR lk p.opener).2=yf at *;have U:=(zI w3.heap.size w3).alloc (zB _) (.cells #[.slice b0 po.yY.length f0,.int .i64 po.form.kind,.string po.form.name,.int .i64 po.form.cells,.slice b1 po.form.params.length f1,.slice b2 po.form.index.length f2,.slice b3 po.form.values.length f3,.int .i64 po.depth,.int .i64 po.opener,.int .i64 ye,.int .i64 yf,.int .i64 po.proc] 145);have a8:=zN w3 (.cells #[.slice b0 po.yY.length f0,.int .i64 po.form.kind,.string po.form.name,.int .i64 po.form.cells,.slice b1 po.form.params.length f1,.slice b2 po.form.index.length f2,.slice b3 po.form.values.length f3,.int .i64 po.depth,.int .i64 po.opener,.int .i64 ye,.int .i64 yf,.int .i64 po.proc] 145);have V:=zU (zU z H) U;have r1:=zC V 1 (by simp);have r8:=zC V 8 (by simp);simp only[yQ,yH,zv]at r1 r8;have R:=(o.trans (H.mono (B':=w.heap.size) o.size)).trans (U.mono (B':=w.heap.size) (by have:=o.size;have:=H.size;omega));have N:=zD R;have f8:¬wr.heap.size=w3.heap.size:=by have:=zQ (zU z H);omega
    clear F o z H U a8 V R q1 q8;generalize p.opener=op at *;generalize p.form.kind=kx at *;have b5:=zD (show (Rt.yA zL op).kind=po.form.kind by rw[b8.u]);rw[b5.u]at x;generalize po.form.kind=ko at *;by_cases h4:kx=4
    ·subst h4;by_cases h7:ko=7
     ·subst h7;have A:=zD (x.u.trans (zE ⟨rfl,rfl⟩));clear x d;go_wp2;go_ret;exact⟨by rw[A.u];rfl,N.u⟩
     ·have b7:(ko==7)=false:=by rw[zV];exact h7
      have A:=zD ((x.u.trans (zA (fun e=>h7 e.2))).trans (zA (by omega)));have Z:IntKind.i64.wrap ((k:Int)+1)=(k:Int)+1:=by rw[yv,yC _ (by omega)]
      clear x d h7;go_wp2_with fail;go_roundw
      case rel=>
       have hf:=HF.u;refine⟨(k:Int)+1,W,by go_num,by omega,by omega,by omega,?_,N.u⟩;have:=A.u;rw[yC _ (by omega)]at this;exact this.symm
      case measure=>simp[intOf];omega
    ·have b4:(kx==4)=false:=by rw[zV];exact h4
     by_cases h6:kx=6
     ·subst h6;have f7:=d rfl;have A:=zD ((x.u.trans (zA (fun e=>h4 e.1))).trans (zE rfl));have Z:IntKind.i64.wrap (yf+1)=yf+1:=by rw[yv,yC _ (by omega)]
      clear x d;go_wp2_with fail;go_roundw
      case rel=>
       have hf:=HF.u;refine⟨yf+1,W,by go_num,by omega,by omega,by omega,?_,N.u⟩;have:=A.u;rw[yC _ (by omega)]at this;exact this.symm
      case measure=>simp[intOf];omega
     ·have b6:(kx==6)=false:=by rw[zV];exact h6
      have A:=zD ((x.u.trans (zA (fun e=>h4 e.1))).trans (zA h6));have Z:IntKind.i64.wrap ((k:Int)+1)=(k:Int)+1:=by rw[yv,yC _ (by omega)]
      clear x d h4 h6;go_wp2_with fail;go_roundw
      case rel=>
       have hf:=HF.u;refine⟨(k:Int)+1,W,by go_num,by omega,by omega,by omega,?_,N.u⟩;have:=A.u;rw[yC _ (by omega)]at this;exact this.symm
      case measure=>simp[intOf];omega
  ·have A:Hd (Rt.goOn zL lk 102 n=0):=by
    refine zD ?_;rw[<-HT.u];cases f with
    | zero=>rfl
    | succ f=>rw[mB,zA hin]
   have N:=zD y;clear J y HT HF;by_cases hj:0 < j
   ·have g4:¬j < (zL.length:Int):=fun e=>hin ⟨hj,e⟩;clear hin;go_wp2;go_ret;exact⟨by rw[A.u];rfl,N.u⟩
   ·clear hin;go_wp2;go_ret;exact⟨by rw[A.u];rfl,N.u⟩
def Z4 (X:ZK):List Nat:=([X.iv,X.fv,X.vv,X.ov]++(X.xg++X.YR)).filterMap Value.ownBlock
theorem eo:∀(a:List Value) (b:List (List Int)),a.length=b.length->xh (List.zipWith zz a b)=a.filterMap Value.ownBlock
 | [],[],_=>rfl
 | [],_::_,h=>by simp at h
 | _::_,[],h=>by simp at h
 | x::a,y::b,h=>by
  rw[jT,ka,eo a b (by simpa using h),List.filterMap_cons];show (match x.ownBlock with | none=>_ | some g=>_)=_;cases x.ownBlock <;> rfl
theorem jz.xh {w:World} {M B:Nat} {ty:TypeId} {tail:List Value} {S:Rt.Src} {m:Rt.Mc} {X:ZK} (h:jz w M B ty tail S m X):xh (rowsOf S.input X m)=Z4 X:=by
 unfold rowsOf Z4;rw[jd,jd,eo _ _ (by simp[h.fl]),eo _ _ h.vl,List.filterMap_append,List.filterMap_append];rfl
structure Z8 (M B:Nat) (ty:TypeId) (tail:List Value) (S:Rt.Src) (X X':ZK) (m':Rt.Mc) (w w':World):Prop where
 mc:jz w' M B ty tail S m' X'
 vz:VM w w' (M::Z4 X)
 grow:vd w (Z4 X) (Z4 X')
 lt:M < w.heap.size
theorem Z8.start (h:jz w M B ty tail S m X) (d:Below w.heap.size w w'):Z8 M B ty tail S X X m w w':=⟨h.zP d,VM.jQ _ d,vd.refl _ _,zQ h.block⟩
theorem Z8.below (h:Z8 M B ty tail S X X' m w w1) (d:Below w1.heap.size w1 w2):Z8 M B ty tail S X X' m w w2:=
 ⟨h.mc.zP d,h.vz.trans (VM.jQ [] d) (fun _ h=>by cases h),h.grow,h.lt⟩
theorem Z8.put {m2:Rt.Mc} (h:Z8 M B ty tail S X X' m w w1) (f:V8 M B ty tail S m m2 X' w1 w2):Z8 M B ty tail S X X' m2 w w2:=by
 refine⟨f.1,h.vz.trans f.2 ?_,h.grow,h.lt⟩;rw[h.mc.xh];intro k hk;rcases h.grow k hk with d | d
 ·exact Or.inl (zm _ d)
 ·exact Or.inr d
theorem Z8.aside {M B:Nat} {ty:TypeId} {tail:List Value} {S:Rt.Src} {m:Rt.Mc} {X X':ZK} {w w':World} (h:Z8 M B ty tail S X X' m w w') {N:Nat} {cs:Array Value} {t:TypeId} (o:w'.heap[N]?=some (.cells cs t (0,0))) (j:w.heap.size<=N) (f:¬Xe t/\t≠3/\t≠153/\t≠24) (i:Nat) (v:Value):Z8 M B ty tail S X X' m w (w'.setCell ⟨N,i,none⟩ v):=by
 have d:=h.lt;refine⟨h.mc.aside o (by omega) f i v,⟨h.vz.os,h.vz.tape,h.vz.output,zi h.vz.size (by simp[World.setCell]),fun k hk hn=>?_⟩,h.grow,h.lt⟩;rw[zO w' ⟨N,i,none⟩ v k (by show k≠N;omega)];exact h.vz.block k hk hn
abbrev W3 (w:World) (N:Nat) (a b c:Value):World:=((w.setCell ⟨N,0,none⟩ a).setCell ⟨N,1,none⟩ b).setCell ⟨N,2,none⟩ c
theorem Z8.three (h:Z8 M B ty tail S X X' m w w') (j:w'.heap[N]?=some (.cells cs t (0,0))) (d:w.heap.size<=N) (f:¬Xe t/\t≠3/\t≠153/\t≠24) (a b c:Value):Z8 M B ty tail S X X' m w (W3 w' N a b c):=by
 have i:=zf j 0 a;have n2:=zf i 1 b;exact((h.aside j d f 0 a).aside i d f 1 b).aside n2 d f 2 c
def xE (rs:List Rt.Rec):List Value:=rs.flatMap YV
def eE (M B:Nat) (ty:TypeId) (tail:List Value) (S:Rt.Src) (X:ZK) (o:Rt.Out) (w:World) (e:Ending) (w':World):Prop:=
 ∃rv X',e=.returned (.agg #[.int .i64 o.fin,.int .i64 o.next,rv])/\Z8 M B ty tail S X X' o.m w w'/\w'.ownsRow w.heap.size 162 5 rv o.YU.length (xE o.YU)
abbrev Qd (fm:Rt.qS) (a1 a2 a3:Option Addr) (c1 c2 c3:Nat):Array Value:=#[.int .i64 fm.kind,.string fm.name,.int .i64 fm.cells,.slice a1 fm.params.length c1,.slice a2 fm.index.length c2,.slice a3 fm.values.length c3]
theorem yb {v0 v1 v2:Value} (h:w.heap[N]?=some (.cells #[v0,v1,v2] t (0,0))):w.cell? ⟨N,0,none⟩=some v0/\w.cell? ⟨N,1,none⟩=some v1/\w.cell? ⟨N,2,none⟩=some v2:=
 ⟨zC h 0 (by simp),zC h 1 (by simp),zC h 2 (by simp)⟩
theorem ZY {v:Array Value} (h:qk w BB v fm) (d:Below w.heap.size w w'):qk w' BB v fm:=(xZ (B:=BB) d).form h
theorem FC:(W3 w N a b c).heap.size=w.heap.size:=by simp[World.setCell]
theorem eQ (n:Nat) (w:World) (B R:Nat) (cs:Array Value) (h:B<=w.heap.size) (a b c:Value) (d:cs.size=n*5) (i:n<=1000):((W3 w R a b c).alloc (.cells cs 162)).ownsRow B 162 5 (.slice (some ⟨w.heap.size,0,none⟩) n n) n cs.toList:=by
 have f:=zN (W3 w R a b c) (.cells cs 162);rw[FC]at f;refine⟨by simp[d],Or.inr ⟨w.heap.size,n,cs,rfl,h,f,zB _,by unfold maxLen;omega,d,?_⟩⟩;exact yw (by simp[d])
theorem Km {x y z:Value} (h:w.heap[R]?=some (.cells #[x,y,z] t (0,0))) (a b c:Value):(W3 w R a b c).heap[R]?=some (.cells #[a,b,c] t (0,0)):=by
 have:=zf (zf (zf h 0 a) 1 b) 2 c;simpa using this
theorem fU (m:Rt.Mc) (s:Rt.Q9) (v:Int):(Rt.jN m s v).line=m.line:=by
 unfold Rt.jN;split
 ·split <;> rfl
 ·rfl
theorem iF {k:Nat} (d:k≠N):(W3 w N a b c).heap[k]?=w.heap[k]?:=by
 simp only[W3]
 repeat rw[zO _ _ _ _ d]
theorem mu {q:Nat} (n:Nat) (h:w.heap[q]?=some (.cells cs 162 (0,0))) (d:q≠R) (i:B<=q) (a b c:Value) (f:cs.size=n*5) (j:n<=1000):(W3 w R a b c).ownsRow B 162 5 (.slice (some ⟨q,0,none⟩) n n) n cs.toList:=by
 refine⟨by simp[f],Or.inr ⟨q,n,cs,rfl,i,by rw[iF d];exact h,zB _,by unfold maxLen;omega,f,?_⟩⟩;exact yw (by simp[f])
theorem nw (h:jz w M B ty tail S m X) (hm:dL S m) (hf:qk w BB (Qd fm a1 a2 a3 c1 c2 c3) fm) (U:Rt.Small fm) (G:∀o∈fm.values,o.length<=900) (hk:fm.kind=8):Calls Tryz.prog 145 #[.pointer (some ⟨M,0,none⟩),.agg (Qd fm a1 a2 a3 c1 c2 c3)] w (eE M B ty tail S X (Rt.perform S m fm) w):=by
 have x:=((zI w.heap.size w).alloc (zB _) (.cells (Qd fm a1 a2 a3 c1 c2 c3) 143)).alloc (by simp) (.cells #[.int .i64 0,.int .i64 0,.slice none 0 0] 157);have bF:=yR (zN w (.cells (Qd fm a1 a2 a3 c1 c2 c3) 143)) (.cells #[.int .i64 0,.int .i64 0,.slice none 0 0] 157);have bR:=qD w (.cells (Qd fm a1 a2 a3 c1 c2 c3) 143) (.cells #[.int .i64 0,.int .i64 0,.slice none 0 0] 157);have hA:=h.zP x;have V:=ZY hf x;have HP:=zD (show Rt.perform S m fm=if (Rt.kP S m fm).2=0 then ⟨0,wrap64 (m.line+1),[Rt.stay m.line,Rt.stored m (Rt.vx S m fm.name)],Rt.jN m (Rt.vx S m fm.name) (Rt.kP S m fm).1⟩else Rt.ended m (Rt.kP S m fm).2 by unfold Rt.perform;simp only;rw[zE hk]);have HH:=zD h;clear h hf hk;go_enter func145,ntmps145;go_wp2_with fail;refine(Ks hA hm V U G).mono ?_;rintro e w1 ⟨rfl,j⟩;have k:=x.trans (j.mono (B':=w.heap.size) (by simp;omega));have R:=zU bF j;have i:=zU bR j;have k1:=zC R 1 (by simp);simp at k1;have h1:=hA.zP j;clear hA V x bF bR j;generalize Rt.kP S m fm=v at *;obtain⟨v1,v2⟩:=v;simp only at HP;by_cases hv:v2=0
 ·subst hv
  replace HP:=zD (HP.u.trans (zE rfl))
  go_wp2_with fail;refine(fy fm.name h1 hm).mono ?_;rintro e w2 ⟨rfl,A⟩;have L:=k.trans (A.mono (B':=w.heap.size) k.size);have h2:=h1.zP A;have a4:=zU i A;clear h1 A k R i k1;have y:=(zI w2.heap.size w2).alloc (zB _) (.cells #[.int .i64 (Rt.vx S m fm.name).line,.int .i64 (Rt.vx S m fm.name).cell] 160);have h3:=h2.zP y;have W:=L.trans (y.mono (B':=w.heap.size) L.size);have F:=zU a4 y;have a8:=zN w2 (.cells #[.int .i64 (Rt.vx S m fm.name).line,.int .i64 (Rt.vx S m fm.name).cell] 160);clear h2 y L a4;generalize Rt.vx S m fm.name=sp at *;go_wp2_with fail;refine(Kv sp v1 h3 hm).mono ?_;rintro e T ⟨rfl,H⟩;have Z:=(Z8.start HH.u W).put H;have a0:=(H.2.block _ (zQ F) (QF h3.own F (by decide))).trans F;clear h3 W F a8 H;have a9:=zD (show Rt.stored m sp=⟨4,0,sp,Rt.ZL m sp⟩from rfl);generalize Rt.ZL m sp=J8 at *;have J:=(zI T.heap.size T).alloc (zB _) (.cells #[.int .i64 4,.int .i64 0,.int .i64 sp.line,.int .i64 sp.cell,.int .i64 J8] 162);have d:=Z.below J;have f:=zU a0 J;have a5:=zN T (.cells #[.int .i64 4,.int .i64 0,.int .i64 sp.line,.int .i64 sp.cell,.int .i64 J8] 162);have c6:=d.mc.c6;have HL:=zD (show (Rt.jN m sp v1).line=m.line from fU m sp v1);rw[HL.u]at c6;have a6:=qG d f;obtain⟨p0,p1,p2,p3,p4⟩:=QY a5;clear Z d a0 f J a5;go_wp2_with fail;generalize T.alloc (.cells #[.int .i64 4,.int .i64 0,.int .i64 sp.line,.int .i64 sp.cell,.int .i64 J8] 162)=w5 at *;generalize T.heap.size=O at *;go_region_held3 (fun w'=>w'.cell? ⟨M,6,none⟩=some (.int .i64 m.line)/\w'.cell? ⟨O,0,none⟩=some (.int .i64 4)/\w'.cell? ⟨O,1,none⟩=some (.int .i64 0)/\w'.cell? ⟨O,2,none⟩=some (.int .i64 sp.line)/\w'.cell? ⟨O,3,none⟩=some (.int .i64 sp.cell)/\w'.cell? ⟨O,4,none⟩=some (.int .i64 J8)) (go_keep) (fail);obtain⟨d,f⟩:=a6.u;have I:=((zI w5.heap.size w5).alloc (zB _) (.cells #[.int .i64 1,.int .i64 m.line,.int .i64 0,.int .i64 0,.int .i64 0,.int .i64 4,.int .i64 0,.int .i64 sp.line,.int .i64 sp.cell,.int .i64 J8] 162)).drew;have bQ:(w5.alloc (.cells #[.int .i64 1,.int .i64 m.line,.int .i64 0,.int .i64 0,.int .i64 0,.int .i64 4,.int .i64 0,.int .i64 sp.line,.int .i64 sp.cell,.int .i64 J8] 162)).drew.heap[w5.heap.size]?=_:=zN w5 (.cells #[.int .i64 1,.int .i64 m.line,.int .i64 0,.int .i64 0,.int .i64 0,.int .i64 4,.int .i64 0,.int .i64 sp.line,.int .i64 sp.cell,.int .i64 J8] 162);have N:=d.below I;have D:=zU f I;have a7:=N.mc.c6;rw[HL.u]at a7;have hQ:=d.vz.size;have b1:=zQ bQ;have b0:=zQ f;clear d f I a6 c6 p0 p1 p2 p3 p4;generalize (w5.alloc (.cells #[.int .i64 1,.int .i64 m.line,.int .i64 0,.int .i64 0,.int .i64 0,.int .i64 4,.int .i64 0,.int .i64 sp.line,.int .i64 sp.cell,.int .i64 J8] 162)).drew=w6 at *;generalize w5.heap.size=q at *;obtain⟨r0,r1,r2⟩:=yb D;have z:=zS D;have HF:=zD (fun a b c=>And.intro (N.three D (by omega) (by unfold Xe;decide) a b c) (mu 2 bQ (show q≠w.heap.size+1 by omega) hQ a b c rfl (by omega)));clear N D bQ;go_wp2_with fail;refine zT (v:=.agg #[.int .i64 0,.int .i64 (wrap64 (m.line+1)),.slice (some ⟨q,0,none⟩) 2 2]) ?_ rfl ⟨_,_,by rw[HP.u],by rw[HP.u];exact(HF.u _ _ _).1,by rw[HP.u,a9.u];exact(HF.u _ _ _).2⟩;simp[results,results145,go_sem,r0,r1,r2]
 ·replace HP:=zD (HP.u.trans (zA hv))
  have bv:(v2 != 0)=true:=by simpa using hv
  obtain⟨r0,r1,r2⟩:=yb i;have z:=zS i;have HF:=zD (fun a b c=>(Z8.start HH.u k).three i (by omega) (by unfold Xe;decide) a b c);clear h1 k R i k1 hv hm G U;go_wp2_with fail;refine zT (v:=.agg #[.int .i64 v2,.int .i64 0,.slice none 0 0]) ?_ rfl ⟨_,_,by rw[HP.u];rfl,by rw[HP.u];exact HF.u _ _ _,by rw[HP.u];exact zW _ _ _ _⟩;simp[results,results145,go_sem,r0,r1,r2]
end
structure rS where
 kind:Int
 a:Int
 b:Int
 c:Int
 s:ByteArray
 v:Value
 l:List Int
def iO (o:rS):Value:=.agg #[.int .i64 o.kind,.int .i64 o.a,.int .i64 o.b,.int .i64 o.c,.string o.s,o.v]
structure BX (w:World) (v:Value) (ops:List rS):Prop where
 cells:∃ad cap,v=.slice ad ops.length cap/\(ops=[]\/∃g o,ad=some ⟨g,o,none⟩/\∀j (h:j < ops.length),w.cell? ⟨g,o+j*6,none⟩=some (.int .i64 ops[j].kind)/\w.cell? ⟨g,o+j*6+1,none⟩=some (.int .i64 ops[j].a)/\w.cell? ⟨g,o+j*6+2,none⟩=some (.int .i64 ops[j].b)/\
  w.cell? ⟨g,o+j*6+3,none⟩=some (.int .i64 ops[j].c)/\w.cell? ⟨g,o+j*6+4,none⟩=some (.string ops[j].s)/\w.cell? ⟨g,o+j*6+5,none⟩=some ops[j].v)
 str:∀op∈ops,op.s.size<=maxLen
 lst:∀op∈ops,kA w op.v op.l/\op.l.length<=17592186044416
 FN:∀op∈ops,(-9223372036854775808<=op.a/\op.a<=9223372036854775807)/\(-9223372036854775808<=op.b/\op.b<=9223372036854775807)/\(-9223372036854775808<=op.c/\op.c<=9223372036854775807)
def GQ (w:World) (kg:Nat) (ks:List Int):Prop:=∀j (h:j < ks.length),w.cell? ⟨kg,j,none⟩=some (.int .i64 ks[j])
structure FT (w0:World) (S:Nat) (ops:List rS) (ks:List Int) (I:World->Nat->Prop):Prop where
 zP:∀w w' k,I w k->Below w.heap.size w w'->I w' k
 skip:∀w k,k < ops.length->I w k->I w (k+1)
 lt:∀w k,I w k->S < w.heap.size
 step:∀w k (hk:k < ops.length),ops[k].kind∈ks->I w k->Below S w0 w->Calls Tryz.prog 10 #[.pointer (some ⟨S,0,none⟩),iO ops[k]] w fun e w'=>e=.returned (.bool true)/\Below S w w'/\I w' (k+1)
 looks:∀w k,k<=ops.length->I w k->Calls Tryz.prog 11 #[.pointer (some ⟨S,0,none⟩)] w fun e w'=>e=.returned (.bool true)/\Below w.heap.size w w'
theorem AB {ops:List rS} {ks:List Int} {kg:Nat} (I:World->Nat->Prop) (h:BX w v ops) (hk:GQ w kg ks) (a1:ks.length<=100) (W:ops.length<=140737488355328) (N:∀w',w'.heap[w.heap.size]?=some (.cells #[.slice none 0 0,.slice none 0 0] 30 (0,0))->w'.heap.size=w.heap.size+1->I w' 0) (hP:FT w w.heap.size ops ks I):Calls Tryz.prog 9 #[v,.slice (some ⟨kg,0,none⟩) ks.length ks.length] w fun e w'=>e=.returned (.bool true)/\Below w.heap.size w w':=by
 have HH:=zD h;have HK:=zD hk;have HPP:=zD hP;obtain⟨ad,cap,rfl,_⟩:=h.cells;have HA:=zD (N _ (zN w (.cells #[.slice none 0 0,.slice none 0 0] 30)) (by simp));clear h hk hP N;go_enter func9,ntmps9;go_wp2;go_loopw [6] (fun i wr=>∃(k:Nat),k<=ops.length/\i=.int .i64 k/\I wr k/\Below w.heap.size w wr) (fun i _=>ops.length-(intOf i).toNat)
 case atStart=>exact⟨0,zo _,rfl,HA.u,(zI _ _).alloc (zB _) _⟩
 case round=>
  obtain⟨k,Z,rfl,hL,H⟩:=hrel;have HL:=qG hL H;clear hL H;by_cases hlt:k < ops.length
  ·have G:(k:Int) < (ops.length:Int):=by omega
   have a2:(0:Int)<=(k:Int):=by omega
   obtain⟨a3,cap',he,hcells⟩:=HH.u.cells;simp at he;obtain⟨rfl,rfl⟩:=he;rcases hcells with hnil | ⟨g,o,hado,hcells⟩
   ·rw[hnil]at hlt;simp at hlt
   subst hado;have HC:Hd (∀w',Below w.heap.size w w'->w'.cell? ⟨g,o+k*6,none⟩=some (.int .i64 ops[k].kind)/\w'.cell? ⟨g,o+k*6+1,none⟩=some (.int .i64 ops[k].a)/\w'.cell? ⟨g,o+k*6+2,none⟩=some (.int .i64 ops[k].b)/\w'.cell? ⟨g,o+k*6+3,none⟩=some (.int .i64 ops[k].c)/\w'.cell? ⟨g,o+k*6+4,none⟩=some (.string ops[k].s)/\w'.cell? ⟨g,o+k*6+5,none⟩=some ops[k].v):=zD (fun w' hb=>
    let ⟨N,h1,h2,h3,h4,h5⟩:=hcells k hlt;⟨cell_later hb N,cell_later hb h1,cell_later hb h2,cell_later hb h3,cell_later hb h4,cell_later hb h5⟩);have M:=zD (show ∀w',ops[k].kind∈ks->I w' k->Below w.heap.size w w'->_ from fun w' h1 h2 h3=>HPP.u.step w' k hlt h1 h2 h3);have F:iO ops[k]=.agg #[.int .i64 ops[k].kind,.int .i64 ops[k].a,.int .i64 ops[k].b,.int .i64 ops[k].c,.string ops[k].s,ops[k].v]:=rfl;rw[F]at M;clear hcells F;generalize ops[k].kind=kd at *;generalize ops[k].a=oa at *;generalize ops[k].b=ob at *;generalize ops[k].c=oc at *;generalize ops[k].s=os at *;generalize ops[k].v=ol at *;go_wp2_with fail;go_loopw [7,8] (fun inb j wr2=>∃q:Nat,q<=ks.length/\j=.int .i64 q/\inb=.bool ((ks.take q).any (fun x=>kd==x))/\I wr2 k/\Below w.heap.size w wr2) (fun _ j _=>ks.length-(intOf j).toNat)
   case atStart=>exact⟨0,zo _,rfl,by simp,HL.u.1,HL.u.2⟩
   case round=>
    obtain⟨q,hq,rfl,rfl,f,d⟩:=hrel;obtain⟨c0,V,U,T,R,O⟩:=HC.u _ d;have HL2:=qG f d;by_cases hql:q < ks.length
    ·have D:(q:Int) < (ks.length:Int):=by omega
     have a0:(0:Int)<=(q:Int):=by omega
     have cK:=cell_later d (HK.u q hql);have HT:=zD (show ((ks.take (q+1)).any (fun x=>kd==x))=(((ks.take q).any (fun x=>kd==x))|| (kd==ks[q])) by rw[kI,zJ hql,List.any_append,Option.toList_some,vw,bn,Bool.or_false]);clear f d V U T R O;generalize ks[q]=kx at *;generalize (ks.take q).any (fun x=>kd==x)=ib at *;cases ib with
     | true=>
      go_wp2_with fail;go_region;go_wp2_with fail;go_roundw
      case rel=>exact⟨q+1,by omega,by go_num,by rw[HT.u];first | rfl | simp,HPP.u.zP _ _ _ HL2.u.1 (zh _),HL2.u.2.trans ((zh _).mono HL2.u.2.size)⟩
      case measure=>simp[intOf];omega
     | false=>
      go_wp2_with fail;go_region_held3 (fun w'=>w'.cell? ⟨kg,q,none⟩=some (.int .i64 kx)/\w'.cell? ⟨g,o+k*6,none⟩=some (.int .i64 kd)) (go_keep) (fail);go_wp2_with fail;go_roundw
      case rel=>exact⟨q+1,by omega,by go_num,by rw[HT.u];first | rfl | simp,HPP.u.zP _ _ _ HL2.u.1 (zh _),HL2.u.2.trans ((zh _).mono HL2.u.2.size)⟩
      case measure=>simp[intOf];omega
    ·have D:¬(q:Int) < (ks.length:Int):=by omega
     have z:ks.take q=ks:=yw (by omega);rw[z];cases hz:ks.any (fun x=>kd==x)with
     | false=>
      clear f d c0 V U T R O z;go_wp2_with fail;go_roundw
      case rel=>exact⟨k+1,by omega,by go_num,HPP.u.skip _ k hlt HL2.u.1,HL2.u.2⟩
      case measure=>simp[intOf];omega
     | true=>
      have HM:=zD (show kd∈ks by simpa using hz);clear f d hz z;go_wp2_with fail;refine(M.u _ HM.u HL2.u.1 HL2.u.2).mono ?_;rintro e w3 ⟨rfl,J,L⟩;have y:=qG L (HL2.u.2.trans J);clear L J c0 V U T R O;go_wp2_with fail;refine(HPP.u.looks _ (k+1) (by omega) y.u.1).mono ?_;rintro e w4 ⟨rfl,A⟩;have HL4:=qG (HPP.u.zP _ _ _ y.u.1 A) (y.u.2.trans (A.mono y.u.2.size));clear A;go_wp2_with fail;go_roundw
      case rel=>exact⟨k+1,by omega,by go_num,HL4.u.1,HL4.u.2⟩
      case measure=>simp[intOf];omega
  ·have G:¬(k:Int) < (ops.length:Int):=by omega
   go_wp2;go_ret;exact⟨rfl,HL.u.2⟩
theorem BX.zP {w w':World} {v:Value} {ops:List rS} (h:BX w v ops) (d:Below w.heap.size w w'):BX w' v ops:=by
 obtain⟨⟨x,cap,rfl,h⟩,k,f,i⟩:=h;refine⟨⟨x,cap,rfl,?_⟩,k,fun op ho=>⟨(f op ho).1.zP d,(f op ho).2⟩,i⟩;rcases h with h | ⟨g,o,rfl,h⟩
 ·exact Or.inl h
 ·exact Or.inr ⟨g,o,rfl,fun j hj=>let ⟨h0,h1,k,f,i,h5⟩:=h j hj;⟨cell_later d h0,cell_later d h1,cell_later d k,cell_later d f,cell_later d i,cell_later d h5⟩⟩
end Go.Proofs.YthleadfkfnnadaaGreat
